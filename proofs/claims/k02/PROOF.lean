import PyProof.Rows.All
import Wide.All
import OpenK.AllK
import Wide.FinOn
import Lean
import PyProof.EqAt
import PyProof.EqKinds
import PyProof.TupleCall
import PyProof.NeKinds
import PyProof.CompFree
import KE.KIsAll
import OpenK.KOwn
import PyProof.RulesAs
import KE.RegKIsAll
import PyProof.ExcAttrAll.ValueError
import KE.KUnpack
import PyProof.Rows.StrWeight2
import PyProof.StrBlockI
import OpenK.KTop
import PyProof.ListStr
import PySem.Challenge.RW_fanglue_k02_fractions_made
set_option Elab.async false
set_option linter.all false
set_option maxRecDepth 100000
namespace L2
open PySem PySem.Spec PyProof.Rows
abbrev Key := Sum Int Str
def keyIs : Key → Value → Bool
  | .inl k, v => Value.isInt k v
  | .inr x, v => Value.isStrOf x v
def keyH (w : World) : Key → Int
  | .inl k => hashInt k
  | .inr x => hashStr w x
theorem keyIs_shape : ∀ {k : Key} {v : Value}, keyIs k v = true → (∃ i t, k = Sum.inl i ∧ v = Value.int i t) ∨ (∃ x t, k = Sum.inr x ∧ v = Value.str x t)
  | .inl i, v, h => by
    obtain ⟨t, e⟩ := Value.isInt_shape (k := i) (v := v) h
    exact .inl ⟨i, t, rfl, e⟩
  | .inr x, v, h => by
    obtain ⟨t, e⟩ := Value.isStrOf_shape (x := x) (v := v) h
    exact .inr ⟨x, t, rfl, e⟩
theorem key_ll (a b : Int) : decide ((Sum.inl a : Key) = Sum.inl b) = (a == b) := by
  by_cases e : a = b
  · subst e; simp
  · have h : ¬ (Sum.inl a : Key) = Sum.inl b := fun q => e (Sum.inl.inj q)
    rw [decide_eq_false h]
    exact (beq_eq_false_iff_ne.mpr e).symm
theorem key_rr (a b : Str) : decide ((Sum.inr a : Key) = Sum.inr b) = decide (a = b) := by
  by_cases e : a = b
  · subst e; simp
  · have h : ¬ (Sum.inr a : Key) = Sum.inr b := fun q => e (Sum.inr.inj q)
    rw [decide_eq_false h, decide_eq_false e]
theorem key_lr (a : Int) (b : Str) : decide ((Sum.inl a : Key) = Sum.inr b) = false := decide_eq_false (fun q => nomatch q)
theorem key_rl (a : Str) (b : Int) : decide ((Sum.inr a : Key) = Sum.inl b) = false := decide_eq_false (fun q => nomatch q)
def mixKind (prog : Program) (w : World) : PySem.KeyKind prog w Key where
  is := keyIs
  hash := keyH w
  inj := fun v a b ha hb => by
    rcases keyIs_shape ha with ⟨i, t, rfl, rfl⟩ | ⟨x, t, rfl, rfl⟩
    · rcases keyIs_shape hb with ⟨j, u, rfl, e⟩ | ⟨y, u, rfl, e⟩
      · injection e with e1 _; rw [e1]
      · exact nomatch e
    · rcases keyIs_shape hb with ⟨j, u, rfl, e⟩ | ⟨y, u, rfl, e⟩
      · exact nomatch e
      · injection e with e1 _; rw [e1]
  byValue := fun k v h => by
    rcases keyIs_shape h with ⟨i, t, rfl, rfl⟩ | ⟨x, t, rfl, rfl⟩ <;> rfl
  pyHash := fun hv h => by
    rcases keyIs_shape hv with ⟨i, t, rfl, rfl⟩ | ⟨x, t, rfl, rfl⟩
    · exact wpAny_pyHash_int h
    · exact wpAny_pyHash_str h
  eqBool := fun hu hv h => by
    rcases keyIs_shape hu with ⟨i, t, rfl, rfl⟩ | ⟨x, t, rfl, rfl⟩
    · rcases keyIs_shape hv with ⟨j, u, rfl, rfl⟩ | ⟨y, u, rfl, rfl⟩
      · rw [key_ll] at h; exact wpAny_eqBool_int h
      · rw [key_lr] at h; exact SeqAt.EqAt.int_str i t y u _ _ _ _ h
    · rcases keyIs_shape hv with ⟨j, u, rfl, rfl⟩ | ⟨y, u, rfl, rfl⟩
      · rw [key_rl] at h; exact SeqAt.EqAt.str_int x t j u _ _ _ _ h
      · rw [key_rr] at h; exact wpAny_eqBool_str h
  «strs» := fun k x t v h => by
    rcases keyIs_shape h with ⟨i, u, rfl, e⟩ | ⟨y, u, rfl, e⟩
    · exact nomatch e
    · injection e with e1 _
      subst e1
      cases v <;> rfl
end L2
namespace L2
open PySem PySem.Spec PyProof.Rows
inductive V where
  | non | bl (b : Bool) | int (i : Int) | str (x : Str) | byt (b : Array UInt8) | flt (b : UInt64) | ref (a : Addr) | ty (n : String)
  deriving DecidableEq
def RelV : V → Value → Prop
  | .non, u => u = Value.none
  | .bl b, u => u = Value.bool b
  | .int i, u => ∃ t, u = Value.int i t
  | .str x, u => ∃ t, u = Value.str x t
  | .byt b, u => ∃ t, u = Value.bytes b t
  | .flt b, u => ∃ t, u = Value.float b t
  | .ref a, u => u = Value.ref a
  | .ty n, u => u = Value.type n
abbrev Vals : List V → List Value → Prop := Paired RelV
theorem Vals.length {xs : List V} {us : List Value} (r : Vals xs us) : xs.length = us.length := Paired.length r
theorem Vals.get : ∀ {xs : List V} {us : List Value} {i : Nat} {x : V}, Vals xs us → xs[i]? = some x → ∃ u, us[i]? = some u ∧ RelV x u
  | _, _, _, _, .nil, e => by simp at e
  | _, _, 0, _, .cons r _, e => by simp at e; subst e; exact ⟨_, rfl, r⟩
  | _, _, i + 1, x, .cons _ t, e => by
    obtain ⟨u, h1, h2⟩ := Vals.get (i := i) (x := x) t (by simpa using e)
    exact ⟨u, by simpa using h1, h2⟩
theorem Vals.set {x : V} {u : Value} (r : RelV x u) : ∀ {xs : List V} {us : List Value} (i : Nat), Vals xs us → Vals (xs.set i x) (us.set i u)
  | _, _, _, .nil => .nil
  | _, _, 0, .cons _ t => .cons r t
  | _, _, i + 1, .cons q t => .cons q (Vals.set r i t)
theorem Vals.append : ∀ {xs ys : List V} {us ws : List Value}, Vals xs us → Vals ys ws → Vals (xs ++ ys) (us ++ ws)
  | _, _, _, _, .nil, s => s
  | _, _, _, _, .cons r t, s => .cons r (Vals.append t s)
theorem Vals.take : ∀ {xs : List V} {us : List Value} (n : Nat), Vals xs us → Vals (xs.take n) (us.take n)
  | _, _, 0, _ => .nil
  | _, _, _ + 1, .nil => .nil
  | _, _, n + 1, .cons r t => .cons r (Vals.take n t)
theorem Vals.drop : ∀ {xs : List V} {us : List Value} (n : Nat), Vals xs us → Vals (xs.drop n) (us.drop n)
  | _, _, 0, r => r
  | _, _, _ + 1, .nil => .nil
  | _, _, n + 1, .cons _ t => Vals.drop n t
def RelO : Option V → Option Value → Prop
  | some v, some u => RelV v u
  | none, none => True
  | _, _ => False
def KV {κ : Type} : List (κ × V) → List (κ × Value) → Prop := Paired fun (p : κ × V) (q : κ × Value) => p.1 = q.1 ∧ RelV p.2 q.2
def kV : Key → V
  | .inl i => .int i
  | .inr x => .str x
inductive HO where
  | lst (xs : List V)
  | tup (xs : List V)
  | dK (kvs : List (Key × V)) | dT (kvs : List (List Key × V))
  | set (S : Int → Bool) (n : Nat)
  | ins (C dx : Addr) (fs : List (Str × V))
  | own (x : Addr)
  | xd (fs : List (Str × V))
  | met (f x : Addr)
  | rng (lo hi : Int)
  | frz (o : Obj) (u : HO)
  | tbl (ps : Array Value)
  | ext (φ : Heap → Prop)
abbrev Hp := Addr → Option HO
def upd (H : Hp) (a : Addr) (o : HO) : Hp := fun b => if b = a then some o else H b
theorem upd_same {H : Hp} {a : Addr} {o : HO} : upd H a o a = some o := by unfold upd; rw [if_pos rfl]
theorem upd_ne {H : Hp} {a b : Addr} {o : HO} (h : b ≠ a) : upd H a o b = H b := by unfold upd; rw [if_neg h]
theorem ne_of_none {H : Hp} {a b : Addr} {o : HO} (h : H a = some o) (h' : H b = none) : a ≠ b := by
  intro e; subst e; rw [h] at h'; cases h'
section
variable (P : Program) (w : World)
def ObjOk (H : Hp) (h : Heap) (a : Addr) : HO → Prop
  | .lst xs => xs.length ≤ sizeLine ∧ ∃ (its : List Value) (n : Nat), Vals xs its ∧ h.get? a = some { cls := .type "list", data := .seq its.toArray n }
  | .tup xs => xs.length ≤ sizeLine ∧ ∃ its : List Value, Vals xs its ∧ IsTup h a its.toArray
  | .dK kvs => kvs.length ≤ sizeLine ∧ (a == sysModules) = false ∧ ∃ vs, KV kvs vs ∧ h.DictOf (mixKind P w) a vs
  | .dT kvs => kvs.length ≤ sizeLine ∧ (a == sysModules) = false ∧ ∃ xs : List (List Key × Addr × Value),
      Paired (fun (p : List Key × V) (q : List Key × Addr × Value) => p.1 = q.1 ∧ H q.2.1 = some (.tup (p.1.map kV)) ∧ RelV p.2 q.2.2) kvs xs ∧
      ∃ o es ep, h.get? a = some o ∧ o.ExactDict ∧ o.data = .dict es ep ∧ es.toList = xs.map (entryOfKey (tupleKind (mixKind P w))) ∧ (xs.map (·.1)).Nodup
  | .set S n => h.SetOf (intKind P w) a S n
  | .ins C dx fs => H dx = some (.own a) ∧ fs.length ≤ 1000 ∧ dx ≠ a ∧ h.get? a = some (PySem.W.instObj C dx) ∧
      ∃ mA, h.Ns1 dx mA ∧ (∀ f, RelO (fs.lookup f) (mA f)) ∧ PySem.Within mA (fs.map (·.1))
  | .own _ => ∃ o, h.get? a = some o
  | .xd fs => ∃ mA, h.Ns1 a mA ∧ ∀ f, RelO (fs.lookup f) (mA f)
  | .rng lo hi => ∃ t u v, h.get? a = some { cls := .type "range", data := .fields #[.int lo t, .int hi u, .int 1 v] }
  | .frz o u => h.get? a = some o ∧ ObjOk H h a u
  | .tbl ps => h.get? a = some { cls := .none, data := .fields ps }
  | .met f x => h.get? a = some (PySem.W.methodObj (.ref f) (.ref x))
  | .ext φ => φ h ∧ (∃ o, h.get? a = some o) ∧ ∀ h1 h2 : Heap, φ h1 → (∀ o, h1.get? a = some o → h2.get? a = some o) → φ h2
def HOk (H : Hp) (h : Heap) : Prop := ∀ a o, H a = some o → ObjOk P w H h a o
end
section
variable {P : Program} {w : World} {H H' : Hp} {h h' : Heap} {a : Addr} {o : HO}
theorem ObjOk.lt (x : ObjOk P w H h a o) : a < h.objs.size := by
  cases o with
  | lst xs => obtain ⟨_, _, _, _, e⟩ := x; exact Heap.lt_size e
  | tup xs => obtain ⟨_, _, _, p⟩ := x; exact p.lt
  | dK kvs => obtain ⟨_, _, _, _, o, _, _, e, _⟩ := x; exact Heap.lt_size e
  | dT kvs => obtain ⟨_, _, _, _, o, _, _, e, _⟩ := x; exact Heap.lt_size e
  | set S n => obtain ⟨o, _, _, _, e, _⟩ := x; exact Heap.lt_size e
  | ins C dx fs => obtain ⟨_, _, _, e, _⟩ := x; exact Heap.lt_size e
  | own y => obtain ⟨_, e⟩ := x; exact Heap.lt_size e
  | xd fs => obtain ⟨_, ⟨_, _, _, e, _⟩, _⟩ := x; exact Heap.lt_size e
  | rng lo hi => obtain ⟨_, _, _, e⟩ := x; exact Heap.lt_size e
  | frz ob u => obtain ⟨e, _⟩ := x; exact Heap.lt_size e
  | tbl ps => exact Heap.lt_size (show h.get? a = some _ from x)
  | met f y => exact Heap.lt_size (show h.get? a = some _ from x)
  | ext φ => obtain ⟨_, ⟨_, e⟩, _⟩ := x; exact Heap.lt_size e
theorem Paired.mapP {α β : Type} {F G : α → β → Prop} : ∀ {l₁ : List α} {l₂ : List β}, Paired F l₁ l₂ → (∀ a b, F a b → G a b) → Paired G l₁ l₂
  | _, _, .nil, _ => .nil
  | _, _, .cons r t, f => .cons (f _ _ r) (Paired.mapP t f)
theorem ObjOk.stay (x : ObjOk P w H h a o) (k : ∀ b u, (b = a ∨ H b = some (.own a)) → h.get? b = some u → h'.get? b = some u)
    (ho : ∀ b, H b = some (.own a) → H' b = some (.own a)) (ht : ∀ b xs, H b = some (.tup xs) → H' b = some (.tup xs)) : ObjOk P w H' h' a o := by
  induction o with
  | lst xs => obtain ⟨z, its, n, r, e⟩ := x; exact ⟨z, its, n, r, k _ _ (.inl rfl) e⟩
  | tup xs => obtain ⟨z, its, r, ob, e, c⟩ := x; exact ⟨z, its, r, ob, k _ _ (.inl rfl) e, c⟩
  | dK kvs => obtain ⟨z, y, vs, r, ob, es, ep, e, c⟩ := x; exact ⟨z, y, vs, r, ob, es, ep, k _ _ (.inl rfl) e, c⟩
  | dT kvs =>
    obtain ⟨z, y, xs, r, ob, es, ep, e, c⟩ := x
    exact ⟨z, y, xs, Paired.mapP r fun p q z => ⟨z.1, ht _ _ z.2.1, z.2.2⟩, ob, es, ep, k _ _ (.inl rfl) e, c⟩
  | set S n => obtain ⟨ob, es, ep, t, e, c⟩ := x; exact ⟨ob, es, ep, t, k _ _ (.inl rfl) e, c⟩
  | ins C dx fs =>
    obtain ⟨d, z, ne, e, mA, ⟨od, es, ep, e2, c⟩, r⟩ := x
    exact ⟨ho _ d, z, ne, k _ _ (.inl rfl) e, mA, ⟨od, es, ep, k _ _ (.inr d) e2, c⟩, r⟩
  | own y => obtain ⟨ob, e⟩ := x; exact ⟨ob, k _ _ (.inl rfl) e⟩
  | xd fs => obtain ⟨mA, ⟨od, es, ep, e, c⟩, r⟩ := x; exact ⟨mA, ⟨od, es, ep, k _ _ (.inl rfl) e, c⟩, r⟩
  | rng lo hi => obtain ⟨t, u, v, e⟩ := x; exact ⟨t, u, v, k _ _ (.inl rfl) e⟩
  | frz ob u ih => obtain ⟨e, q⟩ := x; exact ⟨k _ _ (.inl rfl) e, ih q⟩
  | tbl ps =>
    have e : h.get? a = some { cls := .none, data := .fields ps } := x
    show h'.get? a = some { cls := .none, data := .fields ps }
    exact k a _ (.inl rfl) e
  | met f y =>
    have e : h.get? a = some (PySem.W.methodObj (.ref f) (.ref y)) := x
    show h'.get? a = some (PySem.W.methodObj (.ref f) (.ref y))
    exact k a _ (.inl rfl) e
  | ext φ => obtain ⟨p, ⟨o, e⟩, st⟩ := x; exact ⟨st _ _ p fun o q => k _ _ (.inl rfl) q, ⟨o, k _ _ (.inl rfl) e⟩, st⟩
theorem HOk.lt (x : HOk P w H h) (e : H a = some o) : a < h.objs.size := (x a o e).lt
theorem HOk.fresh (x : HOk P w H h) (e : h.objs.size ≤ a) : H a = none := by
  cases q : H a with
  | none => rfl
  | some u => exact absurd (Nat.lt_of_lt_of_le (x.lt q) e) (Nat.lt_irrefl _)
theorem HOk.kept (x : HOk P w H h) (k : ∀ b u, h.get? b = some u → h'.get? b = some u) : HOk P w H h' := fun a o e =>
  (x a o e).stay (fun b u _ q => k b u q) (fun _ q => q) fun _ _ q => q
theorem HOk.laid (x : HOk P w H h) (k : ∀ b u, h.get? b = some u → h'.get? b = some u) (hp : h.objs.size ≤ a) (new : ObjOk P w (upd H a o) h' a o) : HOk P w (upd H a o) h' := fun b u e => by
  have hn := x.fresh hp
  by_cases hb : b = a
  · subst hb; rw [upd_same] at e; cases e; exact new
  · rw [upd_ne hb] at e
    exact (x b u e).stay (fun c v _ q => k c v q) (fun c q => by rw [upd_ne (ne_of_none q hn)]; exact q) fun c xs q => by rw [upd_ne (ne_of_none q hn)]; exact q
end
def Rd (H : Hp) (a : Addr) (u : HO) : Prop := H a = some u ∨ ∃ o, H a = some (.frz o u)
theorem Rd.of {H : Hp} {a : Addr} {u : HO} (h : H a = some u) : Rd H a u := .inl h
theorem Rd.ok {P : Program} {w : World} {H : Hp} {h : Heap} {a : Addr} {u : HO} (r : Rd H a u) (x : HOk P w H h) : ObjOk P w H h a u := by
  rcases r with r | ⟨o, r⟩
  · exact x a u r
  · obtain ⟨_, q⟩ := x a _ r
    exact q
def Mut : Option HO → Prop
  | some (.lst _) => True
  | some (.dK _) => True
  | some (.dT _) => True
  | some (.set _ _) => True
  | some (.ins _ _ _) => True
  | some (.ext _) => True
  | _ => False
section
variable {P : Program} {w : World} {H : Hp} {h h' : Heap} {x e : Addr} {o' : HO}
theorem HOk.write (ok : HOk P w H h) (mu : Mut (H x)) (he : e = x ∨ H e = some (.own x)) (k : ∀ b u, b ≠ e → h.get? b = some u → h'.get? b = some u) (heo : ∃ u, h'.get? e = some u)
    (new : ObjOk P w (upd H x o') h' x o') : HOk P w (upd H x o') h' := fun b u q => by
  have nown : ∀ c y, H c = some (.own y) → c ≠ x := fun c y r z => by subst z; rw [r] at mu; exact mu
  have ntup : ∀ c xs, H c = some (.tup xs) → c ≠ x := fun c xs r z => by subst z; rw [r] at mu; exact mu
  by_cases hb : b = x
  · subst hb; rw [upd_same] at q; cases q; exact new
  · rw [upd_ne hb] at q
    by_cases hbe : b = e
    · have q' : H b = some (.own x) := by
        rcases he with z | z
        · exact absurd (hbe.trans z) hb
        · rw [hbe]; exact z
      rw [q] at q'; cases q'
      obtain ⟨v, hv⟩ := heo
      exact ⟨v, by rw [hbe]; exact hv⟩
    · refine (ok b u q).stay (fun c v hc r => k c v ?_ r) (fun c r => by rw [upd_ne (nown c b r)]; exact r) fun c xs r => by rw [upd_ne (ntup c xs r)]; exact r
      rcases hc with rfl | hc
      · exact hbe
      · rintro rfl
        rcases he with z | z
        · exact nown c b hc z
        · rw [hc] at z; cases z; exact hb rfl
end
structure Un (fs ex : List Addr) (H H' : Hp) (h h' : Heap) : Prop where
  keep : ∀ b o, h.get? b = some o → H b = none → b ∉ fs → b ∉ ex → h'.get? b = some o
  slot : ∀ b o, h.get? b = some o → H b = none → b ∈ fs → b ∉ ex → ∃ sl, h'.get? b = some { o with slots := sl }
  free : ∀ b o, h.get? b = some o → H b = none → b ∉ ex → H' b = none
  there : ∀ b o, h.get? b = some o → b ∉ ex → ∃ o', h'.get? b = some o'
  tups : ∀ b xs, H b = some (.tup xs) → H' b = some (.tup xs)
  frzs : ∀ b o u, H b = some (.frz o u) → H' b = some (.frz o u)
  tbls : ∀ b ps, H b = some (.tbl ps) → ∃ more, H' b = some (.tbl (ps ++ more))
section
variable {fs fs' ex ex' : List Addr} {H H1 H2 : Hp} {h h1 h2 h' : Heap} {a x e : Addr} {o : HO}
theorem Un.any (u : Un fs ex H H1 h h1) {b : Addr} {ob : Obj} (q : h.get? b = some ob) (n : H b = none) (hx : b ∉ ex) : ∃ sl, h1.get? b = some { ob with slots := sl } := by
  by_cases hb : b ∈ fs
  · exact u.slot b ob q n hb hx
  · exact ⟨ob.slots, u.keep b ob q n hb hx⟩
theorem Un.trans (a : Un fs ex H H1 h h1) (b : Un fs ex H1 H2 h1 h2) : Un fs ex H H2 h h2 where
  keep := fun c ob q n hc hx => b.keep c ob (a.keep c ob q n hc hx) (a.free c ob q n hx) hc hx
  slot := fun c ob q n hc hx => by
    obtain ⟨sl, e1⟩ := a.slot c ob q n hc hx
    obtain ⟨sl', e2⟩ := b.slot c _ e1 (a.free c ob q n hx) hc hx
    exact ⟨sl', e2⟩
  free := fun c ob q n hx => by
    obtain ⟨o', e1⟩ := a.there c ob q hx
    exact b.free c o' e1 (a.free c ob q n hx) hx
  there := fun c ob q hx => by
    obtain ⟨o', e1⟩ := a.there c ob q hx
    exact b.there c o' e1 hx
  tups := fun c xs q => b.tups c xs (a.tups c xs q)
  frzs := fun c ob xs q => b.frzs c ob xs (a.frzs c ob xs q)
  tbls := fun c ps q => by
    obtain ⟨m1, e1⟩ := a.tbls c ps q
    obtain ⟨m2, e2⟩ := b.tbls c _ e1
    exact ⟨m1 ++ m2, by rw [e2, Array.append_assoc]⟩
theorem Un.kept (k : ∀ b u, h.get? b = some u → h'.get? b = some u) : Un fs ex H H h h' :=
  ⟨fun b ob q _ _ _ => k b ob q, fun b ob q _ _ _ => ⟨ob.slots, k b ob q⟩, fun _ _ _ n _ => n, fun b ob q _ => ⟨ob, k b ob q⟩, fun _ _ q => q, fun _ _ _ q => q, fun _ ps q => ⟨#[], by rw [q]; simp⟩⟩
theorem Un.refl : Un fs ex H H h h := Un.kept fun _ _ q => q
theorem Un.laid (k : ∀ b u, h.get? b = some u → h'.get? b = some u) (hp : h.objs.size ≤ a) (hn : H a = none) : Un fs ex H (upd H a o) h h' where
  keep := fun b u q _ _ _ => k b u q
  slot := fun b u q _ _ _ => ⟨u.slots, k b u q⟩
  free := fun b u q n _ => by rw [upd_ne (Nat.ne_of_lt (Nat.lt_of_lt_of_le (Heap.lt_size q) hp))]; exact n
  there := fun b u q _ => ⟨u, k b u q⟩
  tups := fun b xs q => by rw [upd_ne (ne_of_none q hn)]; exact q
  frzs := fun b u xs q => by rw [upd_ne (ne_of_none q hn)]; exact q
  tbls := fun b ps q => ⟨#[], by rw [upd_ne (ne_of_none q hn), q]; simp⟩
theorem Un.write (mu : Mut (H x)) (he : e = x ∨ H e = some (.own x)) (k : ∀ b u, b ≠ e → h.get? b = some u → h'.get? b = some u) (heo : ∃ u, h'.get? e = some u) : Un fs ex H (upd H x o) h h' := by
  have hx : ∀ b, H b = none → b ≠ x := fun b n z => by subst z; rw [n] at mu; exact mu
  have hb : ∀ b, H b = none → b ≠ e := fun b n z => by
    subst z
    rcases he with r | r
    · exact hx b n r
    · rw [n] at r; cases r
  have hm : ∀ b u, H b = some u → ¬ Mut (some u) → b ≠ x := fun b u q nm z => by subst z; rw [q] at mu; exact nm mu
  refine ⟨fun b u q n _ _ => k b u (hb b n) q, fun b u q n _ _ => ⟨u.slots, k b u (hb b n) q⟩, fun b u q n _ => by rw [upd_ne (hx b n)]; exact n, fun b u q _ => ?_,
    fun b xs q => by rw [upd_ne (hm b _ q fun z => z)]; exact q, fun b u xs q => by rw [upd_ne (hm b _ q fun z => z)]; exact q, fun b ps q => ⟨#[], by rw [upd_ne (hm b _ q fun z => z), q]; simp⟩⟩
  by_cases hbe : b = e
  · subst hbe; exact heo
  · exact ⟨u, k b u hbe q⟩
theorem Un.mono (u : Un fs ex H H1 h h1) (hs : ∀ b ∈ fs, b ∈ fs') (hx : ∀ b ∈ ex, b ∈ ex') : Un fs' ex' H H1 h h1 :=
  ⟨fun b ob q n hb he => u.keep b ob q n (fun z => hb (hs b z)) fun z => he (hx b z), fun _ _ q n _ he => u.any q n fun z => he (hx _ z), fun b ob q n he => u.free b ob q n fun z => he (hx b z), fun b ob q he => u.there b ob q fun z => he (hx b z), u.tups, u.frzs, u.tbls⟩
end
def trk (h : Heap) (H : Hp) : List Addr := (List.range h.objs.size).filter fun a => (H a).isSome
def hidT (h : Heap) (H : Hp) : Heap := PySem.W.hideAll h (trk h H)
theorem hidT_size (h : Heap) (H : Hp) : (hidT h H).objs.size = h.objs.size := PySem.W.hideAll_size _ _
theorem hidT_get {h : Heap} {H : Hp} {b : Addr} {o : Obj} (e : h.get? b = some o) (n : H b = none) : (hidT h H).get? b = some o :=
  PySem.W.hideAll_get _ e fun hm => by
    have q : (H b).isSome = true := (List.mem_filter.mp hm).2
    rw [n] at q; simp at q
theorem of_hidT {h : Heap} {H : Hp} {b : Addr} {o : Obj} (e : (hidT h H).get? b = some o) : h.get? b = some o ∧ H b = none := by
  have e' : h.get? b = some o := PySem.W.of_hideAll (trk h H) e
  refine ⟨e', ?_⟩
  cases q : H b with
  | none => rfl
  | some x =>
    have hm : b ∈ trk h H := List.mem_filter.mpr ⟨List.mem_range.mpr (Heap.lt_size e'), by simp [q]⟩
    have z : (hidT h H).get? b = none := PySem.W.hideAll_none (trk h H) hm
    rw [z] at e; cases e
def allNews (g h : Heap) (L : Addr) : List (Addr × Obj) := (List.range h.objs.size).filterMap fun a => if a = L ∨ (g.get? a).isSome = true then none else (h.get? a).map fun o => (a, o)
def rest (g h : Heap) (L d : Addr) : List (Addr × Obj) := (allNews g h L).filter fun p => decide (p.1 ≠ d)
end L2
namespace L2
open PySem PySem.Spec PyProof.Rows
structure Mod (K : PySem.W.Frag) (mg : Str → Option Value) (base : Heap) : Prop where
  kin : K.In base
  glob : base.Ns mainGlobals mg
  blt : ∃ mb, base.Ns builtinsNs mb ∧ ∀ x : Str, x ≠ "__name__" → mb x = bootBuiltins x
  nolimit : base.NoLimit
structure Cx where
  prog : Program
  w : World
  K : PySem.W.Frag
  mg : Str → Option Value
  base : Heap
  A : Around
  N : List Str
  s₀ : Shared
  H₀ : Hp
  env : Env
  outer : List Env
  stack : List Env
  ex : List Addr
  fn : Str → Bool
  calm : Bool
  pn : List (Addr × Obj)
  xe : Value → Shared → Prop
def frs (l : List Env) : List Addr := l.filterMap (·.frame)
abbrev Cx.fs (X : Cx) : List Addr := frs X.outer
def Vis (sc : Scope) (x : Str) : Prop := sc.names.lookup x = some .local ∨ sc.names.lookup x = some .cell ∨ sc.names.lookup x = some .free
def Loc (sc : Scope) (x : Str) : Prop := sc.names.lookup x = some .local ∨ sc.names.lookup x = some .cell
def Look (env : Env) (h : Heap) (m : Str → Option Value) (x : Str) (u : Value) : Prop :=
  (env.kindOf x = some .local ∧ m x = some u) ∨ ((env.kindOf x = some .cell ∨ env.kindOf x = some .free) ∧ ∃ c, env.cells.lookup x = some c ∧ h.IsCell c (some u))
structure Cx.Ok (X : Cx) : Prop where
  mod : Mod X.K X.mg X.base
  kind : X.env.scope.kind = .function
  glob : X.env.globals = mainGlobals
  blt : X.env.builtins = builtinsNs
  above : X.s₀.heap.objs.size ≤ X.env.locals
  inj : ∀ x y c, X.env.cells.lookup x = some c → X.env.cells.lookup y = some c → x = y
  has : ∀ x, (X.env.kindOf x = some .cell ∨ X.env.kindOf x = some .free) → ∃ c, X.env.cells.lookup x = some c
  cab : ∀ x c, X.fn x = true → X.env.cells.lookup x = some c → X.s₀.heap.objs.size ≤ c
  hd : X.calm = true → X.A.handled = none
  frames : X.A.frames = some X.stack
  stk : X.stack = X.outer ∨ (X.stack = X.env :: X.outer ∧ X.env.frame = some X.env.locals)
  exf : ∀ b ∈ X.ex, b ≠ X.env.locals ∧ ∀ x c, X.env.cells.lookup x = some c → c ≠ b
  bs : ∀ b o, X.base.get? b = some o → X.s₀.heap.get? b = some o ∧ X.H₀ b = none
  bsz : X.base.objs.size ≤ X.s₀.heap.objs.size
  noex : ∀ b o, X.base.get? b = some o → b ∉ X.ex
  exfs : ∀ b ∈ X.ex, b ∉ X.fs
  funs : X.s₀.heap.FunFrames X.base X.outer
  frf : ∀ b ∈ X.fs, X.H₀ b = none
structure Inv (X : Cx) (pins : List (Addr × Obj)) (σ : List (Option V)) (H : Hp) (s : Shared) : Prop where
  ok : X.Ok
  os : s.os = X.s₀.os
  bare : AllBare s.gens
  base : Un X.fs X.ex X.H₀ H X.s₀.heap s.heap
  loc : ∃ m, s.heap.Ns X.env.locals m ∧ ∀ (i : Nat) (x : Str) (v : V), X.N[i]? = some x → σ[i]? = some (some v) → Vis X.env.scope x → ∃ u, RelV v u ∧ Look X.env s.heap m x u
  cell : ∀ x c, X.env.cells.lookup x = some c → ∃ v, s.heap.IsCell c v
  free : H X.env.locals = none
  freeC : ∀ x c, X.env.cells.lookup x = some c → H c = none
  pin : ∀ p ∈ X.pn ++ pins, s.heap.get? p.1 = some p.2 ∧ H p.1 = none ∧ p.1 ≠ X.env.locals ∧ p.1 ∉ X.fs ∧ ∀ v, p.2.data ≠ .cell v
  hok : HOk X.prog X.w H s.heap
  len : σ.length = X.N.length
section
variable {X : Cx} {pins : List (Addr × Obj)} {σ : List (Option V)} {H H' : Hp} {s : Shared} {h' : Heap}
theorem Cx.Ok.nofr (ok : X.Ok) {b : Addr} {o : Obj} (e : X.base.get? b = some o) : b ∉ X.fs := fun hb => by
  have := (ok.funs.mem hb).1
  rw [e] at this; cases this
theorem Inv.bs (I : Inv X pins σ H s) : ∀ b o, X.base.get? b = some o → s.heap.get? b = some o ∧ H b = none := fun b o e =>
  ⟨I.base.keep b o (I.ok.bs b o e).1 (I.ok.bs b o e).2 (I.ok.nofr e) (I.ok.noex b o e), I.base.free b o (I.ok.bs b o e).1 (I.ok.bs b o e).2 (I.ok.noex b o e)⟩
theorem Inv.bk (I : Inv X pins σ H s) : ∀ b o, X.base.get? b = some o → s.heap.get? b = some o := fun b o e => (I.bs b o e).1
theorem Inv.mod (I : Inv X pins σ H s) : Mod X.K X.mg X.base := I.ok.mod
theorem Inv.kIn (I : Inv X pins σ H s) : X.K.In s.heap := I.ok.mod.kin.keeps I.bk
theorem Inv.nolimit (I : Inv X pins σ H s) : s.heap.NoLimit := I.ok.mod.nolimit.keeps I.bk
theorem Inv.lt (I : Inv X pins σ H s) : X.env.locals < s.heap.objs.size := let ⟨_, hn, _⟩ := I.loc; hn.lt
theorem Inv.sz (I : Inv X pins σ H s) : X.s₀.heap.objs.size ≤ s.heap.objs.size := Nat.le_trans I.ok.above (Nat.le_of_lt I.lt)
theorem Inv.nofs (I : Inv X pins σ H s) {a : Addr} (h : s.heap.objs.size ≤ a) : a ∉ X.fs := fun hb => by
  obtain ⟨_, o, ho, _⟩ := I.ok.funs.mem hb
  exact absurd (Nat.lt_of_lt_of_le (Heap.lt_size ho) (Nat.le_trans I.sz h)) (Nat.lt_irrefl _)
theorem Inv.cne (I : Inv X pins σ H s) : ∀ x c, X.env.cells.lookup x = some c → c ≠ X.env.locals := fun x c e z => by
  obtain ⟨v, o, ho, hd⟩ := I.cell x c e
  obtain ⟨m, ⟨o', es, ep, ho', hd', _⟩, _⟩ := I.loc
  rw [z, ho'] at ho; cases ho; rw [hd'] at hd; cases hd
theorem Inv.funs (I : Inv X pins σ H s) : s.heap.FunFrames X.base X.outer := by
  have all : ∀ (l : List Env), (∀ b ∈ frs l, b ∈ X.fs) → X.s₀.heap.FunFrames X.base l → s.heap.FunFrames X.base l := by
    intro l
    induction l with
    | nil => intro _ _; trivial
    | cons env r ih =>
      intro hs hl
      obtain ⟨hk, ⟨L, o, hf, hn, ho, hd⟩, hr⟩ := hl
      have hL : L ∈ X.fs := hs L (by unfold frs; rw [List.filterMap_cons, hf]; exact List.mem_cons_self)
      obtain ⟨sl, e⟩ := I.base.slot L o ho (I.ok.frf L hL) hL fun z => I.ok.exfs L z hL
      exact ⟨hk, ⟨L, _, hf, hn, e, hd⟩, ih (fun b hb => hs b (by unfold frs; rw [List.filterMap_cons, hf]; exact List.mem_cons_of_mem _ hb)) hr⟩
  exact all X.outer (fun _ hb => hb) I.ok.funs
theorem Inv.stack (I : Inv X pins σ H s) : s.heap.FunFrames X.base X.stack := by
  rcases I.ok.stk with e | ⟨e, hf⟩
  · rw [e]; exact I.funs
  · rw [e]
    obtain ⟨m, hn, _⟩ := I.loc
    refine .cons (by rw [I.ok.kind]; decide) hf hn ?_ I.funs
    exact Heap.get?_none_of_le (Nat.le_trans I.ok.bsz I.ok.above)
theorem Inv.stkSub (I : Inv X pins σ H s) : ∀ b ∈ frs X.stack, b ∈ X.env.locals :: X.fs := fun b hb => by
  rcases I.ok.stk with e | ⟨e, hf⟩
  · rw [e] at hb; exact List.mem_cons_of_mem _ hb
  · rw [e] at hb
    unfold frs at hb
    rw [List.filterMap_cons, hf] at hb
    exact hb
theorem Inv.stkFree (I : Inv X pins σ H s) : ∀ b ∈ frs X.stack, H b = none := fun b hb => by
  rcases List.mem_cons.mp (I.stkSub b hb) with e | hb
  · rw [e]; exact I.free
  · obtain ⟨_, o, ho, _⟩ := I.ok.funs.mem hb
    exact I.base.free b o ho (I.ok.frf b hb) fun z => I.ok.exfs b z hb
theorem Inv.step {g' : Array GenState} {t' : Nat} {d' : Drawn} {ch : List Addr} (I : Inv X pins σ H s)
    (hch : ∀ b ∈ ch, (b ∈ X.ex ∨ X.s₀.heap.objs.size ≤ b) ∧ b ≠ X.env.locals ∧ (∀ x c, X.env.cells.lookup x = some c → c ≠ b) ∧ ∀ p ∈ X.pn ++ pins, p.1 ≠ b)
    (keep : ∀ b o, b ≠ X.env.locals → b ∉ X.fs → b ∉ ch → s.heap.get? b = some o → H b = none → h'.get? b = some o)
    (slot : ∀ b o, b ≠ X.env.locals → b ∈ X.fs → b ∉ ch → s.heap.get? b = some o → H b = none → ∃ sl, h'.get? b = some { o with slots := sl }) (free : ∀ b o, b ∉ ch → s.heap.get? b = some o → H b = none → H' b = none)
    (there : ∀ b o, b ∉ ch → s.heap.get? b = some o → ∃ o', h'.get? b = some o')
    (tups : ∀ b xs, H b = some (.tup xs) → H' b = some (.tup xs)) (frzs : ∀ b o u, H b = some (.frz o u) → H' b = some (.frz o u)) (tbls : ∀ b ps, H b = some (.tbl ps) → ∃ more, H' b = some (.tbl (ps ++ more)))
    (ns : ∀ m, s.heap.Ns X.env.locals m → h'.Ns X.env.locals m) (hok : HOk X.prog X.w H' h') (hg : AllBare g') :
    Inv X pins σ H' { s with heap := h', gens := g', drawn := d', toks := t' } := by
  have neL : ∀ b o, X.s₀.heap.get? b = some o → b ≠ X.env.locals := fun b o e => Nat.ne_of_lt (Nat.lt_of_lt_of_le (Heap.lt_size e) I.ok.above)
  have neC : ∀ b o, X.s₀.heap.get? b = some o → b ∉ X.ex → b ∉ ch := fun b o e hx hb => by
    rcases (hch b hb).1 with z | z
    · exact hx z
    · exact absurd (Nat.lt_of_lt_of_le (Heap.lt_size e) z) (Nat.lt_irrefl _)
  have cellK : ∀ x c, X.env.cells.lookup x = some c → ∀ v, s.heap.IsCell c v → h'.IsCell c v := fun x c e v ⟨o, ho, hd⟩ => by
    have nch : c ∉ ch := fun z => (hch c z).2.2.1 x c e rfl
    by_cases hc : c ∈ X.fs
    · obtain ⟨sl, q⟩ := slot c o (I.cne x c e) hc nch ho (I.freeC x c e)
      exact ⟨_, q, hd⟩
    · exact ⟨o, keep c o (I.cne x c e) hc nch ho (I.freeC x c e), hd⟩
  refine ⟨I.ok, I.os, hg, ⟨fun b o e n hb hx => ?_, fun b o e n hb hx => ?_, fun b o e n hx => ?_, fun b o e hx => ?_, fun b xs e => tups b xs (I.base.tups b xs e), fun b o xs e => frzs b o xs (I.base.frzs b o xs e), fun b ps e => ?_⟩, ?_, fun x c e => ?_, ?_, fun x c e => ?_, fun p hp => ?_, hok, I.len⟩
  · exact keep b o (neL b o e) hb (neC b o e hx) (I.base.keep b o e n hb hx) (I.base.free b o e n hx)
  · obtain ⟨sl, e1⟩ := I.base.slot b o e n hb hx
    obtain ⟨sl', e2⟩ := slot b _ (neL b o e) hb (neC b o e hx) e1 (I.base.free b o e n hx)
    exact ⟨sl', e2⟩
  · obtain ⟨o', e1⟩ := I.base.there b o e hx
    exact free b o' (neC b o e hx) e1 (I.base.free b o e n hx)
  · obtain ⟨o', e1⟩ := I.base.there b o e hx
    exact there b o' (neC b o e hx) e1
  · obtain ⟨m1, e1⟩ := I.base.tbls b ps e
    obtain ⟨m2, e2⟩ := tbls b _ e1
    exact ⟨m1 ++ m2, by rw [e2, Array.append_assoc]⟩
  · obtain ⟨m, hn, hl⟩ := I.loc
    refine ⟨m, ns m hn, fun i x v e1 e2 e3 => ?_⟩
    obtain ⟨u, r, l⟩ := hl i x v e1 e2 e3
    refine ⟨u, r, ?_⟩
    rcases l with l | ⟨k, c, e, z⟩
    · exact .inl l
    · exact .inr ⟨k, c, e, cellK x c e _ z⟩
  · obtain ⟨v, z⟩ := I.cell x c e
    exact ⟨v, cellK x c e v z⟩
  · obtain ⟨m, ⟨o, _, _, ho, _⟩, _⟩ := I.loc
    exact free _ o (fun z => (hch _ z).2.1 rfl) ho I.free
  · obtain ⟨v, o, ho, hd⟩ := I.cell x c e
    exact free c o (fun z => (hch c z).2.2.1 x c e rfl) ho (I.freeC x c e)
  · obtain ⟨e, n, ne, nf, d⟩ := I.pin p hp
    have nch : p.1 ∉ ch := fun z => (hch p.1 z).2.2.2 p hp rfl
    exact ⟨keep p.1 p.2 ne nf nch e n, free p.1 p.2 nch e n, ne, nf, d⟩
theorem Inv.un {t' : Nat} (I : Inv X pins σ H s) (u : Un X.fs [] H H' s.heap h') (hok : HOk X.prog X.w H' h') : Inv X pins σ H' { s with heap := h', toks := t' } := by
  obtain ⟨m, ⟨o, es, ep, ho, r⟩, _⟩ := id I.loc
  obtain ⟨sl, hL⟩ := u.any ho I.free (by simp)
  exact I.step (g' := s.gens) (d' := s.drawn) (ch := []) (fun _ z => nomatch z) (fun b o _ hb _ e n => u.keep b o e n hb (by simp)) (fun b o _ hb _ e n => u.slot b o e n hb (by simp)) (fun b o _ e n => u.free b o e n (by simp)) (fun b o _ e => u.there b o e (by simp)) u.tups u.frzs u.tbls (fun m' hm => by
    obtain ⟨o', es', ep', ho', r'⟩ := hm
    rw [ho] at ho'; cases ho'
    exact ⟨_, es', ep', hL, r'⟩) hok I.bare
theorem Inv.call {g' : Array GenState} {t' : Nat} {d' : Drawn} {ch : List Addr} (I : Inv X pins σ H s) (u : Un (frs X.stack) ch H H' s.heap h') (hok : HOk X.prog X.w H' h') (hg : AllBare g')
    (hch : ∀ b ∈ ch, (b ∈ X.ex ∨ X.s₀.heap.objs.size ≤ b) ∧ b ≠ X.env.locals ∧ (∀ x c, X.env.cells.lookup x = some c → c ≠ b) ∧ ∀ p ∈ X.pn ++ pins, p.1 ≠ b) :
    Inv X pins σ H' { s with heap := h', gens := g', drawn := d', toks := t' } := by
  obtain ⟨m, ⟨o, es, ep, ho, r⟩, _⟩ := id I.loc
  obtain ⟨sl, hL⟩ := u.any ho I.free fun z => (hch _ z).2.1 rfl
  exact I.step (ch := ch) hch (fun b o hL hb hc e n => u.keep b o e n (fun z => (List.mem_cons.mp (I.stkSub b z)).elim hL hb) hc) (fun b o _ _ hc e n => u.any e n hc) (fun b o hc e n => u.free b o e n hc) (fun b o hc e => u.there b o e hc) u.tups u.frzs u.tbls (fun m' hm => by
    obtain ⟨o', es', ep', ho', r'⟩ := hm
    rw [ho] at ho'; cases ho'
    exact ⟨_, es', ep', hL, r'⟩) hok hg
theorem Inv.turned {t' : Nat} {it : Addr} (I : Inv X pins σ H s) (k : ∀ b o, b ≠ it → s.heap.get? b = some o → h'.get? b = some o) (hn : H it = none) (hL : it ≠ X.env.locals)
    (h1 : it ∈ X.ex ∨ X.s₀.heap.objs.size ≤ it) (h2 : ∀ x c, X.env.cells.lookup x = some c → c ≠ it) (h3 : ∀ p ∈ X.pn ++ pins, p.1 ≠ it) : Inv X pins σ H { s with heap := h', toks := t' } := by
  have nit : ∀ b u, H b = some u → b ≠ it := fun b u e z => by rw [z, hn] at e; cases e
  refine I.step (g' := s.gens) (d' := s.drawn) (ch := [it]) (fun b hb => ?_) (fun b o _ _ hc e _ => k b o (fun z => hc (by simp [z])) e) (fun b o _ _ hc e _ => ⟨o.slots, k b o (fun z => hc (by simp [z])) e⟩) (fun _ _ _ _ n => n)
    (fun b o hc e => ⟨o, k b o (fun z => hc (by simp [z])) e⟩) (fun _ _ e => e) (fun _ _ _ e => e) (fun b ps e => ⟨#[], by rw [e]; simp⟩) (fun m hm => ?_) (fun b u e => ?_) I.bare
  · have e : b = it := by simpa using hb
    subst e
    exact ⟨h1, hL, h2, h3⟩
  · obtain ⟨o, es, ep, ho, r⟩ := hm
    exact ⟨o, es, ep, k _ o (Ne.symm hL) ho, r⟩
  · refine (I.hok b u e).stay (fun c v hc q => k c v ?_ q) (fun _ q => q) fun _ _ q => q
    rcases hc with z | z
    · rw [z]; exact nit b u e
    · exact nit c _ z
theorem Inv.tok (I : Inv X pins σ H s) (t : Nat) : Inv X pins σ H { s with toks := t } := I.un (h' := s.heap) (t' := t) Un.refl I.hok
theorem Inv.kept {t' : Nat} (I : Inv X pins σ H s) (k : ∀ b u, s.heap.get? b = some u → h'.get? b = some u) : Inv X pins σ H { s with heap := h', toks := t' } := I.un (Un.kept k) (I.hok.kept k)
theorem Inv.laid {a : Addr} {o : HO} {t' : Nat} (I : Inv X pins σ H s) (k : ∀ b u, s.heap.get? b = some u → h'.get? b = some u) (hp : s.heap.objs.size ≤ a) (new : ObjOk X.prog X.w (upd H a o) h' a o) :
    Inv X pins σ (upd H a o) { s with heap := h', toks := t' } := I.un (Un.laid k hp (I.hok.fresh hp)) (I.hok.laid k hp new)
theorem Inv.write {x e : Addr} {o : HO} {t' : Nat} (I : Inv X pins σ H s) (mu : Mut (H x)) (he : e = x ∨ H e = some (.own x)) (k : ∀ b u, b ≠ e → s.heap.get? b = some u → h'.get? b = some u) (heo : ∃ u, h'.get? e = some u)
    (new : ObjOk X.prog X.w (upd H x o) h' x o) : Inv X pins σ (upd H x o) { s with heap := h', toks := t' } := I.un (Un.write mu he k heo) (I.hok.write mu he k heo new)
theorem Inv.pins_of {pins' : List (Addr × Obj)} (I : Inv X pins σ H s) (h : ∀ p ∈ pins', s.heap.get? p.1 = some p.2 ∧ H p.1 = none ∧ p.1 ≠ X.env.locals ∧ p.1 ∉ X.fs ∧ ∀ v, p.2.data ≠ .cell v) : Inv X pins' σ H s :=
  ⟨I.ok, I.os, I.bare, I.base, I.loc, I.cell, I.free, I.freeC, fun p hp => (List.mem_append.mp hp).elim (fun z => I.pin p (List.mem_append_left _ z)) (h p), I.hok, I.len⟩
theorem nodup_ix {N : List Str} (hN : N.Nodup) {i j : Nat} {x : Str} (a : N[i]? = some x) (b : N[j]? = some x) : i = j := by
  obtain ⟨h1, e1⟩ := List.getElem?_eq_some_iff.mp a
  obtain ⟨h2, e2⟩ := List.getElem?_eq_some_iff.mp b
  exact (List.getElem_inj hN).mp (e1.trans e2.symm)
theorem store_ok2 {M : Model} {A : Around} {E : Value → Shared → Prop} {i : Nat} {x : Str} {v : V} {u : Value} {Q : Unit → Shared → Prop} (I : Inv X pins σ H s) (hN : X.N.Nodup) (hi : X.N[i]? = some x) (hx : Loc X.env.scope x) (r : RelV v u)
    (h : ∀ s', Inv X pins (σ.set i (some v)) H s' → (∃ a, Heap.SameBut a s.heap s'.heap ∧ (a = X.env.locals ∨ X.env.cells.lookup x = some a)) → Q () s') (hf : X.fn x = true ∨ X.env.scope.names.lookup x = some .local := by first | exact .inl rfl | exact .inr rfl | assumption) : wpAny M A (storeName X.env x u) Q E s := by
  obtain ⟨m, hn, hl⟩ := id I.loc
  have hcls : (X.env.scope.kind == .class || (X.env.scope.kind == .module && X.env.locals != X.env.globals)) = false := by rw [I.ok.kind]; rfl
  have hiσ : i < σ.length := by rw [I.len]; exact (List.getElem?_eq_some_iff.mp hi).1
  have cne := I.cne
  have tracked : ∀ {a : Addr} {h' : Heap}, (∃ o, s.heap.get? a = some o ∧ H a = none) → Heap.SameBut a s.heap h' → HOk X.prog X.w H h' := fun {a h'} ha hs b ob e => by
    obtain ⟨_, _, hfree⟩ := ha
    refine (I.hok b ob e).stay (fun c w' hc q => (hs.2 c ?_).trans q) (fun _ q => q) fun _ _ q => q
    rintro rfl
    rcases hc with rfl | hc
    · rw [hfree] at e; cases e
    · rw [hfree] at hc; cases hc
  rcases hx with hk | hk
  · refine wpAny_storeName_local hk hn (fun h' hn' hs => ?_) hcls
    obtain ⟨oL, _, _, hoL, _⟩ := id hn
    refine h _ ⟨I.ok, I.os, I.bare, ⟨fun b o e n hb hx => ?_, fun b o e n hb hx => ?_, I.base.free, fun b o e hx => ?_, I.base.tups, I.base.frzs, I.base.tbls⟩, ⟨_, hn', fun j y v' e1 e2 e3 => ?_⟩, fun y c e => ?_, I.free, I.freeC, fun p hp => ?_, tracked ⟨oL, hoL, I.free⟩ hs, by simpa using I.len⟩ ⟨_, hs, .inl rfl⟩
    · exact (hs.2 b (Nat.ne_of_lt (Nat.lt_of_lt_of_le (Heap.lt_size e) I.ok.above))).trans (I.base.keep b o e n hb hx)
    · obtain ⟨sl, e1⟩ := I.base.slot b o e n hb hx
      exact ⟨sl, (hs.2 b (Nat.ne_of_lt (Nat.lt_of_lt_of_le (Heap.lt_size e) I.ok.above))).trans e1⟩
    · obtain ⟨o', e1⟩ := I.base.there b o e hx
      exact ⟨o', (hs.2 b (Nat.ne_of_lt (Nat.lt_of_lt_of_le (Heap.lt_size e) I.ok.above))).trans e1⟩
    · by_cases hj : j = i
      · subst hj
        rw [hi] at e1; cases e1
        rw [List.getElem?_set_self hiσ] at e2
        cases e2
        exact ⟨u, r, .inl ⟨hk, by simp⟩⟩
      · rw [List.getElem?_set_ne (Ne.symm hj)] at e2
        obtain ⟨u', r', q⟩ := hl j y v' e1 e2 e3
        refine ⟨u', r', ?_⟩
        rcases q with ⟨k, e⟩ | ⟨k, c, e, z⟩
        · refine .inl ⟨k, ?_⟩
          have : y ≠ x := fun e => hj (nodup_ix hN e1 (e ▸ hi))
          simp [this, e]
        · exact .inr ⟨k, c, e, z.sameBut hs (cne y c e)⟩
    · obtain ⟨w', z⟩ := I.cell y c e
      exact ⟨w', z.sameBut hs (cne y c e)⟩
    · obtain ⟨e, n, ne, nf, d⟩ := I.pin p hp
      exact ⟨(hs.2 p.1 ne).trans e, n, ne, nf, d⟩
  · have hfn : X.fn x = true := by
      rcases hf with z | z
      · exact z
      · rw [z] at hk; cases hk
    obtain ⟨c, hc⟩ := I.ok.has x (.inl hk)
    obtain ⟨w', z⟩ := I.cell x c hc
    refine wpAny_storeName_cell I.ok.kind hk hc z (fun h' hc' hs => ?_)
    obtain ⟨oc, hoc, hocd⟩ := id z
    refine h { s with heap := h' } ⟨I.ok, I.os, I.bare, ⟨fun b o e n hb hx => ?_, fun b o e n hb hx => ?_, I.base.free, fun b o e hx => ?_, I.base.tups, I.base.frzs, I.base.tbls⟩, ⟨m, hn.sameBut hs (Ne.symm (cne x c hc)), fun j y v' e1 e2 e3 => ?_⟩, fun y c' e => ?_, I.free, I.freeC, fun p hp => ?_, tracked ⟨oc, hoc, I.freeC x c hc⟩ hs, by simpa using I.len⟩ ⟨c, hs, .inr hc⟩
    · exact (hs.2 b (Nat.ne_of_lt (Nat.lt_of_lt_of_le (Heap.lt_size e) (I.ok.cab x c hfn hc)))).trans (I.base.keep b o e n hb hx)
    · obtain ⟨sl, e1⟩ := I.base.slot b o e n hb hx
      exact ⟨sl, (hs.2 b (Nat.ne_of_lt (Nat.lt_of_lt_of_le (Heap.lt_size e) (I.ok.cab x c hfn hc)))).trans e1⟩
    · obtain ⟨o', e1⟩ := I.base.there b o e hx
      exact ⟨o', (hs.2 b (Nat.ne_of_lt (Nat.lt_of_lt_of_le (Heap.lt_size e) (I.ok.cab x c hfn hc)))).trans e1⟩
    · by_cases hj : j = i
      · subst hj
        rw [hi] at e1; cases e1
        rw [List.getElem?_set_self hiσ] at e2
        cases e2
        exact ⟨u, r, .inr ⟨.inl hk, c, hc, hc'⟩⟩
      · rw [List.getElem?_set_ne (Ne.symm hj)] at e2
        obtain ⟨u', r', q⟩ := hl j y v' e1 e2 e3
        refine ⟨u', r', ?_⟩
        rcases q with q | ⟨k, c', e, z'⟩
        · exact .inl q
        · refine .inr ⟨k, c', e, z'.sameBut hs ?_⟩
          rintro rfl
          exact hj (nodup_ix hN e1 (I.ok.inj _ _ _ e hc ▸ hi))
    · by_cases hcc : c' = c
      · subst hcc; exact ⟨_, hc'⟩
      · obtain ⟨w2, z2⟩ := I.cell y c' e
        exact ⟨w2, z2.sameBut hs hcc⟩
    · obtain ⟨e, n, ne, nf, d⟩ := I.pin p hp
      refine ⟨(hs.2 p.1 ?_).trans e, n, ne, nf, d⟩
      intro q
      rw [q, hoc] at e
      have q' : oc = p.2 := Option.some.inj e
      exact d w' (by rw [← q']; exact hocd)
theorem store_ok {M : Model} {A : Around} {E : Value → Shared → Prop} {i : Nat} {x : Str} {v : V} {u : Value} {Q : Unit → Shared → Prop} (I : Inv X pins σ H s) (hN : X.N.Nodup) (hi : X.N[i]? = some x) (hx : Loc X.env.scope x) (r : RelV v u)
    (h : ∀ s', Inv X pins (σ.set i (some v)) H s' → Q () s') (hf : X.fn x = true ∨ X.env.scope.names.lookup x = some .local := by first | exact .inl rfl | exact .inr rfl | assumption) : wpAny M A (storeName X.env x u) Q E s :=
  store_ok2 I hN hi hx r (fun s' I' _ => h s' I') hf
theorem Inv.call' {s' : Shared} {ch : List Addr} (I : Inv X pins σ H s) (ho : s'.os = s.os) (u : Un (frs X.stack) ch H H' s.heap s'.heap) (hok : HOk X.prog X.w H' s'.heap) (hg : AllBare s'.gens)
    (hch : ∀ b ∈ ch, (b ∈ X.ex ∨ X.s₀.heap.objs.size ≤ b) ∧ b ≠ X.env.locals ∧ (∀ x c, X.env.cells.lookup x = some c → c ≠ b) ∧ ∀ p ∈ X.pn ++ pins, p.1 ≠ b) : Inv X pins σ H' s' := by
  obtain ⟨h', g', d', t', o'⟩ := s'
  have e : o' = s.os := ho
  subst e
  exact I.call (g' := g') (t' := t') (d' := d') u hok hg hch
end
abbrev XK := Value → Option Addr → Hp → Prop
abbrev St := List (Option V)
abbrev VK := V → Hp → Prop
abbrev TE := St → Hp → VK → Prop
abbrev TT := St → Hp → (Bool → Hp → Prop) → Prop
abbrev TA := St → Hp → (List V → Hp → Prop) → Prop
structure Ends where
  nx : St → Hp → Prop
  rt : VK
  bk : St → Hp → Prop := fun _ _ => False
  ct : St → Hp → Prop := fun _ _ => False
abbrev TS := Ends → St → Hp → Prop
def EP (X : Cx) (pins : List (Addr × Obj)) (σ : St) (Q : VK) (u : Value) (s' : Shared) : Prop := ∃ v H', Inv X pins σ H' s' ∧ RelV v u ∧ Q v H'
def TP (X : Cx) (pins : List (Addr × Obj)) (σ : St) (Q : Bool → Hp → Prop) (b : Bool) (s' : Shared) : Prop := ∃ H', Inv X pins σ H' s' ∧ Q b H'
def AP (X : Cx) (pins : List (Addr × Obj)) (σ : St) (Q : List V → Hp → Prop) (us : List Value) (s' : Shared) : Prop := ∃ vs H', Inv X pins σ H' s' ∧ Vals vs us ∧ Q vs H'
def SP (X : Cx) (pins : List (Addr × Obj)) (D : Ends) (f : Flow) (s' : Shared) : Prop :=
  match f with
  | .next => ∃ σ' H', Inv X pins σ' H' s' ∧ D.nx σ' H'
  | .brk => ∃ σ' H', Inv X pins σ' H' s' ∧ D.bk σ' H'
  | .cont => ∃ σ' H', Inv X pins σ' H' s' ∧ D.ct σ' H'
  | .ret u => ∃ v σ' H', Inv X pins σ' H' s' ∧ RelV v u ∧ D.rt v H'
def PE (X : Cx) (e : Expr) (t : TE) : Prop :=
  ∀ (pins : List (Addr × Obj)) (s : Shared) (σ : St) (H : Hp) (Q : VK), Inv X pins σ H s → t σ H Q → wpAny (model X.prog X.w) X.A (eval e X.env) (EP X pins σ Q) X.xe s
def PT (X : Cx) (e : Expr) (t : TT) : Prop :=
  ∀ (pins : List (Addr × Obj)) (s : Shared) (σ : St) (H : Hp) (Q : Bool → Hp → Prop), Inv X pins σ H s → t σ H Q → wpAny (model X.prog X.w) X.A (isTrue e X.env (eval e X.env)) (TP X pins σ Q) X.xe s
def PW (X : Cx) (e : Expr) (t : TT) : Prop :=
  ∀ (whole : Sem Value) (pins : List (Addr × Obj)) (s : Shared) (σ : St) (H : Hp) (Q : Bool → Hp → Prop), Inv X pins σ H s → t σ H Q → wpAny (model X.prog X.w) X.A (isTrue e X.env whole) (TP X pins σ Q) X.xe s
theorem PW.pt {X : Cx} {e : Expr} {t : TT} (h : PW X e t) : PT X e t := h _
def PA (X : Cx) (es : List Expr) (t : TA) : Prop :=
  ∀ (pos : Pos) (pins : List (Addr × Obj)) (s : Shared) (σ : St) (H : Hp) (Q : List V → Hp → Prop), Inv X pins σ H s → t σ H Q → wpAny (model X.prog X.w) X.A (spliced (backTo pos (starEach es X.env))) (AP X pins σ Q) X.xe s
def PS (X : Cx) (st : Stmt) (t : TS) : Prop :=
  ∀ (pins : List (Addr × Obj)) (s : Shared) (σ : St) (H : Hp) (D : Ends), Inv X pins σ H s → t D σ H → wpAny (model X.prog X.w) X.A (exec st X.env) (SP X pins D) X.xe s
def PSs (X : Cx) (st : List Stmt) (t : TS) : Prop :=
  ∀ (pins : List (Addr × Obj)) (s : Shared) (σ : St) (H : Hp) (D : Ends), Inv X pins σ H s → t D σ H → wpAny (model X.prog X.w) X.A (execs st X.env) (SP X pins D) X.xe s
theorem thn {α : Type} {t : Sem α} {Q Q' : α → Shared → Prop} {M : Model} {A : Around} {E : Value → Shared → Prop} {s : Shared} (h : wpAny M A t Q E s) (hQ : ∀ a s, Q a s → Q' a s) : wpAny M A t Q' E s := wpAny_mono h hQ fun _ _ x => x
end L2
namespace L2
open PySem PySem.Spec PyProof.Rows
section
variable {X : Cx}
def tVar (i : Nat) : TE := fun σ H Q => ∃ v, σ[i]? = some (some v) ∧ Q v H
def tC (v : V) : TE := fun _ H Q => Q v H
theorem pe_var {i : Nat} {x : Str} {pos : Pos} (hN : X.N[i]? = some x) (hv : Vis X.env.scope x) (hd : (x == ("__debug__" : Str)) = false := by decide) (hcd : (x == ("__classdict__" : Str)) = false := by decide) : PE X (.Name x pos) (tVar i) := by
  intro pins s σ H Q I h
  obtain ⟨v, e, h⟩ := h
  obtain ⟨m, hn, hl⟩ := I.loc
  obtain ⟨u, r, l⟩ := hl i x v hN e hv
  have fin : EP X pins σ Q u s := ⟨v, H, I, r, h⟩
  rcases l with ⟨hk, hm⟩ | ⟨hk, c, hc, hcell⟩
  · exact wpAny_Name (wpAny_loadName_local I.ok.kind hk hn hm fin) hd
  · rcases hk with hk | hk
    · exact wpAny_Name (wpAny_loadName_cell I.ok.kind hk hc hcell fin) hd
    · exact wpAny_Name (wpAny_loadName_free I.ok.kind hk hc hcell fin hcd) hd
theorem pe_int {i j pos} : PE X (.Constant (.int i) j pos) (tC (.int i)) := fun _ _ _ H _ I h => wpAny_Constant_int ⟨.int i, H, I.tok _, ⟨_, rfl⟩, h⟩
theorem pe_bl {b j pos} : PE X (.Constant (.bool b) j pos) (tC (.bl b)) := fun _ _ _ H _ I h => Constant_bool ⟨.bl b, H, I, rfl, h⟩
theorem pe_str {x j pos} : PE X (.Constant (.str x) j pos) (tC (.str x)) := fun _ _ _ H _ I h => Calls.Constant_str ⟨.str x, H, I.tok _, ⟨_, rfl⟩, h⟩
def Gl (X : Cx) (x : Str) : Prop := X.env.kindOf x = some .globalImplicit
theorem ld_glob {E : Value → Shared → Prop} {pins : List (Addr × Obj)} {s : Shared} {σ : St} {H : Hp} {x : Str} {u : Value} {pos : Pos} {Q : Value → Shared → Prop} (I : Inv X pins σ H s) (hg : Gl X x) (hm : X.mg x = some u) (h : Q u s)
    (hd : (x == ("__debug__" : Str)) = false := by decide) : wpAny (model X.prog X.w) X.A (eval (.Name x pos) X.env) Q E s :=
  Calls.Name_function_global I.ok.kind hg (Calls.loadGlobal_global (by rw [I.ok.glob]; exact I.mod.glob.keeps I.bk) hm h) hd
theorem ld_blt {E : Value → Shared → Prop} {pins : List (Addr × Obj)} {s : Shared} {σ : St} {H : Hp} {x : Str} {u : Value} {pos : Pos} {Q : Value → Shared → Prop} (I : Inv X pins σ H s) (hg : Gl X x) (hm : X.mg x = none) (hv : bootBuiltins x = some u) (h : Q u s)
    (hn : x ≠ "__name__" := by decide) (hd : (x == ("__debug__" : Str)) = false := by decide) : wpAny (model X.prog X.w) X.A (eval (.Name x pos) X.env) Q E s := by
  obtain ⟨mb, h1, h2⟩ := I.mod.blt
  exact Calls.Name_function_global I.ok.kind hg (Calls.loadGlobal_builtin (by rw [I.ok.glob]; exact I.mod.glob.keeps I.bk) hm (by rw [I.ok.blt]; exact h1.keeps I.bk) ((h2 x hn).trans hv) h) hd
theorem pe_bltn {x : Str} {v : V} {u : Value} {pos : Pos} (hg : Gl X x) (hm : X.mg x = none) (hv : bootBuiltins x = some u) (r : RelV v u) (hn : x ≠ "__name__" := by decide) (hd : (x == ("__debug__" : Str)) = false := by decide) : PE X (.Name x pos) (tC v) :=
  fun _ _ _ H _ I h => ld_blt I hg hm hv ⟨v, H, I, r, h⟩ hn hd
variable {a b : Expr} {ta tb : TE} {pos : Pos}
def tB (t : TE) : TT := fun σ H Q => t σ H fun x H1 => ∃ c, x = .bl c ∧ Q c H1
theorem pt_val {e : Expr} {t : TE} (h : PE X e t) (he : ∀ whole, isTrue e X.env whole = (do let v ← whole; standAt e.pos; holding [v] (truthy v)) := by intro _; rfl) : PT X e (tB t) := by
  intro pins s σ H Q I hw
  refine isTrue_plain (thn (h pins s σ H _ I hw) fun v s1 ⟨x, H1, I1, r1, q1⟩ => ?_) (he _)
  obtain ⟨d, rfl, q⟩ := q1
  cases r1
  exact wpAny_truthy_bool ⟨H1, I1, q⟩
variable {tA tB' : TT} {rest : List Expr}
def tAnd (t u : TT) : TT := fun σ H Q => t σ H fun c H1 => if c = true then u σ H1 Q else Q false H1
def tOr (t u : TT) : TT := fun σ H Q => t σ H fun c H1 => if c = true then Q true H1 else u σ H1 Q
def tNot (t : TT) : TT := fun σ H Q => t σ H fun c H1 => Q (!c) H1
theorem pw_and1 (ha : PT X a tA) : PW X (.BoolOp .And [a] pos) tA := by
  intro wh pins s σ H Q I h
  refine isTrue_and (thn (ha pins s σ H Q I h) fun c s1 e => ?_)
  cases c with
  | true => exact isTrue_and_nil e
  | false => exact e
theorem pw_or1 (ha : PT X a tA) : PW X (.BoolOp .Or [a] pos) tA := by
  intro wh pins s σ H Q I h
  refine isTrue_or (thn (ha pins s σ H Q I h) fun c s1 e => ?_)
  cases c with
  | false => exact isTrue_or_nil e
  | true => exact e
theorem pw_and (ha : PT X a tA) (hb : PW X (.BoolOp .And (b :: rest) pos) tB') : PW X (.BoolOp .And (a :: b :: rest) pos) (tAnd tA tB') := by
  intro wh pins s σ H Q I h
  refine isTrue_and (thn (ha pins s σ H _ I h) fun c s1 ⟨H1, I1, q1⟩ => ?_)
  cases c with
  | true => exact hb wh pins s1 σ H1 Q I1 q1
  | false => exact ⟨H1, I1, q1⟩
theorem pw_or (ha : PT X a tA) (hb : PW X (.BoolOp .Or (b :: rest) pos) tB') : PW X (.BoolOp .Or (a :: b :: rest) pos) (tOr tA tB') := by
  intro wh pins s σ H Q I h
  refine isTrue_or (thn (ha pins s σ H _ I h) fun c s1 ⟨H1, I1, q1⟩ => ?_)
  cases c with
  | true => exact ⟨H1, I1, q1⟩
  | false => exact hb wh pins s1 σ H1 Q I1 q1
theorem pt_not (ha : PT X a tA) : PT X (.UnaryOp .Not a pos) (tNot tA) := by
  intro pins s σ H Q I h
  exact isTrue_not (ha pins s σ H (fun c H1 => Q (!c) H1) I h)
def tAndV (ta tb : TE) : TE := fun σ H Q => ta σ H fun x H1 => ∃ c, x = .bl c ∧ if c = true then tb σ H1 Q else Q (.bl false) H1
def tOrV (ta tb : TE) : TE := fun σ H Q => ta σ H fun x H1 => ∃ c, x = .bl c ∧ if c = true then Q (.bl true) H1 else tb σ H1 Q
def tNotV (ta : TE) : TE := fun σ H Q => ta σ H fun x H1 => ∃ c, x = .bl c ∧ Q (.bl (!c)) H1
theorem pe_one {op} {t : TE} (h : PE X a t) : PE X (.BoolOp op [a] pos) t := fun pins s σ H Q I hw => BoolOp_one (h pins s σ H Q I hw)
theorem pe_and (ha : PE X a ta) (hb : PE X (.BoolOp .And (b :: rest) pos) tb) : PE X (.BoolOp .And (a :: b :: rest) pos) (tAndV ta tb) := by
  intro pins s σ H Q I h
  refine BoolOp_and (thn (ha pins s σ H _ I h) fun v s1 ⟨x, H1, I1, r1, q1⟩ => ?_)
  obtain ⟨c, rfl, q1⟩ := q1
  cases r1
  refine wpAny_truthy_bool ?_
  cases c with
  | true => exact hb pins s1 σ H1 Q I1 q1
  | false => exact ⟨.bl false, H1, I1, rfl, q1⟩
theorem pe_or (ha : PE X a ta) (hb : PE X (.BoolOp .Or (b :: rest) pos) tb) : PE X (.BoolOp .Or (a :: b :: rest) pos) (tOrV ta tb) := by
  intro pins s σ H Q I h
  refine BoolOp_or (thn (ha pins s σ H _ I h) fun v s1 ⟨x, H1, I1, r1, q1⟩ => ?_)
  obtain ⟨c, rfl, q1⟩ := q1
  cases r1
  refine wpAny_truthy_bool ?_
  cases c with
  | false => exact hb pins s1 σ H1 Q I1 q1
  | true => exact ⟨.bl true, H1, I1, rfl, q1⟩
theorem pe_not (ha : PE X a ta) : PE X (.UnaryOp .Not a pos) (tNotV ta) := by
  intro pins s σ H Q I h
  refine UnaryOp_ (thn (ha pins s σ H _ I h) fun v s1 ⟨x, H1, I1, r1, q1⟩ => ?_)
  obtain ⟨c, rfl, q1⟩ := q1
  cases r1
  exact not_of (wpAny_truthy_bool ⟨.bl (!c), H1, I1, rfl, q1⟩)
end
end L2
namespace L2
open PySem PySem.Spec PyProof.Rows
def SqL (K : PySem.W.Frag) (H : Hp) (a : Addr) (xs : List V) : Prop :=
  Rd H a (.lst xs) ∨
    ∃ (o : Obj) (its : Array Value) (n : Nat), K.lookup a = some o ∧ o.cls = .type "list" ∧ o.dict = none ∧ o.data = .seq its n ∧ its.size ≤ sizeLine ∧ Vals xs its.toList
def SqT (K : PySem.W.Frag) (H : Hp) (a : Addr) (xs : List V) : Prop :=
  Rd H a (.tup xs) ∨
    ∃ (o : Obj) (its : Array Value) (n : Nat), K.lookup a = some o ∧ o.cls = .type "tuple" ∧ o.data = .seq its n ∧ its.size ≤ sizeLine ∧ Vals xs its.toList
def absV : Value → Option V
  | .none => some .non
  | .bool b => some (.bl b)
  | .int i _ => some (.int i)
  | .str x _ => some (.str x)
  | .bytes b _ => some (.byt b)
  | .float b _ => some (.flt b)
  | .ref a => some (.ref a)
  | .type n => some (.ty n)
  | _ => none
theorem RelV.abs {x : V} {u : Value} (r : RelV x u) : absV u = some x := by
  cases x with
  | non => cases r; rfl
  | bl _ => cases r; rfl
  | int _ => obtain ⟨t, rfl⟩ := r; rfl
  | str _ => obtain ⟨t, rfl⟩ := r; rfl
  | byt _ => obtain ⟨t, rfl⟩ := r; rfl
  | flt _ => obtain ⟨t, rfl⟩ := r; rfl
  | ref _ => cases r; rfl
  | ty _ => cases r; rfl
theorem RelV.inj {x y : V} {u : Value} (r : RelV x u) (q : RelV y u) : x = y := Option.some.inj (r.abs.symm.trans q.abs)
theorem Vals.inj : ∀ {xs ys : List V} {us : List Value}, Vals xs us → Vals ys us → xs = ys
  | _, _, _, .nil, .nil => rfl
  | _, _, _, .cons r t, .cons r' t' => by rw [r.inj r', Vals.inj t t']
section
variable {X : Cx} {pins : List (Addr × Obj)} {σ : St} {H : Hp} {s : Shared} {a : Addr} {xs ys : List V}
theorem SqL.of {K : PySem.W.Frag} (h : H a = some (.lst xs)) : SqL K H a xs := .inl (.inl h)
theorem SqT.of {K : PySem.W.Frag} (h : H a = some (.tup xs)) : SqT K H a xs := .inl (.inl h)
theorem Inv.list (I : Inv X pins σ H s) (h : SqL X.K H a xs) : ∃ its : List Value, Vals xs its ∧ PlainL s.heap a its.toArray ∧ xs.length ≤ sizeLine := by
  rcases h with h | ⟨o, its, n, hk, hc, hd, hs, hz, r⟩
  · obtain ⟨z, its, n, r, e⟩ := h.ok I.hok
    exact ⟨its, r, ⟨_, n, e, rfl, rfl, rfl⟩, z⟩
  · refine ⟨its.toList, r, ⟨o, n, I.kIn a o hk, hc, hd, by simpa using hs⟩, ?_⟩
    have e := r.length
    simp only [Array.length_toList] at e
    omega
theorem Inv.tuple (I : Inv X pins σ H s) (h : SqT X.K H a xs) : ∃ its : List Value, Vals xs its ∧ IsTup s.heap a its.toArray ∧ xs.length ≤ sizeLine := by
  rcases h with h | ⟨o, its, n, hk, hc, hs, hz, r⟩
  · obtain ⟨z, its, r, p⟩ := h.ok I.hok
    exact ⟨its, r, p, z⟩
  · refine ⟨its.toList, r, ⟨o, I.kIn a o hk, hc, n, by simpa using hs⟩, ?_⟩
    have e := r.length
    simp only [Array.length_toList] at e
    omega
theorem Inv.list_inj (I : Inv X pins σ H s) (h : SqL X.K H a xs) (h' : SqL X.K H a ys) : xs = ys := by
  obtain ⟨its, r, ⟨o, n, e, _, _, d⟩, _⟩ := I.list h
  obtain ⟨its', r', ⟨o', n', e', _, _, d'⟩, _⟩ := I.list h'
  rw [e] at e'; cases e'
  rw [d] at d'
  injection d' with d1 _
  have : its = its' := by simpa using congrArg Array.toList d1
  subst this
  exact r.inj r'
theorem Inv.tuple_inj (I : Inv X pins σ H s) (h : SqT X.K H a xs) (h' : SqT X.K H a ys) : xs = ys := by
  obtain ⟨its, r, ⟨o, e, _, n, d⟩, _⟩ := I.tuple h
  obtain ⟨its', r', ⟨o', e', _, n', d'⟩, _⟩ := I.tuple h'
  rw [e] at e'; cases e'
  rw [d] at d'
  injection d' with d1 _
  have : its = its' := by simpa using congrArg Array.toList d1
  subst this
  exact r.inj r'
end
abbrev Cx.wish (X : Cx) (E : Value → Shared → Prop) : Cx := { X with xe := E }
abbrev Cx.nox (X : Cx) : Cx := X.wish fun _ _ => False
theorem Cx.Ok.wish {X : Cx} (ok : X.Ok) (E : Value → Shared → Prop) : (X.wish E).Ok :=
  ⟨ok.mod, ok.kind, ok.glob, ok.blt, ok.above, ok.inj, ok.has, ok.cab, ok.hd, ok.frames, ok.stk, ok.exf, ok.bs, ok.bsz, ok.noex, ok.exfs, ok.funs, ok.frf⟩
theorem Cx.Ok.unwish {X : Cx} {E : Value → Shared → Prop} (ok : (X.wish E).Ok) : X.Ok :=
  ⟨ok.mod, ok.kind, ok.glob, ok.blt, ok.above, ok.inj, ok.has, ok.cab, ok.hd, ok.frames, ok.stk, ok.exf, ok.bs, ok.bsz, ok.noex, ok.exfs, ok.funs, ok.frf⟩
section
variable {X : Cx} {pins : List (Addr × Obj)} {σ : St} {H : Hp} {s : Shared} {E : Value → Shared → Prop}
theorem Inv.wish (I : Inv X pins σ H s) (E : Value → Shared → Prop) : Inv (X.wish E) pins σ H s := ⟨I.ok.wish E, I.os, I.bare, I.base, I.loc, I.cell, I.free, I.freeC, I.pin, I.hok, I.len⟩
theorem Inv.unwish (I : Inv (X.wish E) pins σ H s) : Inv X pins σ H s := ⟨I.ok.unwish, I.os, I.bare, I.base, I.loc, I.cell, I.free, I.freeC, I.pin, I.hok, I.len⟩
theorem SP.unwish {D : Ends} {f : Flow} {s' : Shared} (h : SP (X.wish E) pins D f s') : SP X pins D f s' := by
  cases f with
  | next => obtain ⟨σ', H', I, q⟩ := h; exact ⟨σ', H', I.unwish, q⟩
  | brk => obtain ⟨σ', H', I, q⟩ := h; exact ⟨σ', H', I.unwish, q⟩
  | cont => obtain ⟨σ', H', I, q⟩ := h; exact ⟨σ', H', I.unwish, q⟩
  | ret u => obtain ⟨v, σ', H', I, r, q⟩ := h; exact ⟨v, σ', H', I.unwish, r, q⟩
theorem PE.nox {e : Expr} {t : TE} (h : PE X.nox e t) : PE X e t := fun pins s σ H Q I hw =>
  wpAny_mono (h pins s σ H Q (I.wish _) hw) (fun _ _ ⟨v, H', I', r, q⟩ => ⟨v, H', I'.unwish, r, q⟩) fun _ _ z => False.elim z
theorem PT.nox {e : Expr} {t : TT} (h : PT X.nox e t) : PT X e t := fun pins s σ H Q I hw =>
  wpAny_mono (h pins s σ H Q (I.wish _) hw) (fun _ _ ⟨H', I', q⟩ => ⟨H', I'.unwish, q⟩) fun _ _ z => False.elim z
theorem PSs.nox {st : List Stmt} {t : TS} (h : PSs X.nox st t) : PSs X st t := fun pins s σ H D I hw =>
  wpAny_mono (h pins s σ H D (I.wish _) hw) (fun _ _ q => q.unwish) fun _ _ z => False.elim z
end
section
variable {X : Cx} {st : Stmt} {rest : List Stmt} {t u : TS} {e : Expr} {te : TE} {pos : Pos}
def tNext : TS := fun D σ H => D.nx σ H
def tSeq (t u : TS) : TS := fun D σ H => t { D with nx := u D } σ H
theorem pss_nil : PSs X [] tNext := fun _ _ σ H _ I h => wpAny_execs_nil ⟨σ, H, I, h⟩
theorem pss_cons (h1 : PS X st t) (h2 : PSs X rest u) : PSs X (st :: rest) (tSeq t u) := by
  intro pins s σ H D I h
  refine wpAny_execs_cons (thn (h1 pins s σ H { D with nx := u D } I h) fun f s1 q => ?_)
  cases f with
  | next =>
    obtain ⟨σ', H', I', q⟩ := q
    exact h2 pins s1 σ' H' D I' q
  | ret v => exact q
  | brk => exact q
  | cont => exact q
theorem pss_one (h1 : PS X st t) : PSs X [st] t := by
  intro pins s σ H D I h
  refine wpAny_execs_cons (thn (h1 pins s σ H D I h) fun f s1 q => ?_)
  cases f with
  | next => exact wpAny_execs_nil q
  | ret v => exact q
  | brk => exact q
  | cont => exact q
theorem Inv.quiet {pins : List (Addr × Obj)} {σ : St} {H : Hp} {s : Shared} (I : Inv X pins σ H s) : interactive X.env = false := by simp [interactive, I.ok.kind]
def tDrop (te : TE) : TS := fun D σ H => te σ H fun _ H1 => D.nx σ H1
theorem ps_expr (he : PE X e te) (hs : swapsWith e none pos.line X.env = pure false := by rfl) : PS X (.Expr e pos) (tDrop te) := by
  intro pins s σ H D I h
  exact wpAny_Expr_any (thn (he pins s σ H _ I h) fun v s1 ⟨x, H1, I1, r1, q1⟩ => ⟨σ, H1, I1, q1⟩) I.quiet hs
def tRet (te : TE) : TS := fun D σ H => te σ H D.rt
theorem ps_ret (he : PE X e te) : PS X (.Return (some e) pos) (tRet te) := by
  intro pins s σ H D I h
  exact wpAny_Return_some (thn (he pins s σ H _ I h) fun v s1 ⟨x, H1, I1, r1, q1⟩ => ⟨x, σ, H1, I1, r1, q1⟩)
def tIfS (c : TT) (t u : TS) : TS := fun D σ H => c σ H fun b H1 => if b = true then t D σ H1 else u D σ H1
theorem ps_if {c : Expr} {a b : List Stmt} {tc : TT} (hc : PT X c tc) (ha : PSs X a t) (hb : PSs X b u) : PS X (.If c a b pos) (tIfS tc t u) := by
  intro pins s σ H D I h
  refine wpAny_If (thn (hc pins s σ H _ I h) fun d s1 ⟨H1, I1, q1⟩ => ?_)
  cases d with
  | true => exact ha pins s1 σ H1 D I1 q1
  | false => exact hb pins s1 σ H1 D I1 q1
end
abbrev TG := V → St → Hp → (St → Hp → Prop) → Prop
abbrev TGs := List V → St → Hp → (St → Hp → Prop) → Prop
def PG (X : Cx) (target : Expr) (t : TG) : Prop :=
  ∀ (pins : List (Addr × Obj)) (s : Shared) (σ : St) (H : Hp) (v : V) (u : Value) (Q : St → Hp → Prop), Inv X pins σ H s → RelV v u → t v σ H Q →
    wpAny (model X.prog X.w) X.A (assign target X.env u) (fun _ s' => ∃ σ' H', Inv X pins σ' H' s' ∧ Q σ' H') X.xe s
def PGs (X : Cx) (ts : List Expr) (t : TGs) : Prop :=
  ∀ (pins : List (Addr × Obj)) (s : Shared) (σ : St) (H : Hp) (vs : List V) (us : List Value) (Q : St → Hp → Prop), Inv X pins σ H s → Vals vs us → t vs σ H Q →
    wpAny (model X.prog X.w) X.A (assignInOrder ((assignEach ts X.env).map (·.2)) us) (fun _ s' => ∃ σ' H', Inv X pins σ' H' s' ∧ Q σ' H') X.xe s
section
variable {X : Cx} {pos : Pos}
def gName (i : Nat) : TG := fun v σ H Q => Q (σ.set i (some v)) H
theorem pg_name {i : Nat} {x : Str} (hN : X.N.Nodup) (hi : X.N[i]? = some x) (hx : Loc X.env.scope x) (hf : X.fn x = true ∨ X.env.scope.names.lookup x = some .local := by first | exact .inl rfl | exact .inr rfl | assumption) : PG X (.Name x pos) (gName i) := by
  intro pins s σ H v u Q I r h
  exact wpAny_assign_Name (store_ok I hN hi hx r (fun s' I' => ⟨_, H, I', h⟩) hf)
def gNil : TGs := fun vs σ H Q => vs = [] ∧ Q σ H
def gCons (t : TG) (u : TGs) : TGs := fun vs σ H Q => ∃ v r, vs = v :: r ∧ t v σ H fun σ' H' => u r σ' H' Q
theorem pgs_nil : PGs X [] gNil := by
  intro pins s σ H vs us Q I r h
  obtain ⟨e, h⟩ := h
  subst e
  cases r
  exact assignInOrder_nil ⟨σ, H, I, h⟩
theorem pgs_cons {e : Expr} {es : List Expr} {t : TG} {u : TGs} (h1 : PG X e t) (h2 : PGs X es u)
    (hs : (assignEach (e :: es) X.env).map (·.2) = assign e X.env :: (assignEach es X.env).map (·.2) := by rfl) : PGs X (e :: es) (gCons t u) := by
  intro pins s σ H vs us Q I r h
  obtain ⟨v, vr, e1, h⟩ := h
  subst e1
  cases r with
  | cons r rr =>
    rw [hs]
    refine assignInOrder_cons (thn (h1 pins s σ H _ _ _ I r h) fun _ s1 ⟨σ1, H1, I1, q1⟩ => ?_)
    exact h2 pins s1 σ1 H1 _ _ Q I1 rr q1
def gTup (K : PySem.W.Frag) (n : Nat) (t : TGs) : TG := fun v σ H Q => ∃ a xs, v = .ref a ∧ SqT K H a xs ∧ xs.length = n ∧ t xs σ H Q
theorem pg_tup {es : List Expr} {k : Nat} {t : TGs} {n : Nat} (hc : X.calm = true) (h : PGs X es t)
    (hn : (assignEach es X.env).length = n := by rfl) (hst : (assignEach es X.env).findIdx? (·.1) = none := by rfl) : PG X (.Tuple es k pos) (gTup X.K n t) := by
  intro pins s σ H v u Q I r hw
  obtain ⟨a, xs, e1, hq, hl, hw⟩ := hw
  subst e1
  cases r
  obtain ⟨its, rv, ht, hz⟩ := I.tuple hq
  refine assign_Tuple_tuple (I.ok.hd hc) ht (by simp [hn, ← hl, rv.length]) hst fun h' hx => ?_
  have I1 : Inv X pins σ H { s with heap := h' } := I.kept (t' := s.toks) fun b o e => hx b o (Nat.ne_of_lt (Heap.lt_size e)) e
  exact h pins _ σ H xs _ Q I1 (by simpa using rv) hw
def tAsg (te : TE) (g : TG) : TS := fun D σ H => te σ H fun x H1 => g x σ H1 D.nx
theorem ps_asg {tg e : Expr} {te : TE} {g : TG} (he : PE X e te) (hg : PG X tg g) (hs : swapsWithSole [tg] e pos.line X.env = pure false := by rfl) (hw : swappedStores [tg] e X.env = pure none := by rfl)
    (h1 : (assignEach [tg] X.env).map (·.2) = [assign tg X.env] := by rfl) : PS X (.Assign [tg] e pos) (tAsg te g) := by
  intro pins s σ H D I h
  refine wpAny_Assign_stores (thn (he pins s σ H _ I h) fun v s1 ⟨x, H1, I1, r1, q1⟩ => ?_) hs hw
  rw [h1]
  exact thn (hg pins s1 σ H1 x v _ I1 r1 q1) fun _ s2 q => q
theorem ps_set {i : Nat} {x : Str} {e : Expr} {te : TE} {pos' : Pos} (hN : X.N.Nodup) (hi : X.N[i]? = some x) (hx : Loc X.env.scope x) (he : PE X e te) (hs : swapsWith e (some (.Name x pos')) pos.line X.env = pure false := by rfl) (hf : X.fn x = true ∨ X.env.scope.names.lookup x = some .local := by first | exact .inl rfl | exact .inr rfl | assumption) :
    PS X (.Assign [.Name x pos'] e pos) (tAsg te (gName i)) := by
  intro pins s σ H D I h
  refine wpAny_Assign_Name (thn (he pins s σ H _ I h) fun v s1 ⟨y, H1, I1, r1, q1⟩ => ?_) hs
  exact store_ok I1 hN hi hx r1 (fun s2 I2 => ⟨_, H1, I2, q1⟩) hf
def tPar (i j : Nat) (ta : TA) : TS := fun D σ H => ta σ H fun vs H1 => ∃ v w, vs = [v, w] ∧ D.nx ((σ.set i (some v)).set j (some w)) H1
theorem ps_par {i j : Nat} {x y : Str} {a b : Expr} {ta : TA} {px py pt : Pos} {kt k2 pt2} (hc : X.calm = true) (hN : X.N.Nodup) (hi : X.N[i]? = some x) (hj : X.N[j]? = some y) (hij : i ≠ j)
    (hx : X.env.scope.names.lookup x = some .local) (hy : X.env.scope.names.lookup y = some .local) (ha : PA X [a, b] ta)
    (hw : swappedStores [.Tuple [.Name x px, .Name y py] kt pt] (.Tuple [a, b] k2 pt2) X.env = pure (some [x, y]))
    (hs : swapsWithSole [.Tuple [.Name x px, .Name y py] kt pt] (.Tuple [a, b] k2 pt2) pos.line X.env = pure false := by rfl) :
    PS X (.Assign [.Tuple [.Name x px, .Name y py] kt pt] (.Tuple [a, b] k2 pt2) pos) (tPar i j ta) := by
  intro pins s σ H D I h
  rw [exec_Assign_arm]
  refine wpAny_bind (wpAny_standAt ?_)
  rw [hs]
  refine wpAny_bind (wpAny_pure ?_)
  rw [if_neg (by decide)]
  refine wpAny_bind (Tuple_ (thn (ha _ pins s σ H _ I h) fun us s1 ⟨vs, H1, I1, r1, q1⟩ => ?_))
  obtain ⟨v, w, e1, q1⟩ := q1
  subst e1
  obtain ⟨u1, u2, rfl, rv, rw'⟩ : ∃ u1 u2, us = [u1, u2] ∧ RelV v u1 ∧ RelV w u2 := by
    cases r1 with
    | cons p q =>
      cases q with
      | cons p' q' =>
        cases q'
        exact ⟨_, _, rfl, p, p'⟩
  refine wpAny_newObj_type ?_ (by show 2 ≤ sizeLine; decide)
  have I2 : Inv X pins σ H1 { s1 with heap := s1.heap.push { cls := .type "tuple", data := .seq [u1, u2].toArray } } := I1.kept (t' := s1.toks) fun b o e => Heap.get?_push_of_some _ e
  rw [hw]
  refine wpAny_bind (wpAny_pure ?_)
  show wpAny (model X.prog X.w) X.A (do rule "assign.swapped-stores"; let items ← unpackItems (.ref s1.heap.objs.size) 2 none; assignInOrder [fun v => bindName X.env y v, fun v => bindName X.env x v] items.reverse; pure Flow.next) _ _ _
  refine wpAny_bind (wpAny_rule (wpAny_bind (unpackItems_tuple (items := #[u1, u2]) (I.ok.hd hc) (IsTup.new s1.heap _) fun h' hx' => ?_)))
  have I3 := I2.kept (h' := h') (t' := s1.toks) fun b o e => hx' b o (Nat.ne_of_lt (Heap.lt_size e)) e
  show wpAny _ _ (assignInOrder [fun v => bindName X.env y v, fun v => bindName X.env x v] [u2, u1] >>= fun _ => pure Flow.next) _ _ _
  refine wpAny_bind (assignInOrder_cons (wpAny_bindName (store_ok I3 hN hj (.inl hy) rw' (fun s2 I4 => ?_) (.inr hy))))
  refine assignInOrder_cons (wpAny_bindName (store_ok I4 hN hi (.inl hx) rv (fun s3 I5 => assignInOrder_nil (wpAny_pure ?_)) (.inr hx)))
  rw [List.set_comm _ _ (Ne.symm hij)] at I5
  exact ⟨_, H1, I5, q1⟩
end
section
variable {X : Cx} {pos : Pos}
def tWhile (c : TT) (tb : TS) : TS := fun D σ H => ∃ W : Nat → St → Hp → Prop, (∃ m, W m σ H) ∧ ∀ m σ H, W m σ H →
  c σ H fun b H1 => if b = true then ∃ N : St → Hp → Prop, (∀ σ' H', N σ' H' → ∃ m', m' < m ∧ W m' σ' H') ∧ tb { D with nx := N, ct := N, bk := D.nx } σ H1 else D.nx σ H1
theorem ps_while {c : Expr} {body : List Stmt} {tc : TT} {tb : TS} (hp : PassesOwn (model X.prog X.w) X.A X.env X.xe) (hc : PT X c tc) (hb : PSs X body tb) : PS X (.While c body [] pos) (tWhile tc tb) := by
  intro pins s σ H D I h
  obtain ⟨W, ⟨m0, w0⟩, turn⟩ := h
  refine wpAny_While (codeAny_whileLoop (fun n s' => ∃ σ' H', Inv X pins σ' H' s' ∧ W n σ' H') ?_ m0 ⟨σ, H, I, w0⟩)
  rintro n s1 ⟨σ1, H1, I1, w1⟩
  refine wpAny_passesOwn hp (thn (hc pins s1 σ1 H1 _ I1 (turn n σ1 H1 w1)) fun b s2 ⟨H2, I2, q2⟩ => ?_)
  cases b with
  | true =>
    obtain ⟨N, hN, q2⟩ := q2
    rw [if_pos rfl]
    refine wpAny_passesOwn hp (thn (hb pins s2 σ1 H2 _ I2 q2) fun f s3 q3 => ?_)
    cases f with
    | next =>
      obtain ⟨σ3, H3, I3, n3⟩ := q3
      obtain ⟨m', hm, w3⟩ := hN σ3 H3 n3
      exact ⟨m', hm, σ3, H3, I3, w3⟩
    | cont =>
      obtain ⟨σ3, H3, I3, n3⟩ := q3
      obtain ⟨m', hm, w3⟩ := hN σ3 H3 n3
      exact ⟨m', hm, σ3, H3, I3, w3⟩
    | brk => exact q3
    | ret v => exact q3
  | false =>
    rw [if_neg Bool.false_ne_true]
    exact wpAny_execs_nil ⟨σ1, H2, I2, q2⟩
end
structure It where
  go : Nat → Hp → Prop
  yld : Nat → Hp → V → Hp → Prop
  stop : Nat → Hp → Prop
def FpOk (X : Cx) (pins : List (Addr × Obj)) (H : Hp) (b : Addr) : Prop :=
  H b = none ∧ b ≠ X.env.locals ∧ b ∉ X.fs ∧ (b ∈ X.ex ∨ X.s₀.heap.objs.size ≤ b) ∧ (∀ x c, X.env.cells.lookup x = some c → c ≠ b) ∧ ∀ p ∈ X.pn ++ pins, p.1 ≠ b
theorem Inv.fpOk {X : Cx} {pins : List (Addr × Obj)} {σ : St} {H H' : Hp} {s : Shared} {b : Addr} (I : Inv X pins σ H s) (hb : s.heap.objs.size ≤ b) (hn : H' b = none) : FpOk X pins H' b := by
  refine ⟨hn, Nat.ne_of_gt (Nat.lt_of_lt_of_le I.lt hb), I.nofs hb, .inr (Nat.le_trans I.sz hb), fun x c e z => ?_, fun p hp z => ?_⟩
  · obtain ⟨v, q⟩ := I.cell x c e
    exact absurd (Nat.lt_of_lt_of_le q.lt (by rw [z]; exact hb)) (Nat.lt_irrefl _)
  · exact absurd (Nat.lt_of_lt_of_le (Heap.lt_size (I.pin p hp).1) (by rw [z]; exact hb)) (Nat.lt_irrefl _)
structure Turn (P : Program) (w : World) (K : PySem.W.Frag) (tg : Expr) (J : It) (fp : List Addr) (it : Addr) (tn : Nat → Heap → Prop) : Prop where
  mem : it ∈ fp
  obj : ∀ i h, tn i h → ∀ b ∈ fp, ∃ o, h.get? b = some o ∧ ∀ v, o.data ≠ .cell v
  keep : ∀ i h h', tn i h → (∀ b ∈ fp, ∀ o, h.get? b = some o → h'.get? b = some o) → tn i h'
  item : ∀ (X : Cx), X.prog = P → X.w = w → X.K = K → X.calm = true → ∀ (i : Nat) (pins : List (Addr × Obj)) (s : Shared) (σ : St) (H : Hp) (E : Value → Shared → Prop), Inv X pins σ H s → (∀ b ∈ fp, FpOk X pins H b) → tn i s.heap → J.go i H →
    wpAny (model P w) X.A (pyNext (.ref it)) (fun r s1 => ∃ u, r = some u ∧
      wpAny (model P w) X.A (letOwnedTupleGo tg (.ref it) u) (fun _ s2 => ∃ x H', Inv X pins σ H' s2 ∧ RelV x u ∧ J.yld i H x H' ∧ tn (i + 1) s2.heap ∧ ∀ b ∈ fp, H' b = none) E s1) E s
  done : ∀ (X : Cx), X.prog = P → X.w = w → X.K = K → X.calm = true → ∀ (i : Nat) (pins : List (Addr × Obj)) (s : Shared) (σ : St) (H : Hp) (E : Value → Shared → Prop), Inv X pins σ H s → (∀ b ∈ fp, FpOk X pins H b) → tn i s.heap → J.stop i H →
    wpAny (model P w) X.A (pyNext (.ref it)) (fun r s1 => r = none ∧ Inv X pins σ H s1) E s
  self : ∀ (A : Around) (i : Nat) (s : Shared) (Q : Value → Shared → Prop) (E : Value → Shared → Prop), tn i s.heap → Q (.ref it) s → wpAny (model P w) A (pyIter (.ref it)) Q E s
abbrev TI := St → Hp → (It → Hp → Prop) → Prop
def PIE (X : Cx) (pins : List (Addr × Obj)) (σ : St) (tg : Expr) (R : It → Hp → Prop) (itv : Value) (s2 : Shared) : Prop :=
  ∃ (it : Addr) (fp : List Addr) (tn : Nat → Heap → Prop) (J : It) (H' : Hp), itv = .ref it ∧ Inv X pins σ H' s2 ∧ Turn X.prog X.w X.K tg J fp it tn ∧ tn 0 s2.heap ∧ (∀ b ∈ fp, FpOk X pins H' b) ∧ R J H'
def PI (X : Cx) (tg iter : Expr) (wi : TI) : Prop :=
  ∀ (pins : List (Addr × Obj)) (s : Shared) (σ : St) (H : Hp) (R : It → Hp → Prop), Inv X pins σ H s → wi σ H R →
    wpAny (model X.prog X.w) X.A (eval iter X.env) (fun v s1 => wpAny (model X.prog X.w) X.A (pyIter v) (PIE X pins σ tg R) X.xe s1) X.xe s
theorem go_of {M : Model} {A : Around} {E : Value → Shared → Prop} {s : Shared} {tg : Expr} {it : Addr} {u : Value} {o : Obj} {n : String} {vs : Array Value} {Q : Unit → Shared → Prop} (ho : s.heap.get? it = some o) (hc : o.cls = .type n) (hd : o.data = .fields vs)
    (hn : ["enumerate", "zip", "dict_itemiterator", "dict_reverseitemiterator", "odict_iterator", "itertools.zip_longest", "itertools.pairwise"].contains n = false) (hQ : Q () s) : wpAny M A (letOwnedTupleGo tg (.ref it) u) Q E s := by
  unfold letOwnedTupleGo
  cases tg <;> first
    | exact wpAny_pure hQ
    | (cases u <;> first
        | exact wpAny_pure hQ
        | (refine wpAny_bind (wpAny_load ho ?_)
           rw [hc, hd]
           show wpAny M A (if (["enumerate", "zip", "dict_itemiterator", "dict_reverseitemiterator", "odict_iterator", "itertools.zip_longest", "itertools.pairwise"].contains n && vs[0]? == some (rawInt _)) = true then _ else _) Q E s
           rw [if_neg (by intro h; rw [hn, Bool.false_and] at h; cases h)]
           exact wpAny_pure hQ))
def Itl (K : PySem.W.Frag) (a : Addr) : It :=
  ⟨fun i H => ∃ xs x, SqL K H a xs ∧ xs[i]? = some x, fun i H x H' => H' = H ∧ ∀ xs, SqL K H a xs → xs[i]? = some x, fun i H => ∃ xs, SqL K H a xs ∧ xs.length ≤ i⟩
def Itt (K : PySem.W.Frag) (a : Addr) : It :=
  ⟨fun i H => ∃ xs x, SqT K H a xs ∧ xs[i]? = some x, fun i H x H' => H' = H ∧ ∀ xs, SqT K H a xs → xs[i]? = some x, fun i H => ∃ xs, SqT K H a xs ∧ xs.length ≤ i⟩
def Itr (lo : Int) (n : Nat) : It := ⟨fun i _ => i < n, fun i H x H' => H' = H ∧ x = .int (lo + i), fun i _ => n ≤ i⟩
theorem turn_list {P : Program} {w : World} {K : PySem.W.Frag} {tg : Expr} (a it : Addr) : Turn P w K tg (Itl K a) [it] it (fun i h => h.IsListIter it a i) where
  mem := by simp
  obj := fun i h st b hb => by
    have e : b = it := by simpa using hb
    subst e
    obtain ⟨o, e, c, d⟩ := st
    exact ⟨o, e, fun v z => by rw [d] at z; cases z⟩
  keep := fun i h h' st k => st.at fun o e => k it (by simp) o e
  item := by
    intro X hP hw hK hc i pins s σ H E I hf st hg
    subst hP hw hK
    obtain ⟨xs, x, hq, hx⟩ := hg
    obtain ⟨its, rv, p, hz⟩ := I.list hq
    obtain ⟨u, hu, ru⟩ := rv.get hx
    obtain ⟨f0, f1, f2, f3, f4, f5⟩ := hf it (by simp)
    refine wpAny_pyNext_list_item st p.isList (x := u) (by simpa using hu) fun h' st' sb => ?_
    have I1 : Inv X pins σ H { s with heap := h' } := I.turned (t' := s.toks) (fun b o hb e => (sb.2 b hb).trans e) f0 f1 f3 f4 f5
    obtain ⟨o, e, c, d⟩ := id st'
    exact ⟨u, rfl, go_of (s := { s with heap := h' }) e c d (by decide) ⟨x, H, I1, ru, ⟨rfl, fun ys hy => by rw [I.list_inj hy hq]; exact hx⟩, st', fun b hb => (hf b hb).1⟩⟩
  done := by
    intro X hP hw hK hc i pins s σ H E I hf st hg
    subst hP hw hK
    obtain ⟨xs, hq, hx⟩ := hg
    obtain ⟨its, rv, p, hz⟩ := I.list hq
    obtain ⟨f0, f1, f2, f3, f4, f5⟩ := hf it (by simp)
    have hl := rv.length
    exact wpAny_pyNext_list_end (I.ok.hd hc) st p.isList (by simp; omega) fun h' eb => ⟨rfl, I.turned (t' := s.toks) (fun b o hb e => eb b o hb e) f0 f1 f3 f4 f5⟩
  self := fun _ _ _ _ _ st h => wpAny_pyIter_listiter st h
theorem turn_tuple {P : Program} {w : World} {K : PySem.W.Frag} {tg : Expr} (a it : Addr) : Turn P w K tg (Itt K a) [it] it (fun i h => h.IsTupleIter it a i) where
  mem := by simp
  obj := fun i h st b hb => by
    have e : b = it := by simpa using hb
    subst e
    obtain ⟨o, e, c, d⟩ := st
    exact ⟨o, e, fun v z => by rw [d] at z; cases z⟩
  keep := fun i h h' st k => st.at fun o e => k it (by simp) o e
  item := by
    intro X hP hw hK hc i pins s σ H E I hf st hg
    subst hP hw hK
    obtain ⟨xs, x, hq, hx⟩ := hg
    obtain ⟨its, rv, p, hz⟩ := I.tuple hq
    obtain ⟨u, hu, ru⟩ := rv.get hx
    obtain ⟨f0, f1, f2, f3, f4, f5⟩ := hf it (by simp)
    refine wpAny_pyNext_tuple_item st (show s.heap.IsTuple a its.toArray from p) (x := u) (by simpa using hu) fun h' st' sb => ?_
    have I1 : Inv X pins σ H { s with heap := h' } := I.turned (t' := s.toks) (fun b o hb e => (sb.2 b hb).trans e) f0 f1 f3 f4 f5
    obtain ⟨o, e, c, d⟩ := id st'
    exact ⟨u, rfl, go_of (s := { s with heap := h' }) e c d (by decide) ⟨x, H, I1, ru, ⟨rfl, fun ys hy => by rw [I.tuple_inj hy hq]; exact hx⟩, st', fun b hb => (hf b hb).1⟩⟩
  done := by
    intro X hP hw hK hc i pins s σ H E I hf st hg
    subst hP hw hK
    obtain ⟨xs, hq, hx⟩ := hg
    obtain ⟨its, rv, p, hz⟩ := I.tuple hq
    obtain ⟨f0, f1, f2, f3, f4, f5⟩ := hf it (by simp)
    have hl := rv.length
    exact wpAny_pyNext_tuple_end (I.ok.hd hc) st (show s.heap.IsTuple a its.toArray from p) (by simp; omega) fun h' eb => ⟨rfl, I.turned (t' := s.toks) (fun b o hb e => eb b o hb e) f0 f1 f3 f4 f5⟩
  self := fun _ _ _ _ _ st h => wpAny_pyIter_tupleiter st h
theorem turn_range {P : Program} {w : World} {K : PySem.W.Frag} {tg : Expr} (it : Addr) (lo : Int) (n : Nat) : Turn P w K tg (Itr lo n) [it] it (fun i h => IsRangeIter h it (lo + (i : Nat) * 1) ((n : Int) - (i : Nat)) 1) where
  mem := by simp
  obj := fun i h st b hb => by
    have e : b = it := by simpa using hb
    subst e
    exact ⟨_, st, fun v z => by
      have z' : Data.fields _ = Data.cell v := z
      cases z'⟩
  keep := fun i h h' st k => k it (by simp) _ st
  item := by
    intro X hP hw hK hc i pins s σ H E I hf st hg
    subst hP hw hK
    obtain ⟨f0, f1, f2, f3, f4, f5⟩ := hf it (by simp)
    have W := Walks.range (prog := X.prog) (w := X.w) (I.ok.hd hc) it lo 1 n
    refine W.item i s _ _ hg st fun v h' tk hv st' kk => ?_
    obtain ⟨t, rfl⟩ := hv
    have I1 : Inv X pins σ H { s with heap := h', toks := tk } := I.turned (fun b o hb e => kk b o (by simpa using hb) e) f0 f1 f3 f4 f5
    refine ⟨_, rfl, go_of (s := { s with heap := h', toks := tk }) (n := "range_iterator") st' rfl rfl (by decide) ⟨.int (lo + i), H, I1, ⟨t, ?_⟩, ⟨rfl, rfl⟩, st', fun b hb => (hf b hb).1⟩⟩
    rw [Int.mul_one]
  done := by
    intro X hP hw hK hc i pins s σ H E I hf st hg
    subst hP hw hK
    obtain ⟨f0, f1, f2, f3, f4, f5⟩ := hf it (by simp)
    exact wpAny_pyNext_range_end (I.ok.hd hc) st (by have : n ≤ i := hg; omega) fun h' eb => ⟨rfl, I.turned (t' := s.toks) (fun b o hb e => eb b o hb e) f0 f1 f3 f4 f5⟩
  self := fun _ _ _ _ _ st h => wpAny_pyIter_rangeiter st h
end L2
namespace L2
open PySem PySem.Spec PyProof.Rows
section
variable {X : Cx} {tg : Expr}
theorem range_it {pins : List (Addr × Obj)} {σ : St} {H : Hp} {s : Shared} {R : It → Hp → Prop} {E : Value → Shared → Prop} {lo hi : Int} {t u v : Tok} {tk : Nat} (I : Inv X pins σ H s) (h1 : -(2 ^ 62) ≤ lo) (h2 : lo < 2 ^ 62) (h3 : -(2 ^ 62) ≤ hi) (h4 : hi < 2 ^ 62)
    (q : R (Itr lo (hi - lo).toNat) H) : wpAny (model X.prog X.w) X.A (pyIter (.ref s.heap.objs.size)) (PIE X pins σ tg R) E { s with heap := s.heap.push { cls := .type "range", data := .fields #[.int lo t, .int hi u, .int 1 v] }, toks := tk } := by
  refine wpAny_pyIter_range (IsRange.new ..) (small_one h1 h2 h3 h4) ?_
  have I1 : Inv X pins σ H { s with heap := s.heap.push { cls := .type "range", data := .fields #[.int lo t, .int hi u, .int 1 v] }, toks := tk } := I.kept fun b o e => Heap.get?_push_of_some _ e
  refine ⟨(s.heap.push { cls := .type "range", data := .fields #[.int lo t, .int hi u, .int 1 v] }).objs.size, [(s.heap.push { cls := .type "range", data := .fields #[.int lo t, .int hi u, .int 1 v] }).objs.size], _, _, H, rfl,
    I1.kept (t' := tk) fun b o e => Heap.get?_push_of_some _ e, turn_range _ lo (hi - lo).toNat, ?_, fun b hb => ?_, q⟩
  · have e1 : lo + ((0 : Nat) : Int) * 1 = lo := by simp
    have e2 : (((hi - lo).toNat : Nat) : Int) - ((0 : Nat) : Int) = Builtin.Range.rangeSize lo hi 1 := by rw [rangeSize_one]; split <;> omega
    show IsRangeIter _ _ (lo + ((0 : Nat) : Int) * 1) ((((hi - lo).toNat : Nat) : Int) - ((0 : Nat) : Int)) 1
    rw [e1, e2]
    exact Heap.get?_push_size _ rfl
  · have e : b = (s.heap.push { cls := .type "range", data := .fields #[.int lo t, .int hi u, .int 1 v] }).objs.size := by simpa using hb
    subst e
    exact I1.fpOk (Nat.le_refl _) (I1.hok.fresh (Nat.le_refl _))
def iRng1 (ta : TA) : TI := fun σ H R => ta σ H fun vs H1 => ∃ j : Int, vs = [.int j] ∧ -(2 ^ 62) ≤ j ∧ j < 2 ^ 62 ∧ R (Itr 0 j.toNat) H1
theorem pi_range1 {a : Expr} {ta : TA} {p pos : Pos} (hg : Gl X "range") (hm : X.mg "range" = none) (ha : PA X [a] ta) (hs : starEach [a] X.env = [(false, eval a X.env)] := by rfl) : PI X tg (.Call (.Name "range" p) [a] [] pos) (iRng1 ta) := by
  intro pins s σ H R I h
  refine Call_ (ld_blt I hg hm boot_range (PyProof.Rows.callWith_type1 (thn (ha pos pins s σ H _ I h) fun us s1 ⟨vs, H1, I1, r1, q1⟩ => ?_) hs rfl))
  obtain ⟨j, e, q1, q2, q⟩ := q1
  subst e
  cases r1 with
  | cons r rr =>
    cases rr
    obtain ⟨t, rfl⟩ := r
    exact call_range_1 (range_it I1 (by omega) (by omega) q1 q2 (by simpa using q))
def tFor (wi : TI) (g : TG) (tb : TS) : TS := fun D σ H => wi σ H fun J H1 => ∃ W : Nat → Nat → St → Hp → Prop, (∃ m, W 0 m σ H1) ∧ ∀ i m σ H, W i m σ H →
  (J.stop i H ∧ D.nx σ H) ∨ (J.go i H ∧ ∃ N : St → Hp → Prop, (∀ σ' H', N σ' H' → ∃ m', m' < m ∧ W (i + 1) m' σ' H') ∧ ∀ x H', J.yld i H x H' → g x σ H' fun σ2 H2 => tb { D with nx := N, ct := N, bk := D.nx } σ2 H2)
def pinsAt (fp : List Addr) (h : Heap) : List (Addr × Obj) := fp.filterMap fun b => (h.get? b).map fun o => (b, o)
theorem mem_pinsAt {fp : List Addr} {h : Heap} {b : Addr} {o : Obj} (hb : b ∈ fp) (e : h.get? b = some o) : (b, o) ∈ pinsAt fp h := List.mem_filterMap.mpr ⟨b, hb, by rw [e]; rfl⟩
theorem of_pinsAt {fp : List Addr} {h : Heap} {p : Addr × Obj} (hp : p ∈ pinsAt fp h) : p.1 ∈ fp ∧ h.get? p.1 = some p.2 := by
  obtain ⟨b, hb, e⟩ := List.mem_filterMap.mp hp
  cases q : h.get? b with
  | none => rw [q] at e; cases e
  | some o =>
    rw [q] at e
    have e' : (b, o) = p := Option.some.inj e
    subst e'
    exact ⟨hb, q⟩
theorem Inv.pinned {pins : List (Addr × Obj)} {σ : St} {H : Hp} {s : Shared} {fp : List Addr} (I : Inv X pins σ H s) (hf : ∀ b ∈ fp, FpOk X pins H b) (ho : ∀ b ∈ fp, ∃ o, s.heap.get? b = some o ∧ ∀ v, o.data ≠ .cell v) : Inv X (pins ++ pinsAt fp s.heap) σ H s :=
  I.pins_of fun p hp => (List.mem_append.mp hp).elim (fun z => I.pin p (List.mem_append_right _ z)) fun z => by
    obtain ⟨hb, e⟩ := of_pinsAt z
    obtain ⟨f0, f1, f2, _⟩ := hf p.1 hb
    obtain ⟨o, e', d⟩ := ho p.1 hb
    rw [e] at e'; cases e'
    exact ⟨e, f0, f1, f2, d⟩
theorem Inv.unpinned {pins pl : List (Addr × Obj)} {σ : St} {H : Hp} {s : Shared} (I : Inv X (pins ++ pl) σ H s) : Inv X pins σ H s := I.pins_of fun p hp => I.pin p (List.mem_append_right _ (List.mem_append_left _ hp))
theorem ps_for {iter : Expr} {body : List Stmt} {wi : TI} {g : TG} {tb : TS} {pos : Pos} (hp : PassesOwn (model X.prog X.w) X.A X.env X.xe) (hc : X.calm = true) (hi : PI X tg iter wi) (hg : PG X tg g) (hb : PSs X body tb)
    (hs : ∀ x, foldedSetIterable iter X.env x = pure x := by intro _; rfl) : PS X (.For tg iter body [] pos) (tFor wi g tb) := by
  intro pins s σ H D I h
  refine wpAny_For (thn (hi pins s σ H _ I h) fun v s1 h1 => thn h1 fun itv s2 h2 => ?_) hs
  obtain ⟨it, fp, tn, J, H2, e, I2, T, st2, f2, W, ⟨m0, w0⟩, turn⟩ := h2
  subst e
  have stat : ∀ {H' : Hp}, (∀ b ∈ fp, H' b = none) → ∀ b ∈ fp, FpOk X pins H' b := fun hn b hb => ⟨hn b hb, (f2 b hb).2⟩
  refine codeAny_forLoop_any (fun n s' => ∃ i σ' H', Inv X pins σ' H' s' ∧ tn i s'.heap ∧ (∀ b ∈ fp, H' b = none) ∧ W i n σ' H') ?_ m0 ⟨0, σ, H2, I2, st2, fun b hb => (f2 b hb).1, w0⟩
  rintro n s3 ⟨i, σ3, H3, I3, st3, fr3, w3⟩
  rcases turn i n σ3 H3 w3 with ⟨stop, qn⟩ | ⟨go, N, hN, step⟩
  · refine wpAny_passesOwn hp (thn (T.done X rfl rfl rfl hc i pins s3 σ3 H3 X.xe I3 (stat fr3) st3 stop) fun r s4 ⟨hr, I4⟩ => ?_)
    subst hr
    exact wpAny_execs_nil ⟨σ3, H3, I4, qn⟩
  · refine wpAny_passesOwn hp (thn (T.item X rfl rfl rfl hc i pins s3 σ3 H3 X.xe I3 (stat fr3) st3 go) fun r s4 ⟨u, hr, h4⟩ => ?_)
    subst hr
    refine wpAny_passesOwn hp (thn h4 fun _ s5 ⟨x, H5, I5, r5, y5, st5, fr5⟩ => ?_)
    have I5' := I5.pinned (stat fr5) (T.obj _ _ st5)
    refine wpAny_passesOwn hp (thn (hg _ s5 σ3 H5 x u _ I5' r5 (step x H5 y5)) fun _ s6 ⟨σ6, H6, I6, q6⟩ => ?_)
    refine wpAny_passesOwn hp (thn (hb _ s6 σ6 H6 _ I6 q6) fun f s7 q7 => ?_)
    have again : ∀ {σ7 : St} {H7 : Hp}, Inv X (pins ++ pinsAt fp s5.heap) σ7 H7 s7 → N σ7 H7 → ∃ m, m < n ∧ ∃ i σ' H', Inv X pins σ' H' s7 ∧ tn i s7.heap ∧ (∀ b ∈ fp, H' b = none) ∧ W i m σ' H' := fun {σ7 H7} I7 n7 => by
      obtain ⟨m', hm, w7⟩ := hN σ7 H7 n7
      refine ⟨m', hm, i + 1, σ7, H7, I7.unpinned, T.keep _ _ _ st5 fun b hb o e => (I7.pin (b, o) (List.mem_append_right _ (List.mem_append_right _ (mem_pinsAt hb e)))).1, fun b hb => ?_, w7⟩
      obtain ⟨o, e, d⟩ := T.obj _ _ st5 b hb
      exact (I7.pin (b, o) (List.mem_append_right _ (List.mem_append_right _ (mem_pinsAt hb e)))).2.1
    cases f with
    | next => obtain ⟨σ7, H7, I7, n7⟩ := q7; exact again I7 n7
    | cont => obtain ⟨σ7, H7, I7, n7⟩ := q7; exact again I7 n7
    | brk => obtain ⟨σ7, H7, I7, q7⟩ := q7; exact ⟨σ7, H7, I7.unpinned, q7⟩
    | ret v => obtain ⟨x7, σ7, H7, I7, r7, q7⟩ := q7; exact ⟨x7, σ7, H7, I7.unpinned, r7, q7⟩
end
end L2
namespace L2
open PySem PySem.Spec PyProof.Rows
abbrev R2 := V → V → Hp → VK → Prop
def OpR (X : Cx) (f : Value → Value → Sem Value) (r : R2) : Prop :=
  ∀ (pins : List (Addr × Obj)) (s : Shared) (σ : St) (H : Hp) (x y : V) (v u : Value) (Q : VK), Inv X pins σ H s → RelV x v → RelV y u → r x y H Q →
    wpAny (model X.prog X.w) X.A (f v u) (EP X pins σ Q) X.xe s
def UnR (X : Cx) (f : Value → Sem Value) (r : V → Hp → VK → Prop) : Prop :=
  ∀ (pins : List (Addr × Obj)) (s : Shared) (σ : St) (H : Hp) (x : V) (v : Value) (Q : VK), Inv X pins σ H s → RelV x v → r x H Q →
    wpAny (model X.prog X.w) X.A (f v) (EP X pins σ Q) X.xe s
def CallR (X : Cx) (f : Value) (r : List V → Hp → VK → Prop) : Prop :=
  ∀ (pins : List (Addr × Obj)) (s : Shared) (σ : St) (H : Hp) (xs : List V) (us : List Value) (Q : VK), Inv X pins σ H s → Vals xs us → r xs H Q →
    wpAny (model X.prog X.w) X.A (call f us) (EP X pins σ Q) X.xe s
def tOp (r : R2) (ta tb : TE) : TE := fun σ H Q => ta σ H fun x H1 => tb σ H1 fun y H2 => r x y H2 Q
def tUn (r : V → Hp → VK → Prop) (ta : TE) : TE := fun σ H Q => ta σ H fun x H1 => r x H1 Q
def rI (C : Int → Int → Prop) (g : Int → Int → V) : R2 := fun x y H Q => ∃ i j, x = .int i ∧ y = .int j ∧ C i j ∧ Q (g i j) H
def rI0 (g : Int → Int → V) : R2 := fun x y H Q => ∃ i j, x = .int i ∧ y = .int j ∧ Q (g i j) H
def rU (g : Int → V) : V → Hp → VK → Prop := fun x H Q => ∃ i, x = .int i ∧ Q (g i) H
section
variable {X : Cx} {a b c : Expr} {ta tb tc : TE} {pos : Pos}
theorem binT (ha : PE X a ta) (hb : PE X b tb) {pins : List (Addr × Obj)} {s : Shared} {σ : St} {H : Hp} {R : V → V → Hp → Prop} (I : Inv X pins σ H s)
    (h : ta σ H fun x H1 => tb σ H1 fun y H2 => R x y H2) {Q : Value → Shared → Prop} {f : Value → Value → Sem Value}
    (hf : ∀ v u s2 x y H2, Inv X pins σ H2 s2 → RelV x v → RelV y u → R x y H2 → wpAny (model X.prog X.w) X.A (f v u) Q X.xe s2) :
    wpAny (model X.prog X.w) X.A (eval a X.env) (fun v s₁ => wpAny (model X.prog X.w) X.A (eval b X.env) (fun u s₂ => wpAny (model X.prog X.w) X.A (f v u) Q X.xe s₂) X.xe s₁) X.xe s := by
  refine thn (ha pins s σ H _ I h) fun v s1 ⟨x, H1, I1, r1, q1⟩ => ?_
  refine thn (hb pins s1 σ H1 _ I1 q1) fun u s2 ⟨y, H2, I2, r2, q2⟩ => ?_
  exact hf v u s2 x y H2 I2 r1 r2 q2
theorem pe_op {op : Operator} {r : R2} (ho : OpR X (binaryOp op) r) (ha : PE X a ta) (hb : PE X b tb) : PE X (.BinOp a op b pos) (tOp r ta tb) := by
  intro pins s σ H Q I h
  exact wpAny_BinOp (binT ha hb I h fun v u s2 x y H2 I2 rx ry q => ho pins s2 σ H2 x y v u Q I2 rx ry q)
theorem pe_un {op : UnaryOp} {r : V → Hp → VK → Prop} (ho : UnR X (unaryOp op) r) (ha : PE X a ta) : PE X (.UnaryOp op a pos) (tUn r ta) := by
  intro pins s σ H Q I h
  exact UnaryOp_ (thn (ha pins s σ H _ I h) fun v s1 ⟨x, H1, I1, r1, q1⟩ => ho pins s1 σ H1 x v Q I1 r1 q1)
theorem opI {f : Value → Value → Sem Value} {C : Int → Int → Prop} {g : Int → Int → Int}
    (rule : ∀ (i j : Int) (t u : Tok) (s : Shared) (Q : Value → Shared → Prop) (E : Value → Shared → Prop), C i j → Q (.int (g i j) s.toks) { s with toks := s.toks + 1 } → wpAny (model X.prog X.w) X.A (f (.int i t) (.int j u)) Q E s) :
    OpR X f (rI C fun i j => .int (g i j)) := by
  intro pins s σ H x y v u Q I rx ry h
  obtain ⟨i, j, rfl, rfl, hc, q⟩ := h
  obtain ⟨t, rfl⟩ := rx
  obtain ⟨t', rfl⟩ := ry
  exact rule i j t t' s _ _ hc ⟨.int (g i j), H, I.tok _, ⟨_, rfl⟩, q⟩
theorem opI0 {f : Value → Value → Sem Value} {g : Int → Int → Int}
    (rule : ∀ (i j : Int) (t u : Tok) (s : Shared) (Q : Value → Shared → Prop) (E : Value → Shared → Prop), Q (.int (g i j) s.toks) { s with toks := s.toks + 1 } → wpAny (model X.prog X.w) X.A (f (.int i t) (.int j u)) Q E s) :
    OpR X f (rI0 fun i j => .int (g i j)) := by
  intro pins s σ H x y v u Q I rx ry h
  obtain ⟨i, j, rfl, rfl, q⟩ := h
  obtain ⟨t, rfl⟩ := rx
  obtain ⟨t', rfl⟩ := ry
  exact rule i j t t' s _ _ ⟨.int (g i j), H, I.tok _, ⟨_, rfl⟩, q⟩
theorem opB0 {f : Value → Value → Sem Value} {g : Int → Int → Bool}
    (rule : ∀ (i j : Int) (t u : Tok) (s : Shared) (Q : Value → Shared → Prop) (E : Value → Shared → Prop), Q (.bool (g i j)) s → wpAny (model X.prog X.w) X.A (f (.int i t) (.int j u)) Q E s) :
    OpR X f (rI0 fun i j => .bl (g i j)) := by
  intro pins s σ H x y v u Q I rx ry h
  obtain ⟨i, j, rfl, rfl, q⟩ := h
  obtain ⟨t, rfl⟩ := rx
  obtain ⟨t', rfl⟩ := ry
  exact rule i j t t' s _ _ ⟨.bl (g i j), H, I, rfl, q⟩
def CPow (i j : Int) : Prop := 0 ≤ j ∧ j ≤ 1000000 ∧ i.natAbs < 2 ^ 64
def CMul (i j : Int) : Prop := (-(2 ^ 64) < i ∧ i < 2 ^ 64) ∨ (-(2 ^ 64) < j ∧ j < 2 ^ 64)
theorem CMul.ok {i j : Int} (h : CMul i j) : IntMulOk i j := by
  rcases h with ⟨h1, h2⟩ | ⟨h1, h2⟩
  · exact .of_left (intBits_le_64 h1 h2)
  · exact .of_right (intBits_le_64 h1 h2)
theorem op_add : OpR X (binaryOp .Add) (rI0 fun i j => .int (i + j)) := opI0 fun _ _ _ _ _ _ _ q => add_int q
theorem op_sub : OpR X (binaryOp .Sub) (rI0 fun i j => .int (i - j)) := opI0 fun _ _ _ _ _ _ _ q => sub_int q
theorem op_modN : OpR X (binaryOp .Mod) (rI (fun _ j => j ≠ 0) fun i j => .int (i.fmod j)) := opI fun _ _ _ _ _ _ _ hc q => mod_int' hc q
theorem op_pow : OpR X (binaryOp .Pow) (rI CPow fun i j => .int (i ^ j.toNat)) := opI fun _ _ _ _ _ _ _ hc q => pow_int_small hc.1 hc.2.1 hc.2.2 q
theorem unI {f : Value → Sem Value} {g : Int → Int}
    (rule : ∀ (i : Int) (t : Tok) (s : Shared) (Q : Value → Shared → Prop) (E : Value → Shared → Prop), Q (.int (g i) s.toks) { s with toks := s.toks + 1 } → wpAny (model X.prog X.w) X.A (f (.int i t)) Q E s) :
    UnR X f (rU fun i => .int (g i)) := by
  intro pins s σ H x v Q I rx h
  obtain ⟨i, rfl, q⟩ := h
  obtain ⟨t, rfl⟩ := rx
  exact rule i t s _ _ ⟨.int (g i), H, I.tok _, ⟨_, rfl⟩, q⟩
theorem un_neg : UnR X (unaryOp .USub) (rU fun i => .int (-i)) := unI fun _ _ _ _ _ q => neg_int q
end
section
variable {X : Cx} {a b c : Expr} {ta tb tc : TE} {pos : Pos}
theorem fin_bl {pins : List (Addr × Obj)} {σ : St} {H : Hp} {s : Shared} {Q : VK} {k k' : Bool} (I : Inv X pins σ H s) (q : Q (.bl k) H) (e : k = k') : EP X pins σ Q (.bool k') s := by
  subst e
  exact ⟨.bl k, H, I, rfl, q⟩
theorem op_lt : OpR X (compareOp .Lt) (rI0 fun i j => .bl (decide (i < j))) := opB0 fun _ _ _ _ _ _ _ q => lt_int q
theorem op_ge : OpR X (compareOp .GtE) (rI0 fun i j => .bl (decide (j ≤ i))) := opB0 fun _ _ _ _ _ _ _ q => ge_int q
theorem OpR.or {f : Value → Value → Sem Value} {r r' : R2} (h : OpR X f r) (h' : OpR X f r') : OpR X f (fun x y H Q => r x y H Q ∨ r' x y H Q) := by
  intro pins s σ H x y v u Q I rx ry q
  rcases q with q | q
  · exact h pins s σ H x y v u Q I rx ry q
  · exact h' pins s σ H x y v u Q I rx ry q
theorem nomark (b : Expr) {op : CmpOp} (h : op ≠ .In := by decide) (h2 : op ≠ .NotIn := by decide) : behindInMarks op b = false := by
  have e1 : (op == CmpOp.In) = false := by cases op <;> first | rfl | exact absurd rfl h
  have e2 : (op == CmpOp.NotIn) = false := by cases op <;> first | rfl | exact absurd rfl h2
  cases b <;> simp [behindInMarks, e1, e2]
theorem pe_cmpR {op : CmpOp} {r : R2} (ho : OpR X (compareOp op) r) (ha : PE X a ta) (hb : PE X b tb) (hm : behindInMarks op b = false) : PE X (.Compare a [op] [b] pos) (tOp r ta tb) := by
  intro pins s σ H Q I h
  exact wpAny_Compare1 (binT ha hb I h fun v u s2 x y H2 I2 rx ry q => ho pins s2 σ H2 x y v u Q I2 rx ry q) hm
def tTest (t : TE) : TT := fun σ H Q => t σ H fun x H' => ∃ k, x = .bl k ∧ Q k H'
theorem pt_cmpR {op : CmpOp} {r : R2} (ho : OpR X (compareOp op) r) (ha : PE X a ta) (hb : PE X b tb) (hm : behindInMarks op b = false) : PT X (.Compare a [op] [b] pos) (tTest (tOp r ta tb)) := by
  intro pins s σ H Q I h
  refine wpAny_isTrue_Compare1 (thn (ha pins s σ H _ I h) fun v s1 ⟨x, H1, I1, r1, q1⟩ => thn (hb pins s1 σ H1 _ I1 q1) fun u s2 ⟨y, H2, I2, r2, q2⟩ =>
    thn (ho pins s2 σ H2 x y v u _ I2 r1 r2 q2) fun c s3 ⟨z, H3, I3, r3, k, e, q3⟩ => ?_) hm
  subst e
  cases r3
  exact wpAny_truthy_bool ⟨H3, I3, q3⟩
theorem line63 : (sizeLine : Nat) < 2 ^ 63 := by rw [sizeLine_eq]; decide
theorem op_add_str : OpR X (binaryOp .Add) (fun x y H Q => ∃ i j, x = .str i ∧ y = .str j ∧ i.length + j.length ≤ sizeLine ∧ Q (.str (i ++ j)) H) := by
  intro pins s σ H x y v u Q I rx ry h
  obtain ⟨i, j, rfl, rfl, hz, q⟩ := h
  obtain ⟨t, rfl⟩ := rx
  obtain ⟨t', rfl⟩ := ry
  exact add_str (fun t' tk => ⟨.str (i ++ j), H, I.tok _, ⟨_, rfl⟩, q⟩) hz
theorem vals1 {x : V} {us : List Value} (r : Vals [x] us) : ∃ u, us = [u] ∧ RelV x u := by
  cases r with
  | cons r1 r2 => cases r2; exact ⟨_, rfl, r1⟩
theorem vals2 {x y : V} {us : List Value} (r : Vals [x, y] us) : ∃ u w', us = [u, w'] ∧ RelV x u ∧ RelV y w' := by
  cases r with
  | cons r1 r2 =>
    cases r2 with
    | cons r3 r4 => cases r4; exact ⟨_, _, rfl, r1, r3⟩
theorem call_abs : CallR X (.builtin "abs") (fun xs H Q => ∃ i, xs = [.int i] ∧ Q (.int (if i < 0 then -i else i)) H) := by
  intro pins s σ H xs us Q I r h
  obtain ⟨i, rfl, q⟩ := h
  obtain ⟨u, rfl, t, rfl⟩ := vals1 r
  exact call_abs_int fun u tk => ⟨.int (if i < 0 then -i else i), H, I.tok _, ⟨_, rfl⟩, q⟩
end
end L2
namespace L2
open PySem PySem.Spec PyProof.Rows
section
variable {prog : Program} {w : World} {A : Around} {E : Value → Shared → Prop} {s : Shared} {K : PySem.W.Frag} {x dx C f : Addr} {mA : Str → Option Value} {name : Str} {v : Value}
end
section
variable {P : Program} {w : World} {H H' : Hp} {h h' : Heap} {a C dx : Addr} {fs fs' : List (Str × V)}
end
structure Cls (K : PySem.W.Frag) (C : Addr) : Prop where
  pg : PySem.W.plainGet K C Str.empty = true
  hd : PySem.W.hasDictIn K C = true
  po : PySem.W.plainOver K C = true
  sa : PySem.W.findIn K (.ref C) "__setattr__" = some (some (.builtin "object.__setattr__"))
theorem Cls.get {K : PySem.W.Frag} {C : Addr} (c : Cls K C) (f : Str) : PySem.W.plainGet K C f = true := c.pg
section
variable {X : Cx} {pins : List (Addr × Obj)} {σ : St} {H : Hp} {s : Shared} {a C dx : Addr} {fs : List (Str × V)} {f : Str} {v : V} {A : Around} {E : Value → Shared → Prop}
theorem Inv.made (I : Inv X pins σ H s) : Inv X pins σ (upd (upd H s.heap.objs.size (.own (s.heap.objs.size + 1))) (s.heap.objs.size + 1) (.ins C s.heap.objs.size []))
    { s with heap := (s.heap.push PySem.W.emptyDict).push (PySem.W.instObj C s.heap.objs.size) } := by
  have e1 : (s.heap.push PySem.W.emptyDict).get? s.heap.objs.size = some PySem.W.emptyDict := Heap.get?_push_size s.heap rfl
  have e2 : ((s.heap.push PySem.W.emptyDict).push (PySem.W.instObj C s.heap.objs.size)).get? (s.heap.objs.size + 1) = some (PySem.W.instObj C s.heap.objs.size) := by
    have := Heap.get?_push_size (s.heap.push PySem.W.emptyDict) (o := PySem.W.instObj C s.heap.objs.size) rfl
    rwa [Heap.size_push] at this
  have e3 : (s.heap.push PySem.W.emptyDict).Ns s.heap.objs.size (fun _ => none) := ⟨PySem.W.emptyDict, #[], _, e1, rfl, (fun e he => absurd he (by simp)), fun _ => rfl⟩
  have I1 := I.laid (a := s.heap.objs.size) (o := .own (s.heap.objs.size + 1)) (h' := s.heap.push PySem.W.emptyDict) (t' := s.toks) (fun b u q => Heap.get?_push_of_some _ q) (Nat.le_refl _) ⟨_, e1⟩
  refine I1.laid (a := s.heap.objs.size + 1) (o := .ins C s.heap.objs.size []) (t' := s.toks) (fun b u q => Heap.get?_push_of_some _ q) (Nat.le_of_eq (Heap.size_push _ _)) ?_
  have ne : s.heap.objs.size ≠ s.heap.objs.size + 1 := Nat.ne_of_lt (Nat.lt_succ_self _)
  refine ⟨by rw [upd_ne ne, upd_same], Nat.zero_le _, ne, e2, fun _ => none, (Heap.Ns1.of_empty e3).at fun o q => Heap.get?_push_of_some _ q, fun _ => True.intro, fun y hy => absurd rfl hy⟩
end
section
variable {X : Cx} {o e value : Expr} {f : Str} {pos pos' tpos : Pos} {ta tv : TE}
end
section
variable {X : Cx} {pins : List (Addr × Obj)} {σ : St} {H : Hp} {s : Shared} {A : Around} {E : Value → Shared → Prop} {Q : Value → Shared → Prop} {c : Value} {b : Bool}
end
end L2
namespace L2
open PySem PySem.Spec PyProof.Rows
structure Room (k : Nat) (A : Around) : Prop where
  hd : A.handled = none
  dp : A.depth + 3 * k + 5 < recursionLimit
  un : A.units + 16 * k + 200 < cLine
theorem Room.mono {j k : Nat} {A : Around} (r : Room k A) (h : j ≤ k) : Room j A := ⟨r.hd, by have := r.dp; omega, by have := r.un; omega⟩
theorem Room.deeper {k : Nat} {A : Around} (r : Room (k + 1) A) (env : Env) : Room k (A.deeper env) :=
  ⟨r.hd, by have := r.dp; show A.depth + 1 + 3 * k + 5 < _; omega, by have := r.un; show A.units + 3 + 16 * k + 200 < _; omega⟩
theorem Room.in1 {k : Nat} {A : Around} (r : Room (k + 1) A) : Room k A.in1 :=
  ⟨r.hd, by have := r.dp; show A.depth + 3 * k + 5 < _; omega, by have := r.un; show A.units + 1 + 16 * k + 200 < _; omega⟩
theorem Room.depth {k : Nat} {A : Around} (r : Room k A) : A.depth < recursionLimit := by have := r.dp; omega
theorem Room.units {k : Nat} {A : Around} (r : Room k A) : A.units + 64 < cLine := by have := r.un; omega
def tNil : TA := fun _ H Q => Q [] H
def tCons (ta : TE) (tr : TA) : TA := fun σ H Q => ta σ H fun x H1 => tr σ H1 fun xs H2 => Q (x :: xs) H2
section
variable {X : Cx} {e : Expr} {es : List Expr} {te : TE} {t : TA} {pos : Pos}
theorem pa_nil : PA X [] tNil := fun _ _ _ _ H Q I h => Calls.spliced_nil ⟨[], H, I, .nil, h⟩
theorem pa_cons (ha : PE X e te) (hr : PA X es t) (hs : starEach (e :: es) X.env = (false, eval e X.env) :: starEach es X.env := by rfl) : PA X (e :: es) (tCons te t) := by
  intro pos pins s σ H Q I h
  rw [hs]
  show wpAny _ _ (spliced ((false, eval e X.env) :: backTo pos (starEach es X.env))) _ _ s
  refine Calls.spliced_cons (thn (ha pins s σ H _ I h) fun u s1 ⟨x, H1, I1, r1, q1⟩ => ?_)
  exact thn (hr pos pins s1 σ H1 _ I1 q1) fun us s2 ⟨xs, H2, I2, r2, q2⟩ => ⟨x :: xs, H2, I2, .cons r1 r2, q2⟩
def tTup (t : TA) : TE := fun σ H Q => t σ H fun xs H1 => xs.length ≤ sizeLine ∧ ∀ p, H1 p = none → Q (.ref p) (upd H1 p (.tup xs))
def tLst (t : TA) : TE := fun σ H Q => t σ H fun xs H1 => xs.length ≤ sizeLine ∧ ∀ p, H1 p = none → Q (.ref p) (upd H1 p (.lst xs))
theorem pe_tup {x1} (h : PA X es t) : PE X (.Tuple es x1 pos) (tTup t) := by
  intro pins s σ H Q I hq
  refine wpAny_Tuple_spliced (thn (h pos pins s σ H _ I hq) fun us s1 ⟨xs, H1, I1, r, z, q⟩ => ⟨by rw [← r.length]; exact z, ?_⟩)
  have hf : H1 s1.heap.objs.size = none := I1.hok.fresh (Nat.le_refl _)
  refine ⟨.ref s1.heap.objs.size, upd H1 s1.heap.objs.size (.tup xs), I1.laid (t' := s1.toks) (fun b u e => Heap.get?_push_of_some _ e) (Nat.le_refl _) ?_, rfl, q _ hf⟩
  exact ⟨z, us, r, ⟨_, Heap.get?_push_size _ rfl, rfl, _, rfl⟩⟩
theorem pe_lst (h : PA X es t) : PE X (.List es pos) (tLst t) := by
  intro pins s σ H Q I hq
  refine wpAny_List_spliced (thn (h pos pins s σ H _ I hq) fun us s1 ⟨xs, H1, I1, r, z, q⟩ => ⟨by rw [← r.length]; exact z, ?_⟩)
  have hf : H1 s1.heap.objs.size = none := I1.hok.fresh (Nat.le_refl _)
  refine ⟨.ref s1.heap.objs.size, upd H1 s1.heap.objs.size (.lst xs), I1.laid (t' := s1.toks) (fun b u e => Heap.get?_push_of_some _ e) (Nat.le_refl _) ?_, rfl, q _ hf⟩
  exact ⟨z, us, 0, r, Heap.get?_push_size _ rfl⟩
end
abbrev Sp := List V → Hp → VK → XK → Prop
abbrev CXT := List Env → Hp → Shared → XK → Value → Shared → Prop
structure Env0 (P : Program) (w : World) (K : PySem.W.Frag) (mg : Str → Option Value) (base : Heap) (A : Around) (outer : List Env) (s : Shared) (H : Hp) : Prop where
  frames : A.frames = some outer
  mod : Mod K mg base
  bs : ∀ b o, base.get? b = some o → s.heap.get? b = some o ∧ H b = none
  bsz : base.objs.size ≤ s.heap.objs.size
  funs : s.heap.FunFrames base outer
  frf : ∀ b ∈ frs outer, H b = none
  hok : HOk P w H s.heap
  bare : AllBare s.gens
def CE (outer : List Env) (P : Program) (w : World) (H : Hp) (s : Shared) (Q : VK) (u : Value) (s' : Shared) : Prop :=
  ∃ v H', s'.os = s.os ∧ AllBare s'.gens ∧ Un (frs outer) [] H H' s.heap s'.heap ∧ HOk P w H' s'.heap ∧ RelV v u ∧ Q v H'
def CR (CX : CXT) (outer : List Env) (P : Program) (w : World) (H : Hp) (s : Shared) (Q : VK) (E : XK) (r : Result) (s' : Shared) : Prop :=
  match r with
  | .ok (.ret u) => CE outer P w H s Q u s'
  | .ok _ => False
  | .error e => CX outer H s E e s'
structure FnOk (P : Program) (w : World) (K : PySem.W.Frag) (mg : Str → Option Value) (base : Heap) (CX : CXT) (k : Nat) (f : Addr) (fd : FuncData) (ps : List Str) (sp : Sp) : Prop where
  len : ∀ vs H Q E, sp vs H Q E → vs.length = ps.length
  run : ∀ (A : Around) (outer : List Env) (s : Shared) (H : Hp) (args : Args) (us : List Value) (vs : List V) (Q : VK) (E : XK), Room k A → Env0 P w K mg base A outer s H → BindsTo s fd args (ps.zip us) → Vals vs us → sp vs H Q E →
    codeAny (model P w) A (.call (.ref f) args) (CR CX outer P w H s Q E) s
theorem FnOk.mono {P : Program} {w : World} {K : PySem.W.Frag} {mg : Str → Option Value} {base : Heap} {CX : CXT} {j k : Nat} {f : Addr} {fd : FuncData} {ps : List Str} {sp : Sp} (F : FnOk P w K mg base CX j f fd ps sp) (h : j ≤ k) :
    FnOk P w K mg base CX k f fd ps sp := ⟨F.len, fun A outer s H args us vs Q E hr => F.run A outer s H args us vs Q E (hr.mono h)⟩
theorem Env0.in1 {P : Program} {w : World} {K : PySem.W.Frag} {mg : Str → Option Value} {base : Heap} {A : Around} {outer : List Env} {s : Shared} {H : Hp} (e : Env0 P w K mg base A outer s H) :
    Env0 P w K mg base A.in1 outer s H := ⟨e.frames, e.mod, e.bs, e.bsz, e.funs, e.frf, e.hok, e.bare⟩
section
variable {X : Cx} {pins : List (Addr × Obj)} {σ : St} {H : Hp} {s s' : Shared}
theorem Inv.env0 (I : Inv X pins σ H s) : Env0 X.prog X.w X.K X.mg X.base X.A X.stack s H :=
  ⟨I.ok.frames, I.ok.mod, I.bs, Nat.le_trans I.ok.bsz I.sz, I.stack, I.stkFree, I.hok, I.bare⟩
theorem Inv.after {Q : VK} {u : Value} (I : Inv X pins σ H s) (h : CE X.stack X.prog X.w H s Q u s') : EP X pins σ Q u s' := by
  obtain ⟨v, H', os, bare, un, hok, r, q⟩ := h
  obtain ⟨hh, g, d, t, os'⟩ := s'
  obtain rfl : os' = s.os := os
  exact ⟨v, H', I.call (h' := hh) (g' := g) (d' := d) (t' := t) (ch := []) un hok bare (fun b z => absurd z (by simp)), r, q⟩
end
def tCall (sp : Sp) (dvs : List V) (E : XK) (t : TA) : TE := fun σ H Q => t σ H fun vs H1 => sp (vs ++ dvs) H1 Q E
def Binds (K : PySem.W.Frag) (fd : FuncData) (ps : List Str) (ds : List Value) : Prop :=
  ∀ (s : Shared) (us : List Value), K.In s.heap → (us ++ ds).length = ps.length → BindsTo s fd ⟨us, []⟩ (ps.zip (us ++ ds))
theorem Binds.all {K : PySem.W.Frag} {fd : FuncData} {ps : List Str} (h : ∀ us : List Value, us.length = ps.length → bindArgs fd ⟨us, []⟩ = pure (ps.zip us)) : Binds K fd ps [] := fun s us _ hl => by
  rw [List.append_nil] at hl ⊢
  exact .of_eq (h us hl)
def Passes (CX : CXT) (X : Cx) (E : XK) : Prop := ∀ (pins : List (Addr × Obj)) (σ : St) (H : Hp) (s : Shared) (e : Value) (s' : Shared), Inv X pins σ H s → CX X.stack H s E e s' → X.xe e s'
section
variable {X : Cx} {CX : CXT} {k : Nat} {f C : Addr} {fd : FuncData} {ps : List Str} {sp : Sp} {dvs : List V} {ds : List Value} {E : XK} {x m : Str} {p pos apos : Pos} {e o : Expr} {es : List Expr} {ta : TE} {t : TA}
theorem run_fn {pins : List (Addr × Obj)} {σ : St} {H : Hp} {s : Shared} {Q : VK} {us : List Value} {vs : List V} (F : FnOk X.prog X.w X.K X.mg X.base CX k f fd ps sp) (hr : Room k X.A) (hb : Binds X.K fd ps ds) (hd : Vals dvs ds) (hx : Passes CX X E)
    (I : Inv X pins σ H s) (r : Vals vs us) (h : sp (vs ++ dvs) H Q E) : wpAny (model X.prog X.w) X.A (call (.ref f) us) (EP X pins σ Q) X.xe s := by
  have r2 : Vals (vs ++ dvs) (us ++ ds) := r.append hd
  have hl : (us ++ ds).length = ps.length := by rw [← r2.length]; exact F.len _ _ _ _ h
  refine wpAny_call (codeAny_mono (F.run X.A X.stack s H ⟨us, []⟩ (us ++ ds) (vs ++ dvs) Q E hr I.env0 (hb s us I.kIn hl) r2 h) fun r s' hq => ?_)
  cases r with
  | error e => exact hx pins σ H s e s' I hq
  | ok fl =>
    cases fl with
    | ret u => exact I.after hq
    | next => exact False.elim hq
    | brk => exact False.elim hq
    | cont => exact False.elim hq
theorem pe_call (F : FnOk X.prog X.w X.K X.mg X.base CX k f fd ps sp) (hr : Room k X.A) (hg : Gl X x) (hm : X.mg x = some (.ref f)) (hk : PySem.W.keepIn X.K (.ref f) = true) (hb : Binds X.K fd ps ds) (hd : Vals dvs ds) (hx : Passes CX X E)
    (ha : PA X (e :: es) t) (hdb : (x == ("__debug__" : Str)) = false := by decide) (he : starEach (e :: es) X.env = (false, eval e X.env) :: starEach es X.env := by rfl) (hpl : (backTo pos (starEach es X.env)).any (·.1) = false := by rfl) :
    PE X (.Call (.Name x p) (e :: es) [] pos) (tCall sp dvs E t) := by
  intro pins s σ H Q I h
  refine wpAny_Call_Name_kw (ld_glob I hg hm ?_ hdb)
  refine PySem.W.callWith_K (h₀ := X.base) I.ok.mod.kin hk (thn (ha pos pins s σ H _ I h) fun us s1 ⟨vs, H1, I1, r, q⟩ => ⟨I1.kIn, ?_⟩) he hpl
  exact run_fn F hr hb hd hx I1 r q
end
section
variable {X : Cx} {CX : CXT} {k : Nat} {f C : Addr} {fd : FuncData} {ps ks : List Str} {sp : Sp} {E : XK} {x m : Str} {p pos apos kpos : Pos} {e o : Expr} {es : List Expr} {kws : List Keyword} {te ta : TE} {t tk : TA} {nm : Option Str}
variable {g : List Value → List Value → List Value} {gV : List V → List V → List V}
end
structure FnScope (N P : List Str) (sc : Scope) : Prop where
  kind : sc.kind = .function
  co : sc.isCoroutine = false
  gen : sc.isGenerator = false
  nd : N.Nodup
  pre : N.take P.length = P
  par : ∀ x ∈ P, sc.names.lookup x = some .local ∨ sc.names.lookup x = some .cell
  nofree : ∀ y ∈ sc.names, y.2 ≠ .free
theorem bindL_out {kindOf : Str → Option NameKind} {x : Str} : ∀ {binds : List (Str × Value)} {m : Str → Option Value}, (∀ v, (x, v) ∉ binds) → bindL kindOf binds m x = m x
  | [], _, _ => rfl
  | (n, v) :: r, m, h => by
    unfold bindL
    rw [bindL_out fun w hw => h w (List.mem_cons_of_mem _ hw)]
    split
    · have : x ≠ n := by rintro rfl; exact h v List.mem_cons_self
      simp [this]
    · rfl
theorem bindC_out {kindOf : Str → Option NameKind} {x : Str} : ∀ {binds : List (Str × Value)} {m : Str → Option Value}, (∀ v, (x, v) ∉ binds) → bindC kindOf binds m x = m x
  | [], _, _ => rfl
  | (n, v) :: r, m, h => by
    unfold bindC
    rw [bindC_out fun w hw => h w (List.mem_cons_of_mem _ hw)]
    split
    · rfl
    · have : x ≠ n := by rintro rfl; exact h v List.mem_cons_self
      simp [this]
theorem bindL_get {kindOf : Str → Option NameKind} {x : Str} {v : Value} : ∀ {P : List Str} {vs : List Value} {i : Nat} {m : Str → Option Value}, P.Nodup → P[i]? = some x → vs[i]? = some v → kindOf x = some .local →
    bindL kindOf (P.zip vs) m x = some v
  | [], _, _, _, _, h, _, _ => by simp at h
  | _ :: _, [], _, _, _, _, h, _ => by simp at h
  | p :: P, w :: vs, 0, m, nd, h1, h2, hk => by
    simp at h1 h2; subst h1; subst h2
    show bindL kindOf ((p, w) :: P.zip vs) m p = _
    unfold bindL
    rw [bindL_out fun v hv => (List.nodup_cons.mp nd).1 (List.of_mem_zip hv).1, if_pos hk]
    simp
  | p :: P, w :: vs, i + 1, m, nd, h1, h2, hk => by
    show bindL kindOf ((p, w) :: P.zip vs) m x = _
    unfold bindL
    exact bindL_get (i := i) (List.nodup_cons.mp nd).2 (by simpa using h1) (by simpa using h2) hk
theorem bindC_get {kindOf : Str → Option NameKind} {x : Str} {v : Value} : ∀ {P : List Str} {vs : List Value} {i : Nat} {m : Str → Option Value}, P.Nodup → P[i]? = some x → vs[i]? = some v → kindOf x ≠ some .local →
    bindC kindOf (P.zip vs) m x = some v
  | [], _, _, _, _, h, _, _ => by simp at h
  | _ :: _, [], _, _, _, _, h, _ => by simp at h
  | p :: P, w :: vs, 0, m, nd, h1, h2, hk => by
    simp at h1 h2; subst h1; subst h2
    show bindC kindOf ((p, w) :: P.zip vs) m p = _
    unfold bindC
    rw [bindC_out fun v hv => (List.nodup_cons.mp nd).1 (List.of_mem_zip hv).1, if_neg hk]
    simp
  | p :: P, w :: vs, i + 1, m, nd, h1, h2, hk => by
    show bindC kindOf ((p, w) :: P.zip vs) m x = _
    unfold bindC
    exact bindC_get (i := i) (List.nodup_cons.mp nd).2 (by simpa using h1) (by simpa using h2) hk
def start (N : List Str) (vs : List V) : St := vs.map some ++ List.replicate (N.length - vs.length) none
def cxOf (CX : CXT) (P : Program) (w : World) (K : PySem.W.Frag) (mg : Str → Option Value) (base : Heap) (N : List Str) (qual : Str) (scope : Scope) (f : Addr) (cd : Value) (A : Around) (outer : List Env) (s : Shared) (H : Hp) (E : XK) : Cx where
  prog := P
  w := w
  K := K
  mg := mg
  base := base
  A := A.deeper (envOfC qual scope s.heap.objs.size f cd)
  N := N
  s₀ := s
  H₀ := H
  env := envOfC qual scope s.heap.objs.size f cd
  outer := outer
  stack := envOfC qual scope s.heap.objs.size f cd :: outer
  ex := []
  calm := true
  fn := fun _ => true
  pn := []
  xe := fun e s' => wpAny (model P w) (A.deeper (envOfC qual scope s.heap.objs.size f cd)) (leaving (envOfC qual scope s.heap.objs.size f cd) e) (fun _ s'' => CX outer H s E e s'') (fun e' s'' => CX outer H s E e' s'') s'
theorem cell_has {sc : Scope} {n : Nat} {x : Str} (h : sc.names.lookup x = some .cell) : ∃ c, (cellsFrom n sc.names []).lookup x = some c := by
  have q := PySem.W.cellsFrom_some sc.names n [] (.inl h)
  exact Option.isSome_iff_exists.mp q
theorem inv_start {CX : CXT} {P : Program} {w : World} {K : PySem.W.Frag} {mg : Str → Option Value} {base : Heap} {N ps : List Str} {qual : Str} {scope : Scope} {f : Addr} {cd : Value} {A : Around} {outer : List Env} {s s1 : Shared} {H : Hp} {E : XK} {us : List Value} {vs : List V}
    (S : FnScope N ps scope) (hd : A.handled = none) (e0 : Env0 P w K mg base A outer s H) (hl : vs.length = ps.length) (r : Vals vs us)
    (x : InCallC s s.heap.objs.size (bindL (envOfC qual scope s.heap.objs.size f cd).kindOf (ps.zip us) fun _ => none) (cellsFrom (s.heap.objs.size + 1) scope.names []) (bindC (envOfC qual scope s.heap.objs.size f cd).kindOf (ps.zip us) fun _ => none) s1) :
    Inv (cxOf CX P w K mg base N qual scope f cd A outer s H E) [] (start N vs) H s1 := by
  have hpl : ps.length ≤ N.length := by have := congrArg List.length S.pre; rw [List.length_take] at this; omega
  obtain ⟨h1, tk, rfl, hk⟩ := x.done
  have noA : ∀ b : Addr, b ∉ (cxOf CX P w K mg base N qual scope f cd A outer s H E).ex := fun b z => absurd (show b ∈ ([] : List Addr) from z) (by simp)
  refine ⟨⟨e0.mod, S.kind, rfl, rfl, Nat.le_refl _, fun y z c h1 h2 => ?_, fun y hy => ?_, fun y c _ h => ?_, fun _ => hd, Around.frames_deeper e0.frames, .inr ⟨rfl, rfl⟩, fun b z => absurd z (noA b), e0.bs, e0.bsz, fun b _ _ => noA b, fun b z => absurd z (noA b), e0.funs, e0.frf⟩,
    rfl, e0.bare, Un.kept hk, ⟨_, x.toInCall.ns, fun i y v h1 h2 h3 => ?_⟩, fun y c h => ⟨_, x.cell y c h⟩, e0.hok.fresh (Nat.le_refl _), fun y c h => ?_, fun p hp => absurd (show p ∈ ([] : List (Addr × Obj)) from hp) (by simp), e0.hok.kept hk, ?_⟩
  · exact name_of_addr x.apart (PySem.mem_of_lookup h1) (PySem.mem_of_lookup h2)
  · have hy : scope.names.lookup y = some .cell ∨ scope.names.lookup y = some .free := hy
    rcases hy with hy | hy
    · exact cell_has hy
    · exact absurd rfl (S.nofree _ (PySem.mem_of_lookup hy))
  · exact Nat.le_of_lt (x.above y c (PySem.mem_of_lookup h))
  · have hi : i < vs.length := by
      unfold start at h2
      by_cases hi : i < vs.length
      · exact hi
      · rw [List.getElem?_append_right (by simpa using hi)] at h2
        rw [List.getElem?_replicate] at h2
        split at h2 <;> cases h2
    have ha : vs[i]? = some v := by
      unfold start at h2
      rw [List.getElem?_append_left (by simpa using hi), List.getElem?_map] at h2
      cases e : vs[i]? with
      | none => rw [e] at h2; cases h2
      | some a => rw [e] at h2; cases h2; rfl
    obtain ⟨u, hu, rv⟩ := r.get ha
    have hp : ps[i]? = some y := by
      rw [← S.pre, List.getElem?_take_of_lt (by omega)]; exact h1
    have ndP : ps.Nodup := by rw [← S.pre]; exact S.nd.sublist (List.take_sublist _ _)
    refine ⟨u, rv, ?_⟩
    rcases S.par y (List.mem_of_getElem? hp) with k | k
    · exact .inl ⟨k, bindL_get ndP hp hu k⟩
    · obtain ⟨c, e⟩ := cell_has (n := s.heap.objs.size + 1) k
      refine .inr ⟨.inl k, c, e, ?_⟩
      have q := x.cell y c e
      rw [bindC_get ndP hp hu (by show scope.names.lookup y ≠ _; rw [k]; decide)] at q
      exact q
  · exact e0.hok.fresh (Nat.le_of_lt (x.above y c (PySem.mem_of_lookup h)))
  · unfold start
    show _ = N.length
    rw [List.length_append, List.length_map, List.length_replicate]
    omega
theorem fn_of {CX : CXT} {P : Program} {w : World} {K : PySem.W.Frag} {mg : Str → Option Value} {base : Heap} {k : Nat} {f : Addr} {name qual : Str} {params : Arguments} {body : List Stmt} {scope : Scope} {dV kV doc pm cdv ct oc : Value} {an od : Option Addr}
    {osl : Array (Option Value)} {N ps : List Str} {sp : Sp} (lk : K.lookup f = some ⟨oc, od, .func (PySem.W.fnOf name qual params body scope dV kV doc pm an cdv ct), osl⟩) (hcd : PySem.W.codeIn K cdv qual = true) (S : FnScope N ps scope)
    (len : ∀ vs H Q E, sp vs H Q E → vs.length = ps.length)
    (hbody : ∀ (A : Around) (outer : List Env) (s : Shared) (H : Hp) (vs : List V) (Q : VK) (E : XK), Room k (A.deeper (envOfC qual scope s.heap.objs.size f cdv)) → sp vs H Q E →
      ∃ t, PSs (cxOf CX P w K mg base N qual scope f cdv A outer s H E) body t ∧ t { nx := fun _ H' => Q .non H', rt := Q } (start N vs) H) :
    FnOk P w K mg base CX (k + 1) f (PySem.W.fnOf name qual params body scope dV kV doc pm an cdv ct) ps sp := by
  refine ⟨len, fun A outer s H args us vs Q E hr e0 hb r hsp => ?_⟩
  have hl := len _ _ _ _ hsp
  have KX : K.In s.heap := e0.mod.kin.keeps fun b o e => (e0.bs b o e).1
  have lim : s.heap.NoLimit := e0.mod.nolimit.keeps fun b o e => (e0.bs b o e).1
  have hkind : ∀ y ∈ ps.zip us, scope.names.lookup y.1 = some .local ∨ (scope.names.lookup y.1 = some .cell ∧ ((cellsFrom (s.heap.objs.size + 1) scope.names []).lookup y.1).isSome = true) := fun ⟨n, v⟩ hy => by
    rcases S.par n (List.of_mem_zip hy).1 with q | q
    · exact .inl q
    · exact .inr ⟨q, PySem.W.cellsFrom_some _ _ _ (.inl q)⟩
  refine codeAny_call_function hr.depth (KX _ _ lk) rfl S.co S.gen rfl (PySem.W.codeRec_of KX hcd) (hb _ _ _ _ ?_)
  refine wpAny_newFunctionEnv_cells S.kind hkind fun env he s1 x => ?_
  subst he
  refine ⟨lim.keeps x.toInCall.keep, codeAny_func ?_⟩
  obtain ⟨t, ht, hq⟩ := hbody A outer s H vs Q E (hr.deeper _) hsp
  have I : Inv (cxOf CX P w K mg base N qual scope f cdv A outer s H E) [] (start N vs) H s1 := inv_start S hr.hd e0 hl r x
  refine wpAny_mono (ht [] s1 (start N vs) H _ I hq) (fun fl s' hs => ?_) fun e s' hs => hs
  have fin : ∀ {σ' : St} {H' : Hp} {v : V} {u : Value}, Inv (cxOf CX P w K mg base N qual scope f cdv A outer s H E) [] σ' H' s' → RelV v u → Q v H' → CE outer P w H s Q u s' :=
    fun {σ' H' v u} J rv q => ⟨v, H', J.os, J.bare, J.base, J.hok, rv, q⟩
  cases fl with
  | ret u =>
    obtain ⟨v, σ', H', J, rv, q⟩ := hs
    exact fin J rv q
  | next =>
    obtain ⟨σ', H', J, q⟩ := hs
    exact fin (v := V.non) (u := Value.none) J rfl q
  | brk =>
    obtain ⟨_, _, _, q⟩ := hs
    exact False.elim q
  | cont =>
    obtain ⟨_, _, _, q⟩ := hs
    exact False.elim q
end L2
namespace L2
open PySem PySem.Spec PyProof.Rows
section
variable {X : Cx} {x : Str} {p pos : Pos} {e : Expr} {es : List Expr} {t : TA} {id T : String} {r : List V → Hp → VK → Prop}
def tCB (r : List V → Hp → VK → Prop) (t : TA) : TE := fun σ H Q => t σ H fun vs H1 => r vs H1 Q
theorem pe_callB (hc : CallR X (.builtin id) r) (hg : Gl X x) (hm : X.mg x = none) (hv : bootBuiltins x = some (.builtin id)) (ha : PA X (e :: es) t) (hn : x ≠ "__name__" := by decide) (hdb : (x == ("__debug__" : Str)) = false := by decide)
    (he : starEach (e :: es) X.env = (false, eval e X.env) :: starEach es X.env := by rfl) (hpl : (backTo pos (starEach es X.env)).any (·.1) = false := by rfl) : PE X (.Call (.Name x p) (e :: es) [] pos) (tCB r t) := by
  intro pins s σ H Q I h
  refine wpAny_Call_Name_kw (ld_blt I hg hm hv ?_ hn hdb)
  exact PyProof.Rows.callWith_builtin1 (thn (ha pos pins s σ H _ I h) fun us s1 ⟨vs, H1, I1, r1, q1⟩ => hc pins s1 σ H1 vs us Q I1 r1 q1) he hpl
end
end L2
namespace HT
open PySem PyProof.Rows
section
open PySem.SeqAt
open PySem.AutoSeq1 (wpAny_loadPart')
open PySem.MeetsSeq PySem.MeetsSeq2 PySem.MeetsSeq3
end
section
variable {prog : Program} {w : World} {A : Around} {E : Value → Shared → Prop} {s : Shared}
theorem cat_tup {t b : Addr} {vs ws : List Value} {Q : Value → Shared → Prop} (ht : IsTup s.heap t vs.toArray) (hb : IsTup s.heap b ws.toArray) (hv : vs ≠ [])
    (h1 : ws = [] → Q (.ref t) s) (h2 : ws ≠ [] → Q (.ref s.heap.objs.size) { s with heap := s.heap.push { cls := .type "tuple", data := .seq (vs ++ ws).toArray } })
    (hsz : vs.length + ws.length ≤ sizeLine) : wpAny (model prog w) A (binaryOp .Add (.ref t) (.ref b)) Q E s := by
  obtain ⟨⟨cls, dd, data, sl⟩, ho, hc, n, hd⟩ := id ht
  obtain ⟨⟨cls2, dd2, data2, sl2⟩, ho2, hc2, n2, hd2⟩ := id hb
  simp only at hc hd hc2 hd2
  subst hc hd hc2 hd2
  have e : vs.toArray ++ ws.toArray = (vs ++ ws).toArray := by simp
  by_cases hw : ws = []
  · exact concat_meets ⟨_, ho, rfl⟩ ⟨_, ho2, rfl⟩ noFill_tuple_add seq_tuple_add PySem.F.slot_tuple_add PySem.F.entry_tuple_add (PySem.F.args_tuple_add_2 _ _)
      (tuple_addW1 t b vs.toArray ws.toArray n n2 dd dd2 sl sl2 (by simpa using hv) (by simp [hw])) ⟨ho, ho2, h1 hw⟩
  · refine concat_meets ⟨_, ho, rfl⟩ ⟨_, ho2, rfl⟩ noFill_tuple_add seq_tuple_add PySem.F.slot_tuple_add PySem.F.entry_tuple_add (PySem.F.args_tuple_add_2 _ _)
      (tuple_addW2 t b vs.toArray ws.toArray n n2 dd dd2 sl sl2 (by simpa using hv) (by simpa using hw) (by rw [List.size_toArray, List.size_toArray]; exact hsz)) ⟨ho, ho2, ?_⟩
    rw [e]
    exact h2 hw
def sIx (n d : Nat) : Option Int → Nat
  | none => d
  | some v => if v < 0 then (v + (n : Int)).toNat else min v.toNat n
theorem sIx_le (n d : Nat) (hd : d ≤ n) (o : Option Int) : sIx n d o ≤ n := by
  cases o with
  | none => exact hd
  | some v =>
    show (if v < 0 then (v + (n : Int)).toNat else min v.toNat n) ≤ n
    by_cases hv : v < 0
    · rw [if_pos hv]; omega
    · rw [if_neg hv]; exact Nat.min_le_right _ _
theorem clip_eq (v : Int) (n d : Nat) : (if v < 0 then max (v + (n : Int)) 0 else min v (n : Int)) = ((sIx n d (some v) : Nat) : Int) := by
  show (if v < 0 then max (v + (n : Int)) 0 else min v (n : Int)) = (((if v < 0 then (v + (n : Int)).toNat else min v.toNat n) : Nat) : Int)
  by_cases hv : v < 0
  · simp only [if_pos hv]; omega
  · simp only [if_neg hv]; omega
theorem adjust_gen (lo hi : Option Int) (n : Nat) : Builtin.Slice.sliceAdjust lo hi 1 (n : Int) = (((sIx n 0 lo : Nat) : Int), ((sIx n n hi : Nat) : Int)) := by
  have h1 : ¬ ((1 : Int) < 0) := by omega
  unfold Builtin.Slice.sliceAdjust
  simp only [h1, if_false]
  refine Prod.ext ?_ ?_
  · cases lo with
    | none => rfl
    | some v => exact clip_eq v n 0
  · cases hi with
    | none => rfl
    | some v => exact clip_eq v n n
theorem places_gen (i j : Nat) : Builtin.Slice.slicePlaces (i : Int) (j : Int) 1 = j - i := by
  unfold Builtin.Slice.slicePlaces
  have h1 : (1 : Int) > 0 := by omega
  simp only [h1, if_true, Int.ediv_one]
  split <;> omega
theorem slicePart_ {v : Value} {o : Option Int} {Q : Option Int → Shared → Prop} (p : IsPart v o) (h : Q o s) : wpAny (model prog w) A (Builtin.Slice.slicePartIndex v) Q E s := by
  cases p with
  | none => exact slicePart_none h
  | int i t => exact slicePart_int h
theorem sliceApplied_gen {sl : Addr} {vl vu : Value} {lo hi : Option Int} {n : Nat} {Q : Int × Int × Nat → Shared → Prop} (hs : s.heap.IsSliceOf sl vl vu .none) (pl : IsPart vl lo) (pu : IsPart vu hi)
    (h : Q (((sIx n 0 lo : Nat) : Int), 1, sIx n n hi - sIx n 0 lo) s) : wpAny (model prog w) A (Builtin.Slice.sliceApplied (.ref sl) (pure (n : Int))) Q E s := by
  obtain ⟨os, hos, hcs, hds⟩ := id hs
  unfold Builtin.Slice.sliceApplied Builtin.Slice.sliceFields
  refine wpAny_bind (wpAny_bind (wpAny_field hos hds (x := vl) rfl (wpAny_bind (wpAny_field hos hds (x := vu) rfl (wpAny_bind (wpAny_field hos hds (x := .none) rfl (wpAny_pure ?_)))))))
  refine wpAny_bind (slicePart_none ?_)
  show wpAny _ _ (if ((1 : Int) == 0) = true then _ else _) _ _ s
  rw [if_neg (by decide)]
  refine wpAny_bind (slicePart_ pl (wpAny_bind (slicePart_ pu (wpAny_bind (wpAny_pure ?_)))))
  show wpAny _ _ (match Builtin.Slice.sliceAdjust lo hi 1 (n : Int) with | (lo, hi) => pure (lo, (1 : Int), Builtin.Slice.slicePlaces lo hi 1)) _ _ s
  rw [adjust_gen lo hi n]
  show wpAny _ _ (pure (((sIx n 0 lo : Nat) : Int), (1 : Int), Builtin.Slice.slicePlaces ((sIx n 0 lo : Nat) : Int) ((sIx n n hi : Nat) : Int) 1)) _ _ s
  rw [places_gen]
  exact wpAny_pure h
theorem pick_gen (xs : Array Value) (i k : Nat) : ((List.range k).filterMap fun (m : Nat) => xs[((i : Int) + (m : Int) * 1).toNat]?).toArray = ((xs.toList.drop i).take k).toArray := by
  have e : (fun (m : Nat) => xs[((i : Int) + (m : Int) * 1).toNat]?) = fun m => xs[i + m]? := by
    funext m
    have : ((i : Int) + (m : Int) * 1).toNat = i + m := by omega
    rw [this]
  rw [e]
  have := pick_run xs i k
  rw [List.filterMap_map] at this
  have e2 : ((fun x => xs[x]?) ∘ fun x => i + x) = fun m => xs[i + m]? := rfl
  rw [e2] at this
  rw [this]
theorem getItem_tuple_cut {t sl : Addr} {items : Array Value} {vl vu : Value} {lo hi : Option Int} {Q : Value → Shared → Prop} (ht : IsTup s.heap t items) (hs : s.heap.IsSliceOf sl vl vu .none) (pl : IsPart vl lo) (pu : IsPart vu hi)
    (hw : ¬ (sIx items.size 0 lo = 0 ∧ sIx items.size items.size hi = items.size))
    (h : Q (.ref s.heap.objs.size) { s with heap := s.heap.push { cls := .type "tuple", data := .seq ((items.toList.drop (sIx items.size 0 lo)).take (sIx items.size items.size hi - sIx items.size 0 lo)).toArray } })
    (hsz : items.size ≤ sizeLine) : wpAny (model prog w) A (getItem (.ref t) (.ref sl)) Q E s := by
  have htake : sizeOk (.seq ((items.toList.drop (sIx items.size 0 lo)).take (sIx items.size items.size hi - sIx items.size 0 lo)).toArray) := by
    show ((items.toList.drop (sIx items.size 0 lo)).take (sIx items.size items.size hi - sIx items.size 0 lo)).toArray.size ≤ sizeLine
    rw [List.size_toArray, List.length_take, List.length_drop, Array.length_toList]
    omega
  have hj : sIx items.size items.size hi ≤ items.size := sIx_le _ _ (Nat.le_refl _) hi
  obtain ⟨os, hos, hcs, hds⟩ := id hs
  have hTs : s.TypeIs (.ref sl) "slice" := ⟨os, hos, hcs⟩
  unfold getItem
  try with_reducible refine wpAny_holding ?_
  first | refine wpAny_bind (wpAny_pure ?_) | skip
  refine wpAny_bind (wpAny_sequenceKey ht.typeIs (by decide) ?_)
  refine wpAny_bind (wpAny_callSpecial?_slot (name := Str.ofString "__getitem__") ht.typeIs PyProof.Rows.slot_tuple_getitem
    (wpAny_call_entry PyProof.Rows.slot_tuple_getitem ht.typeIs entry_tuple_getitem ?_ (args_tuple_getitem _ _)))
  show wpAny _ _ (Builtin.Tuple.tupleItemsOf (.ref t) >>= _) _ _ s
  refine wpAny_bind (tupleItemsOf_ ht ?_)
  refine wpAny_bind (wpAny_typeOf hTs ?_)
  rw [if_pos (by decide)]
  refine wpAny_bind (sliceApplied_gen hs pl pu ?_)
  have hno : ¬ ((((sIx items.size 0 lo : Nat) : Int) == 0 && (1 : Int) == 1 && (sIx items.size items.size hi - sIx items.size 0 lo) == items.size) = true) := by
    intro q
    rw [Bool.and_eq_true, Bool.and_eq_true] at q
    have q1 : ((sIx items.size 0 lo : Nat) : Int) = 0 := eq_of_beq q.1.1
    have q2 : sIx items.size items.size hi - sIx items.size 0 lo = items.size := eq_of_beq q.2
    exact hw ⟨by omega, by omega⟩
  show wpAny _ _ (if (((sIx items.size 0 lo : Nat) : Int) == 0 && (1 : Int) == 1 && (sIx items.size items.size hi - sIx items.size 0 lo) == items.size) = true then _ else _) _ _ s
  rw [if_neg hno, pick_gen]
  first
    | exact wpAny_bind (m := Builtin.Tuple.tupleExact _) (wpAny_newObj_type (wpAny_pure ⟨_, rfl, wpAny_pure h⟩) htake)
    | exact wpAny_bind (m := Builtin.Tuple.tupleExact _) (wpAny_newObj_type (wpAny_bind (wpAny_pure (wpAny_pure ⟨_, rfl, wpAny_pure h⟩))) htake)
    | exact wpAny_bind (wpAny_bind (m := Builtin.Tuple.tupleExact _) (wpAny_newObj_type (wpAny_pure (wpAny_pure ⟨_, rfl, wpAny_pure h⟩)) htake))
    | exact wpAny_bind (wpAny_bind (m := Builtin.Tuple.tupleExact _) (wpAny_newObj_type (wpAny_pure ⟨_, rfl, wpAny_pure h⟩) htake))
end
end HT
namespace L2
open PySem PySem.Spec PyProof.Rows
abbrev TO := St → Hp → (Option Int → Hp → Prop) → Prop
def PO (X : Cx) (e : Option Expr) (t : TO) : Prop :=
  ∀ (pins : List (Addr × Obj)) (s : Shared) (σ : St) (H : Hp) (Q : Option Int → Hp → Prop), Inv X pins σ H s → t σ H Q →
    wpAny (model X.prog X.w) X.A (evalPart e X.env) (fun u s' => ∃ o H', Inv X pins σ H' s' ∧ IsPart u o ∧ Q o H') X.xe s
def tPart (t : TE) : TO := fun σ H Q => t σ H fun x H1 => ∃ i, x = .int i ∧ Q (some i) H1
section
variable {X : Cx} {e : Expr} {te : TE} {lo hi : Option Expr} {tl th : TO} {pos p2 : Pos}
theorem po_some (h : PE X e te) : PO X (some e) (tPart te) := by
  intro pins s σ H Q I hw
  rw [evalPart_some]
  refine thn (h pins s σ H _ I hw) fun u s1 ⟨x, H1, I1, r1, q1⟩ => ?_
  obtain ⟨i, rfl, q⟩ := q1
  obtain ⟨t, rfl⟩ := r1
  exact ⟨some i, H1, I1, .int i t, q⟩
def SlR (X : Cx) (r : V → Option Int → Option Int → Hp → VK → Prop) : Prop :=
  ∀ (pins : List (Addr × Obj)) (s : Shared) (σ : St) (H : Hp) (x : V) (v vl vu : Value) (lo hi : Option Int) (sl : Addr) (Q : VK), Inv X pins σ H s → RelV x v → s.heap.IsSliceOf sl vl vu .none → IsPart vl lo → IsPart vu hi → r x lo hi H Q →
    ∃ T id, typeLookup (.type T) "__getitem__" = pure (some (.builtin id)) ∧ s.TypeIs v T ∧ wpAny (model X.prog X.w) X.A (getItem v (.ref sl)) (EP X pins σ Q) X.xe s
theorem SlR.or {r r' : V → Option Int → Option Int → Hp → VK → Prop} (h : SlR X r) (h' : SlR X r') : SlR X (fun x lo hi H Q => r x lo hi H Q ∨ r' x lo hi H Q) := by
  intro pins s σ H x v vl vu lo hi sl Q I rx hs pl pu q
  rcases q with q | q
  · exact h pins s σ H x v vl vu lo hi sl Q I rx hs pl pu q
  · exact h' pins s σ H x v vl vu lo hi sl Q I rx hs pl pu q
def tSl (r : V → Option Int → Option Int → Hp → VK → Prop) (te : TE) (tl th : TO) : TE := fun σ H Q => te σ H fun x H1 => tl σ H1 fun l H2 => th σ H2 fun u H3 => r x l u H3 Q
theorem pe_slice {r : V → Option Int → Option Int → Hp → VK → Prop} (hr : SlR X r) (he : PE X e te) (hl : PO X lo tl) (hu : PO X hi th) : PE X (.Subscript e (.Slice lo hi none p2) pos) (tSl r te tl th) := by
  intro pins s σ H Q I h
  refine Subscript_ (thn (he pins s σ H _ I h) fun v s1 ⟨x, H1, I1, r1, q1⟩ => ?_)
  refine wpAny_Slice (thn (hl pins s1 σ H1 _ I1 q1) fun vl s2 ⟨l, H2, I2, pl, q2⟩ => thn (hu pins s2 σ H2 _ I2 q2) fun vu s3 ⟨u, H3, I3, pu, q3⟩ => ?_)
  rw [evalPart_none]
  refine wpAny_pure ?_
  have I4 : Inv X pins σ H3 { s3 with heap := s3.heap.push { cls := .type "slice", data := .fields #[vl, vu, .none] } } := I3.kept (t' := s3.toks) fun b ob q => Heap.get?_push_of_some _ q
  obtain ⟨T, id, hT, ht, hg⟩ := hr pins { s3 with heap := s3.heap.push { cls := .type "slice", data := .fields #[vl, vu, .none] } } σ H3 x v vl vu l u s3.heap.objs.size Q I4 r1 (Heap.IsSliceOf.new ..) pl pu q3
  show wpAny (model X.prog X.w) X.A (subscriptTail e (.Slice lo hi none p2) v (.ref s3.heap.objs.size)) (EP X pins σ Q) X.xe { s3 with heap := s3.heap.push { cls := .type "slice", data := .fields #[vl, vu, .none] } }
  exact tail_any (ops := [.ref s3.heap.objs.size, v]) ht hT hg (by with_unfolding_all rfl)
def cutV (xs : List V) (lo hi : Option Int) : List V := (xs.drop (HT.sIx xs.length 0 lo)).take (HT.sIx xs.length xs.length hi - HT.sIx xs.length 0 lo)
theorem cutV_length (xs : List V) (lo hi : Option Int) : (cutV xs lo hi).length ≤ xs.length := by
  unfold cutV
  rw [List.length_take, List.length_drop]
  omega
def rSlT (K : PySem.W.Frag) : V → Option Int → Option Int → Hp → VK → Prop := fun x lo hi H Q => ∃ a xs, x = .ref a ∧ SqT K H a xs ∧
  ¬ (HT.sIx xs.length 0 lo = 0 ∧ HT.sIx xs.length xs.length hi = xs.length) ∧ ∀ p, H p = none → Q (.ref p) (upd H p (.tup (cutV xs lo hi)))
theorem sl_tup : SlR X (rSlT X.K) := by
  intro pins s σ H x v vl vu lo hi sl Q I rx hs pl pu h
  obtain ⟨a, xs, rfl, hx, hw, q⟩ := h
  cases rx
  obtain ⟨its, r, ht, hz⟩ := I.tuple hx
  have hlen : its.toArray.size = xs.length := by rw [List.size_toArray]; exact r.length.symm
  refine ⟨"tuple", _, PyProof.Rows.slot_tuple_getitem.lookup, ht.typeIs, ?_⟩
  refine HT.getItem_tuple_cut ht hs pl pu (by rw [hlen]; exact hw) ?_ (by rw [hlen]; exact hz)
  rw [hlen]
  refine ⟨.ref s.heap.objs.size, _, I.laid (t' := s.toks) (o := .tup (cutV xs lo hi)) (fun b ob q => Heap.get?_push_of_some _ q) (Nat.le_refl _) ?_, rfl, q _ (I.hok.fresh (Nat.le_refl _))⟩
  exact ⟨Nat.le_trans (cutV_length xs lo hi) hz, _, (r.drop (HT.sIx xs.length 0 lo)).take (HT.sIx xs.length xs.length hi - HT.sIx xs.length 0 lo), IsTup.new _ _⟩
def rCatT (K : PySem.W.Frag) : R2 := fun x y H Q => ∃ a b xs ys, x = .ref a ∧ y = .ref b ∧ SqT K H a xs ∧ SqT K H b ys ∧ xs ≠ [] ∧ xs.length + ys.length ≤ sizeLine ∧
  (ys = [] → Q (.ref a) H) ∧ (ys ≠ [] → ∀ p, H p = none → Q (.ref p) (upd H p (.tup (xs ++ ys))))
theorem Vals.nil_iff {xs : List V} {us : List Value} (r : Vals xs us) : us = [] ↔ xs = [] := by
  cases r with
  | nil => simp
  | cons _ _ => simp
theorem op_catT : OpR X (binaryOp .Add) (rCatT X.K) := by
  intro pins s σ H x y v u Q I rx ry h
  obtain ⟨a, b, xs, ys, rfl, rfl, ha, hb, hx, hz, q1, q2⟩ := h
  cases rx
  cases ry
  obtain ⟨its, r1, p1, _⟩ := I.tuple ha
  obtain ⟨its2, r2, p2, _⟩ := I.tuple hb
  refine HT.cat_tup p1 p2 (fun z => hx (r1.nil_iff.mp z)) (fun z => ⟨.ref a, H, I, rfl, q1 (r2.nil_iff.mp z)⟩) (fun z => ?_) (by rw [← r1.length, ← r2.length]; exact hz)
  refine ⟨.ref s.heap.objs.size, _, I.laid (t' := s.toks) (o := .tup (xs ++ ys)) (fun b ob q => Heap.get?_push_of_some _ q) (Nat.le_refl _) ?_, rfl, q2 (fun w => z (r2.nil_iff.mpr w)) _ (I.hok.fresh (Nat.le_refl _))⟩
  exact ⟨by rw [List.length_append]; exact hz, _, r1.append r2, IsTup.new _ _⟩
end
end L2
namespace L2
open PySem PySem.Spec PyProof.Rows
def ixN (n : Nat) (i : Int) : Option Nat := if 0 ≤ i then (if i < n then some i.toNat else none) else if -(n : Int) ≤ i then some (i + n).toNat else none
def atI {α : Type} (xs : List α) (i : Int) : Option α := (ixN xs.length i).bind fun j => xs[j]?
theorem ixN_seq {n : Nat} {i : Int} {j : Nat} (h : ixN n i = some j) : seqIndex? i n = some j ∧ j < n ∧ -(n : Int) ≤ i ∧ i < n := by
  unfold ixN at h
  by_cases h0 : 0 ≤ i
  · rw [if_pos h0] at h
    by_cases h1 : i < n
    · rw [if_pos h1] at h
      have e : i.toNat = j := Option.some.inj h
      exact ⟨by rw [seqIndex_of h0 h1, e], by omega, by omega, h1⟩
    · rw [if_neg h1] at h; cases h
  · rw [if_neg h0] at h
    by_cases h1 : -(n : Int) ≤ i
    · rw [if_pos h1] at h
      have e : (i + n).toNat = j := Option.some.inj h
      exact ⟨by rw [seqIndex_neg (by omega) h1, e], by omega, h1, by omega⟩
    · rw [if_neg h1] at h; cases h
theorem atI_get {α : Type} {xs : List α} {i : Int} {v : α} (h : atI xs i = some v) : ∃ j, seqIndex? i xs.length = some j ∧ xs[j]? = some v ∧ j < xs.length ∧ -(xs.length : Int) ≤ i ∧ i < xs.length := by
  unfold atI at h
  cases e : ixN xs.length i with
  | none => rw [e] at h; cases h
  | some j =>
    rw [e] at h
    obtain ⟨h1, h2, h3, h4⟩ := ixN_seq e
    exact ⟨j, h1, h, h2, h3, h4⟩
theorem atI_nat {α : Type} {xs : List α} {j : Nat} {v : α} (h : xs[j]? = some v) : atI xs (j : Int) = some v := by
  have hj : j < xs.length := (List.getElem?_eq_some_iff.mp h).1
  have e : ixN xs.length (j : Int) = some j := by
    unfold ixN
    rw [if_pos (by omega), if_pos (by omega)]; simp
  unfold atI; rw [e]; exact h
def PlainIx (b : Expr) : Prop := ∀ o i, subscripted b false o i = operate [o, i] (getItem o i)
def IxR (X : Cx) (r : R2) : Prop :=
  ∀ (value slice : Expr) (pins : List (Addr × Obj)) (s : Shared) (σ : St) (H : Hp) (x y : V) (v u : Value) (Q : VK), Inv X pins σ H s → RelV x v → RelV y u → r x y H Q →
    subscripted slice false v u = operate [v, u] (getItem v u) → wpAny (model X.prog X.w) X.A (subscriptTail value slice v u) (EP X pins σ Q) X.xe s
def MtR (X : Cx) (id : String) (r : V → List V → Hp → VK → Prop) : Prop :=
  ∀ (pins : List (Addr × Obj)) (s : Shared) (σ : St) (H : Hp) (x : V) (xs : List V) (v : Value) (us : List Value) (Q : VK), Inv X pins σ H s → RelV x v → Vals xs us → r x xs H Q →
    wpAny (model X.prog X.w) X.A (call (.builtin id) (v :: us)) (EP X pins σ Q) X.xe s
section
variable {X : Cx} {a b : Expr} {ta tb : TE} {pos : Pos}
theorem IxR.or {r r' : R2} (h : IxR X r) (h' : IxR X r') : IxR X (fun x y H Q => r x y H Q ∨ r' x y H Q) := by
  intro value slice pins s σ H x y v u Q I rx ry q hs
  rcases q with q | q
  · exact h value slice pins s σ H x y v u Q I rx ry q hs
  · exact h' value slice pins s σ H x y v u Q I rx ry q hs
theorem MtR.or {id : String} {r r' : V → List V → Hp → VK → Prop} (h : MtR X id r) (h' : MtR X id r') : MtR X id (fun x xs H Q => r x xs H Q ∨ r' x xs H Q) := by
  intro pins s σ H x xs v us Q I rx rs q
  rcases q with q | q
  · exact h pins s σ H x xs v us Q I rx rs q
  · exact h' pins s σ H x xs v us Q I rx rs q
theorem pe_ix {r : R2} (hr : IxR X r) (ha : PE X a ta) (hb : PE X b tb) (hs : PlainIx b) : PE X (.Subscript a b pos) (tOp r ta tb) := by
  intro pins s σ H Q I h
  exact Subscript_ (binT ha hb I h fun v u s2 x y H2 I2 rx ry q => hr a b pins s2 σ H2 x y v u Q I2 rx ry q (hs _ _))
def rIxL (K : PySem.W.Frag) : R2 := fun x y H Q => ∃ p xs i v, x = .ref p ∧ y = .int i ∧ SqL K H p xs ∧ atI xs i = some v ∧ Q v H
def rIxT (K : PySem.W.Frag) : R2 := fun x y H Q => ∃ p xs i v, x = .ref p ∧ y = .int i ∧ SqT K H p xs ∧ atI xs i = some v ∧ Q v H
def rIxS : R2 := fun x y H Q => ∃ z i c, x = .str z ∧ y = .int i ∧ z.length ≤ sizeLine ∧ atI z.cps.toList i = some c ∧ Q (.str ⟨#[c]⟩) H
theorem ix_list : IxR X (rIxL X.K) := by
  intro value slice pins s σ H x y v u Q I rx ry h hs
  obtain ⟨p, xs, i, z, rfl, rfl, hq, he, q⟩ := h
  cases rx
  obtain ⟨t, rfl⟩ := ry
  obtain ⟨its, r, pl, hz⟩ := I.list hq
  obtain ⟨j, h1, h2, h3, h4, h5⟩ := atI_get he
  obtain ⟨w, ew, rw'⟩ := r.get h2
  have hl := r.length
  have hn := line63
  have fin : EP X pins σ Q w s := ⟨z, H, I, rw', q⟩
  by_cases h0 : 0 ≤ i
  · have hj : i.toNat = j := by
      rw [seqIndex_of h0 h5] at h1
      exact Option.some.inj h1
    exact item_listR pl.isList h0 (by omega) (by rw [hj]; simpa using ew) fin hs
  · have hj : (i + (its.toArray.size : Int)).toNat = j := by
      rw [seqIndex_neg (by omega) h4] at h1
      rw [List.size_toArray, ← hl]
      exact Option.some.inj h1
    exact subscriptTail_builtinR (x := w) pl.isList.typeIs slot_list_getitem.lookup
      (wpAny_getItem_list_neg (Q := fun r s' => r = w ∧ EP X pins σ Q r s') pl.isList (by omega) (by rw [List.size_toArray] <;> omega) (by omega) (by rw [hj]; simpa using ew) ⟨rfl, fin⟩) hs
theorem ix_tup : IxR X (rIxT X.K) := by
  intro value slice pins s σ H x y v u Q I rx ry h hs
  obtain ⟨p, xs, i, z, rfl, rfl, hq, he, q⟩ := h
  cases rx
  obtain ⟨t, rfl⟩ := ry
  obtain ⟨its, r, pl, hz⟩ := I.tuple hq
  obtain ⟨j, h1, h2, h3, h4, h5⟩ := atI_get he
  obtain ⟨w, ew, rw'⟩ := r.get h2
  have hl := r.length
  have hn := line63
  have fin : EP X pins σ Q w s := ⟨z, H, I, rw', q⟩
  exact subscriptTail_builtinR (x := w) pl.typeIs slot_tuple_getitem.lookup
    (getItem_tuple (j := j) (Q := fun r s' => r = w ∧ EP X pins σ Q r s') pl (by omega) (by omega) (by rw [List.size_toArray, ← hl]; exact h1) (by simpa using ew) ⟨rfl, fin⟩) hs
theorem ix_str : IxR X rIxS := by
  intro value slice pins s σ H x y v u Q I rx ry h hs
  obtain ⟨z, i, c, rfl, rfl, hz, he, q⟩ := h
  obtain ⟨t, rfl⟩ := rx
  obtain ⟨t', rfl⟩ := ry
  obtain ⟨j, h1, h2, h3, h4, h5⟩ := atI_get he
  have hl : z.cps.toList.length = z.length := by simp [Str.length]
  rw [hl] at h1 h4 h5
  have hn := line63
  exact tail_any (typeIs_str s z t) slot_str_getitem.lookup (getItem_str (c := c) (by
    have e1 : decide (i < -(2 ^ 63 : Int)) = false := decide_eq_false (by omega)
    have e2 : decide (i ≥ 2 ^ 63) = false := decide_eq_false (by omega)
    rw [e1, e2, Bool.or_false]) (by rw [h1]; simpa using h2) ⟨.str ⟨#[c]⟩, H, I.tok _, ⟨_, rfl⟩, q⟩) hs
def rIx (K : PySem.W.Frag) : R2 := fun x y H Q => rIxL K x y H Q ∨ rIxT K x y H Q ∨ rIxS x y H Q
theorem ix_seq : IxR X (rIx X.K) := ix_list.or (ix_tup.or ix_str)
theorem Inv.lst {pins : List (Addr × Obj)} {σ : St} {H : Hp} {s : Shared} {p : Addr} {xs : List V} (I : Inv X pins σ H s) (h : H p = some (.lst xs)) :
    ∃ (its : List Value) (n : Nat), Vals xs its ∧ s.heap.get? p = some { cls := .type "list", data := .seq its.toArray n } ∧ xs.length ≤ sizeLine := by
  obtain ⟨z, its, n, r, e⟩ := I.hok p _ h
  exact ⟨its, n, r, e, z⟩
theorem slice_bounds (lo hi : Option Int) (n : Nat) : (sliceBounds lo hi none n).1 = ((HT.sIx n 0 lo : Nat) : Int) ∧ (sliceBounds lo hi none n).2.1 = ((HT.sIx n n hi : Nat) : Int) ∧ (sliceBounds lo hi none n).2.2 = 1 := by
  refine ⟨?_, ?_, rfl⟩
  · cases lo with
    | none => simp [sliceBounds, HT.sIx]
    | some i =>
      simp only [sliceBounds, HT.sIx, Option.getD_none, show (1 : Int) > 0 by decide, if_true]
      by_cases h : i < 0
      · simp only [h, if_true] <;> omega
      · simp only [h, if_false] <;> omega
  · cases hi with
    | none => simp [sliceBounds, HT.sIx]
    | some i =>
      simp only [sliceBounds, HT.sIx, Option.getD_none, show (1 : Int) > 0 by decide, if_true]
      by_cases h : i < 0
      · simp only [h, if_true] <;> omega
      · simp only [h, if_false] <;> omega
theorem slicePick_cut (its : List Value) (lo hi : Option Int) : slicePick its.toArray lo hi none = ((its.drop (HT.sIx its.length 0 lo)).take (HT.sIx its.length its.length hi - HT.sIx its.length 0 lo)).toArray := by
  obtain ⟨h1, h2, h3⟩ := slice_bounds lo hi its.toArray.size
  unfold slicePick
  rw [h1, h2, h3]
  simp only [sliceRange_one, pick_run, List.size_toArray] <;> rfl
def rSlL (K : PySem.W.Frag) : V → Option Int → Option Int → Hp → VK → Prop := fun x lo hi H Q => ∃ a xs, x = .ref a ∧ SqL K H a xs ∧ ∀ p, H p = none → Q (.ref p) (upd H p (.lst (cutV xs lo hi)))
theorem sl_list : SlR X (rSlL X.K) := by
  intro pins s σ H x v vl vu lo hi sl Q I rx hs pl pu h
  obtain ⟨a, xs, rfl, hx, q⟩ := h
  cases rx
  obtain ⟨its, r, ht, hz⟩ := I.list hx
  have hlen := r.length
  refine ⟨"list", _, slot_list_getitem.lookup, ht.isList.typeIs, ?_⟩
  refine wpAny_getItem_list_slice ht.isList hs pl pu .none (by simp) ?_ (by rw [List.size_toArray] <;> omega)
  rw [slicePick_cut, ← hlen]
  refine ⟨.ref s.heap.objs.size, _, I.laid (t' := s.toks) (o := .lst (cutV xs lo hi)) (fun b ob q => Heap.get?_push_of_some _ q) (Nat.le_refl _) ?_, rfl, q _ (I.hok.fresh (Nat.le_refl _))⟩
  exact ⟨Nat.le_trans (cutV_length xs lo hi) hz, _, 0, (r.drop (HT.sIx xs.length 0 lo)).take (HT.sIx xs.length xs.length hi - HT.sIx xs.length 0 lo), Heap.get?_push_size _ rfl⟩
theorem call_len_seq : CallR X (.builtin "len") (fun xs H Q => ∃ p ys, xs = [.ref p] ∧ (SqL X.K H p ys ∨ SqT X.K H p ys) ∧ Q (.int ys.length) H) := by
  intro pins s σ H xs us Q I r h
  obtain ⟨p, ys, rfl, hq, q⟩ := h
  obtain ⟨u, rfl, rx⟩ := vals1 r
  cases rx
  have hn := line63
  rcases hq with hq | hq
  · obtain ⟨its, r', pl, hz⟩ := I.list hq
    have hlen := r'.length
    exact Calls.call_len_list pl.isList (by simp only [List.size_toArray] <;> omega) ⟨.int ys.length, H, I.tok _, ⟨s.toks + 1, by rw [List.size_toArray, hlen]⟩, q⟩
  · obtain ⟨its, r', pl, hz⟩ := I.tuple hq
    have hlen := r'.length
    exact len_tuple pl (by simp only [List.size_toArray] <;> omega) ⟨.int ys.length, H, I.tok _, ⟨s.toks + 1, by rw [List.size_toArray, hlen]⟩, q⟩
theorem call_len_str : CallR X (.builtin "len") (fun xs H Q => ∃ z, xs = [.str z] ∧ z.length ≤ sizeLine ∧ Q (.int z.length) H) := by
  intro pins s σ H xs us Q I r h
  obtain ⟨z, rfl, hz, q⟩ := h
  obtain ⟨u, rfl, t, rfl⟩ := vals1 r
  have hn := line63
  exact len_str (by omega) ⟨.int z.length, H, I.tok _, ⟨_, rfl⟩, q⟩
theorem CallR.or {f : Value} {r r' : List V → Hp → VK → Prop} (h : CallR X f r) (h' : CallR X f r') : CallR X f (fun xs H Q => r xs H Q ∨ r' xs H Q) := by
  intro pins s σ H xs us Q I rs q
  rcases q with q | q
  · exact h pins s σ H xs us Q I rs q
  · exact h' pins s σ H xs us Q I rs q
def tyV (K : PySem.W.Frag) (T : String) (x : V) (H : Hp) : Prop := match x with
  | .str _ => T = "str"
  | .int _ => T = "int"
  | .ref p => (T = "list" ∧ ∃ xs, SqL K H p xs) ∨ (T = "tuple" ∧ ∃ o, K.lookup p = some o ∧ o.cls = .type "tuple" ∧ o.dict = none) ∨
      (T = "dict" ∧ ((∃ kvs, H p = some (.dK kvs)) ∨ ∃ kvs, H p = some (.dT kvs))) ∨ (T = "set" ∧ ∃ S n, H p = some (.set S n))
  | _ => False
theorem tyV_is {pins : List (Addr × Obj)} {σ : St} {H : Hp} {s : Shared} {T : String} {x : V} {v : Value} (I : Inv X pins σ H s) (r : RelV x v) (ty : tyV X.K T x H) :
    s.TypeIs v T ∧ ∀ a, v = .ref a → ∃ ob, s.heap.get? a = some ob ∧ ob.dict = none := by
  cases x with
  | str z =>
    obtain ⟨t, rfl⟩ := r
    cases (show T = "str" from ty)
    exact ⟨typeIs_str s z t, fun _ e => nomatch e⟩
  | int i =>
    obtain ⟨t, rfl⟩ := r
    cases (show T = "int" from ty)
    exact ⟨typeIs_int s i t, fun _ e => nomatch e⟩
  | ref p =>
    cases r
    rcases ty with ⟨rfl, xs, hq⟩ | ⟨rfl, o, hk, hc, hd⟩ | ⟨rfl, hk⟩ | ⟨rfl, S, n, hk⟩
    · obtain ⟨its, _, pl, _⟩ := I.list hq
      refine ⟨pl.isList.typeIs, fun a e => ?_⟩
      cases e
      obtain ⟨o, n, e, c, hd, _⟩ := pl
      exact ⟨o, e, hd⟩
    · refine ⟨⟨o, I.kIn p o hk, hc⟩, fun a e => ?_⟩
      cases e
      exact ⟨o, I.kIn _ o hk, hd⟩
    · have z : ∃ o, s.heap.get? p = some o ∧ o.ExactDict := by
        rcases hk with ⟨kvs, hk⟩ | ⟨kvs, hk⟩
        · obtain ⟨_, _, _, _, o, _, _, e, ex, _⟩ := I.hok p _ hk
          exact ⟨o, e, ex⟩
        · obtain ⟨_, _, _, _, o, _, _, e, ex, _⟩ := I.hok p _ hk
          exact ⟨o, e, ex⟩
      obtain ⟨o, e, ex⟩ := z
      refine ⟨⟨o, e, ex.1⟩, fun a e2 => ?_⟩
      cases e2
      exact ⟨o, e, ex.2.1⟩
    · obtain ⟨o, _, _, _, e, ex, _⟩ := I.hok p _ hk
      refine ⟨⟨o, e, ex.1⟩, fun a e2 => ?_⟩
      cases e2
      exact ⟨o, e, ex.2.1⟩
  | _ => exact False.elim ty
def tBM (K : PySem.W.Frag) (T : String) (r : V → List V → Hp → VK → Prop) (to : TE) (t : TA) : TE := fun σ H Q => to σ H fun x H1 => tyV K T x H1 ∧ t σ H1 fun xs H2 => r x xs H2 Q
variable {o e : Expr} {es : List Expr} {to : TE} {t : TA} {name : Str} {apos cpos : Pos} {T id : String} {r : V → List V → Hp → VK → Prop}
theorem pe_bm (pa : PlainAttrs T) (slot : Slot T name id) (hty : typeOf (.builtin id) = pure (.type "method_descriptor")) (hm : MtR X id r) (ho : PE X o to) (ha : PA X (e :: es) t)
    (hbase : attributeBase o name X.env (eval o X.env) = eval o X.env := by rfl)
    (hfew : ((backTo cpos (starEach (e :: es) X.env)).all (fun x => !x.1) && (backToKw cpos (keywordEach [] X.env)).all (fun x => x.1.isSome)
      && decide ((e :: es).length + ([] : List Keyword).length + (if ([] : List Keyword).isEmpty then 0 else 1) < 30)) = true := by rfl)
    (hline : (apos.endLine == cpos.line) = true := by rfl) (hs : starEach (e :: es) X.env = (false, eval e X.env) :: starEach es X.env := by rfl) (hplain : (backTo cpos (starEach es X.env)).any (·.1) = false := by rfl) :
    PE X (.Call (.Attribute o name apos) (e :: es) [] cpos) (tBM X.K T r to t) := by
  intro pins s σ H Q I h
  refine wpAny_Call_method_late hbase hfew hline rfl (thn (ho pins s σ H _ I h) fun v s1 ⟨x, H1, I1, r1, ty, q1⟩ => ?_)
  obtain ⟨h1, h2⟩ := tyV_is I1 r1 ty
  refine ⟨T, id, pa, slot, hty, h1, h2, ?_⟩
  have hA := ha cpos pins s1 σ H1 _ I1 q1
  rw [hs] at hA ⊢
  refine Calls.callWith_builtin (by show (false || (backTo cpos (starEach es X.env)).any (·.1)) = false; rw [hplain] <;> rfl) (Calls.evalArgs_plain ?_)
  exact thn hA fun us s2 ⟨vs, H2, I2, r2, q2⟩ => hm pins s2 σ H2 x vs v us Q I2 r1 r2 q2
end
end L2
namespace L2
open PySem PySem.Spec PyProof.Rows
def MtM (X : Cx) (id : String) (r : V → List V → Hp → VK → Prop) : Prop :=
  ∀ (pins : List (Addr × Obj)) (s : Shared) (σ : St) (H : Hp) (x : V) (xs : List V) (v : Value) (us : List Value) (Q : VK), Inv X pins σ H s → RelV x v → Vals xs us → r x xs H Q →
    wpAny (model X.prog X.w) X.A (call (.builtin id) (v :: us)) (EP X pins σ Q) X.xe s
theorem Vals.one : ∀ {x : V} {us : List Value}, Vals [x] us → ∃ u, us = [u] ∧ RelV x u
  | _, _, .cons r .nil => ⟨_, rfl, r⟩
theorem Vals.two : ∀ {x y : V} {us : List Value}, Vals [x, y] us → ∃ u v, us = [u, v] ∧ RelV x u ∧ RelV y v
  | _, _, _, .cons r (.cons q .nil) => ⟨_, _, rfl, r, q⟩
theorem Vals.zero : ∀ {us : List Value}, Vals [] us → us = []
  | _, .nil => rfl
theorem Vals.reverse {xs : List V} {us : List Value} (h : Vals xs us) : Vals xs.reverse us.reverse := by
  induction h with
  | nil => exact .nil
  | cons r t ih => rw [List.reverse_cons, List.reverse_cons]; exact Vals.append ih (.cons r .nil)
section
variable {X : Cx} {pins : List (Addr × Obj)} {σ : St} {H : Hp} {s : Shared} {l b : Addr} {xs ys zs : List V}
theorem Inv.lset {its its' : List Value} {n : Nat} {f : Array Value → Array Value} {t' : Nat} (I : Inv X pins σ H s) (hH : H l = some (.lst xs))
    (e : s.heap.get? l = some { cls := .type "list", data := .seq its.toArray n }) (hf : f its.toArray = its'.toArray) (hv : Vals ys its') (hz : ys.length ≤ sizeLine) :
    Inv X pins σ (upd H l (.lst ys)) { s with heap := s.heap.update l (Obj.mapSeq f), toks := t' } := by
  have q := PySem.IsL.update e f
  rw [hf] at q
  refine I.write (x := l) (e := l) (by rw [hH]; exact trivial) (.inl rfl) (fun b' u hb hu => (Heap.get?_update_other s.heap (Obj.mapSeq f) (Ne.symm hb)).trans hu) ⟨_, q⟩ ?_
  exact ⟨hz, its', _, hv, q⟩
theorem Inv.lnew {its : List Value} {t' : Nat} (I : Inv X pins σ H s) (hv : Vals ys its) (hz : ys.length ≤ sizeLine) :
    Inv X pins σ (upd H s.heap.objs.size (.lst ys)) { s with heap := s.heap.push { cls := .type "list", data := .seq its.toArray }, toks := t' } :=
  I.laid (fun _ _ q => Heap.get?_push_of_some _ q) (Nat.le_refl _) ⟨hz, its, 0, hv, Heap.get?_push_size _ rfl⟩
theorem Inv.fresh (I : Inv X pins σ H s) : H s.heap.objs.size = none := I.hok.fresh (Nat.le_refl _)
theorem Inv.lstM (I : Inv X pins σ H s) (hH : H l = some (.lst xs)) : xs.length ≤ sizeLine ∧ ∃ (its : List Value) (n : Nat), Vals xs its ∧ xs.length = its.length ∧ s.heap.get? l = some { cls := .type "list", data := .seq its.toArray n } := by
  obtain ⟨z, its, n, r, e⟩ := I.hok l _ hH
  exact ⟨z, its, n, r, r.length, e⟩
end
section
variable {X : Cx}
def rAppend : V → List V → Hp → VK → Prop := fun x vs H Q => ∃ l xs y, x = .ref l ∧ vs = [y] ∧ H l = some (.lst xs) ∧ xs.length < sizeLine ∧ Q .non (upd H l (.lst (xs ++ [y])))
theorem mt_append : MtM X "list.append" rAppend := by
  intro pins s σ H x vs v us Q I rx rv h
  obtain ⟨l, xs, y, rfl, rfl, hH, hz, q⟩ := h
  cases rx
  obtain ⟨u, rfl, ru⟩ := rv.one
  obtain ⟨z, its, n, r, hl, e⟩ := I.lstM hH
  refine call_meets F.slot_list_append ⟨_, e, rfl⟩ F.entry_list_append (F.args_list_append_2 _ _) (PySem.list_append l its.toArray n u (by rw [List.size_toArray]; omega)) ⟨e, ?_⟩
  refine ⟨.non, _, I.lset (its' := its ++ [u]) hH e (by simp) (r.append (.cons ru .nil)) ?_, rfl, q⟩
  rw [List.length_append, List.length_singleton]
  omega
end
section
variable {prog : Program} {w : World} {A : Around} {E : Value → Shared → Prop} {s : Shared}
end
section
variable {X : Cx}
end
end L2
namespace Att
open PySem PySem.W PySem.Calls PyProof.Rows
theorem ints_of_wellAll {P : Params} {h : Heap} : ∀ (ns : List Int) (vs : List Value), WellAll P h vs (ns.map WData.int) → IntsAre vs ns := by
  intro ns
  induction ns with
  | nil =>
    intro vs w
    rw [List.map_nil] at w
    cases w
    exact .nil
  | cons n ns ih =>
    intro vs w
    rw [List.map_cons] at w
    cases w with
    | cons a b =>
      cases a
      exact .cons _ _ (ih _ b)
theorem script_of {l : OpenLaw} {n : Nat} (hn : l.most = some n) {P : Params} {h : Heap} {args : List WData} {vals : List Value}
    (hpre : l.row.toRowW.claim.pre args = true) (hwl : WellAll P h vals args) :
    ∃ a vs ns, vals = [Value.ref a] ∧ args = [WData.list (ns.map WData.int)] ∧ h.get? a = some { cls := .type "list", data := .seq vs.toArray } ∧ IntsAre vs ns ∧ ns.length ≤ n := by
  have hsh : WShape.hasAll [] args [.list .int] = true := (pre_splitW hpre).1
  have hc : l.pre.holds [] { args := args } = true := (pre_splitW hpre).2
  obtain ⟨d, r, rfl, h1, h2⟩ := hasAllW_cons hsh
  obtain rfl := hasAllW_nil h2
  obtain ⟨xs, rfl, h3⟩ := hasW_list h1
  obtain ⟨ns, rfl⟩ := items_int h3
  have hlen : ns.length ≤ n := by
    unfold OpenLaw.pre at hc
    have h4 : (WTm.not (.lt (.lit (.int (n : Int))) (.len (.arg 0)))).holds [] { args := [.list (ns.map .int)] } = true := by
      have h4 := (holds_andW hc).1
      rw [hn] at h4
      exact h4
    have h5 := condW_of h4 (w_not (w_lt w_lit (w_len_list (w_arg rfl))))
    rw [List.length_map] at h5
    refine Nat.le_of_not_lt fun q => ?_
    have q' : (n : Int) < ((ns.length : Nat) : Int) := by omega
    first
      | (rw [decide_eq_true q'] at h5; exact absurd h5 (by decide))
      | (simp at h5; omega)
  cases hwl with
  | cons w1 w2 =>
    cases w2
    cases w1 with
    | list ho hall => exact ⟨_, _, ns, rfl, rfl, ho, ints_of_wellAll ns _ hall, hlen⟩
theorem post_true (l : OpenLaw) (args : List WData) : l.row.toRowW.claim.post args (.bool true) args = true :=
  postW_of (r := l.row.toRowW) (X := (true == true))
    (show WShape.has [] (.bool true) .bool = true by first | rfl | decide | simp [WShape.has, WShape.arms, WShape.armsAll])
    (show (WTm.eq .res (.lit (.bool true))).value [] { args := args, res := some (.bool true), after := args } = some (.bool (true == true)) from w_eq_bool (w_res rfl) w_lit) rfl
theorem attach_call {l : OpenLaw} {n : Nat} {q : Program} {loose : List Str} {XP : (Str → Option Value) → Heap → Prop} {YP : World → Heap → Prop} {d : DefRec}
    (hn : l.most = some n) (hdf : d.params.defaults = [])
    (call : ∀ (w : World) (s₀ s₁ : Shared) (mg mb : Str → Option Value) (fa : Addr) (o : Obj) (pm cd doc : Value) (a : Addr) (vs : List Value) (ns : List Int),
      Ground q loose [] XP w s₀ mg mb s₁.heap → YP w s₁.heap →
      s₁.heap.get? fa = some o → o.data = .func (docDef d.name d.params d.body d.scope pm cd doc) → s₁.heap.CodeRec cd d.name → mg d.name = some (.ref fa) →
      s₁.heap.get? a = some { cls := .type "list", data := .seq vs.toArray } → IntsAre vs ns → ns.length ≤ n → s₁.gens = #[] →
      codeAny (model l.prog w) callerA (.call (.ref fa) ⟨[.ref a], []⟩) (fun r s' => r = .ok (.ret (.bool true)) ∧ OldK s₁.heap s'.heap ∧ s'.os = s₁.os ∧ AllBare s'.gens) s₁) :
    WalkO q loose XP YP l.row.toRowW d [] (fun f vs => PySem.call f vs) := by
  intro w s₀ s₁ mg mb G Y fa o pm cd doc dV kV ho hd hcd hD hmg hg args vals as hpre hlay hrd hwl hlo
  obtain rfl : dV = .none := Dflts.none hD hdf
  obtain rfl : kV = .none := Dflts.noKw hD
  obtain ⟨a, vs, ns, rfl, rfl, hobj, hints, hlen⟩ := script_of hn hpre hwl
  refine enter_call (codeAny_mono (call w s₀ s₁ mg mb fa o pm cd doc a vs ns G Y ho (fd_plain hd) hcd hmg hobj hints hlen hg) fun r s' hq => ?_)
  obtain ⟨rfl, h2, h3, h4⟩ := hq
  exact ⟨.inl ⟨.bool true, .bool true, [], rfl, fun _ => rfl, .bool true, post_true l _, fun _ => ⟨List.Pairwise.nil, fun _ hm => (nomatch hm)⟩⟩, h2, h3, h4⟩
section
variable {prog : Program} {w : World} {A : Around} {E : Value → Shared → Prop} {s : Shared} {K : Frag}
end
end Att
namespace L2
open PySem PySem.Spec PyProof.Rows
theorem vals_ints : ∀ {vs : List Value} {ns : List Int}, IntsAre vs ns → Vals (ns.map V.int) vs
  | _, _, .nil => .nil
  | _, _, .cons n t h => .cons ⟨t, rfl⟩ (vals_ints h)
def Only (H : Hp) : Prop := ∀ b, H b = none ∨ ∃ o xs, H b = some (.frz o (.lst xs))
theorem law_call {P : Program} {w : World} {K : PySem.W.Frag} {mg mb : Str → Option Value} {CX : CXT} {k : Nat} {fa a : Addr} {fd : FuncData} {x : Str} {sp : Sp} {s₁ : Shared} {vs : List Value} {ns : List Int}
    (KX : K.In s₁.heap) (hns : s₁.heap.Ns mainGlobals mg) (hb : s₁.heap.Ns builtinsNs mb) (hbb : ∀ x : Str, x ≠ "__name__" → mb x = bootBuiltins x) (hlim : s₁.heap.NoLimit) (hg : s₁.gens = #[])
    (ha : s₁.heap.get? a = some { cls := .type "list", data := .seq vs.toArray }) (hi : IntsAre vs ns) (hl : ns.length ≤ sizeLine) (hr : Room k callerA)
    (F : ∀ base : Heap, K.In base → base.Ns mainGlobals mg → FnOk P w K mg base CX k fa fd [x] sp) (hbind : ∀ (s : Shared) (u : Value), BindsTo s fd ⟨[u], []⟩ [(x, u)])
    (hsp : ∀ H : Hp, Only H → SqL K H a (ns.map V.int) → sp [.ref a] H (fun v _ => v = .bl true) fun _ _ _ => False)
    (hCX : ∀ H e s', CX [] H s₁ (fun _ _ _ => False) e s' → False) :
    codeAny (model P w) callerA (.call (.ref fa) ⟨[.ref a], []⟩) (fun r s' => r = .ok (.ret (.bool true)) ∧ OldK s₁.heap s'.heap ∧ s'.os = s₁.os ∧ AllBare s'.gens) s₁ := by
  have rv := vals_ints hi
  have lenV := hi.length
  have core : ∀ H : Hp, Only H → SqL K H a (ns.map V.int) → HOk P w H s₁.heap → (∀ b, H b ≠ none → b = a) → (H a ≠ none → K.lookup a = none) →
      codeAny (model P w) callerA (.call (.ref fa) ⟨[.ref a], []⟩) (fun r s' => r = .ok (.ret (.bool true)) ∧ OldK s₁.heap s'.heap ∧ s'.os = s₁.os ∧ AllBare s'.gens) s₁ := by
    intro H hO hS hok hA hK
    have base_of : ∀ {b : Addr} {o : Obj}, s₁.heap.get? b = some o → H b = none → (hidT s₁.heap H).get? b = some o := fun e n => hidT_get e n
    have noA : ∀ {b : Addr} {o : Obj} {es : Array DictEntry} {ep : Nat}, s₁.heap.get? b = some o → o.data = .dict es ep → H b = none := fun {b o es ep} e d => by
      cases q : H b with
      | none => rfl
      | some u =>
        have e' : b = a := hA b (by rw [q]; simp)
        subst e'
        rw [ha] at e; cases e
        have d' : Data.seq vs.toArray _ = Data.dict es ep := d
        cases d'
    have nsK : ∀ {b : Addr} {m : Str → Option Value}, s₁.heap.Ns b m → (hidT s₁.heap H).Ns b m := fun {b m} ⟨o, es, ep, e, d, r⟩ => ⟨o, es, ep, base_of e (noA e d), d, r⟩
    have hKb : K.In (hidT s₁.heap H) := fun b o e => base_of (KX b o e) (by
      cases q : H b with
      | none => rfl
      | some u =>
        have e' : b = a := hA b (by rw [q]; simp)
        subst e'
        rw [hK (by rw [q]; simp)] at e; cases e)
    have hM : Mod K mg (hidT s₁.heap H) := ⟨hKb, nsK hns, ⟨mb, nsK hb, hbb⟩, let ⟨mc, h1, h2⟩ := hlim; ⟨mc, nsK h1, h2⟩⟩
    have e0 : Env0 P w K mg (hidT s₁.heap H) callerA [] s₁ H := ⟨rfl, hM, fun b o e => of_hidT e, Nat.le_of_eq (hidT_size _ _), trivial, fun b hb => absurd (show b ∈ ([] : List Addr) from hb) (by simp), hok, .of_eq hg⟩
    refine codeAny_mono ((F _ hKb (nsK hns)).run callerA [] s₁ H ⟨[.ref a], []⟩ [.ref a] [.ref a] _ _ hr e0 (hbind s₁ (.ref a)) (.cons rfl .nil) (hsp H hO hS)) fun r s' h => ?_
    cases r with
    | error e => exact (hCX H e s' h).elim
    | ok fl =>
      cases fl with
      | next => exact False.elim h
      | brk => exact False.elim h
      | cont => exact False.elim h
      | ret u =>
        obtain ⟨v, H', os, bare, un, hok', r', q⟩ := h
        have q' : v = .bl true := q
        subst q'
        obtain rfl : u = Value.bool true := r'
        refine ⟨rfl, OldK.of_keep fun b o e => ?_, os, bare⟩
        cases q : H b with
        | none => exact un.keep b o e q (by intro z; exact absurd (show b ∈ ([] : List Addr) from z) (by simp)) (by simp)
        | some u =>
          rcases hO b with z | ⟨ob, xs, z⟩
          · rw [q] at z; cases z
          · have z2 := un.frzs b ob _ z
            obtain ⟨e1, _⟩ := hok b _ z
            obtain ⟨e2, _⟩ := hok' b _ z2
            rw [e] at e1; cases e1
            exact e2
  cases hk : K.lookup a with
  | some o =>
    have e := KX a o hk
    rw [ha] at e
    cases e
    refine core (fun _ => none) (fun _ => .inl rfl) (.inr ⟨_, vs.toArray, _, hk, rfl, rfl, rfl, by rw [List.size_toArray, lenV]; exact hl, by simpa using rv⟩) (fun b u z => by have z' : (none : Option HO) = some u := z; cases z') (fun b z => absurd rfl z) fun z => absurd rfl z
  | none =>
    refine core (fun b => if b = a then some (.frz { cls := .type "list", data := .seq vs.toArray } (.lst (ns.map V.int))) else none) (fun b => ?_) (.inl (.inr ⟨{ cls := .type "list", data := .seq vs.toArray }, if_pos rfl⟩)) (fun b u z => ?_) (fun b z => ?_) fun _ => hk
    · by_cases hb : b = a
      · exact .inr ⟨_, _, if_pos hb⟩
      · exact .inl (if_neg hb)
    · by_cases hb : b = a
      · have z' := (if_pos hb).symm.trans z
        cases z'
        subst hb
        exact ⟨ha, by rw [List.length_map]; exact hl, vs, _, rv, ha⟩
      · have z' := (if_neg hb).symm.trans z
        cases z'
    · by_cases hb : b = a
      · exact hb
      · exact absurd (if_neg hb) z
end L2
namespace L2
open PySem PySem.Spec PyProof.Rows
theorem walk_of {l : PySem.W.OpenLaw} {n k : Nat} {q : Program} {loose : List Str} {XP : (Str → Option Value) → Heap → Prop} {YP : World → Heap → Prop} {d : DefRec} {K : Params → PySem.W.Frag} {CX : World → CXT} {sp : World → Sp} {x : Str}
    (hn : l.most = some n) (hn2 : n ≤ sizeLine) (hdf : d.params.defaults = []) (hr : Room k callerA)
    (hY : ∀ (w : World) (h : Heap), YP w h → (K w.params).In h)
    (F : ∀ (w : World) (mg : Str → Option Value) (fa : Addr) (h : Heap), (K w.params).In h → h.Ns mainGlobals mg → mg d.name = some (.ref fa) →
      ∃ fd : FuncData, (∀ (s : Shared) (u : Value), BindsTo s fd ⟨[u], []⟩ [(x, u)]) ∧
        ∀ base : Heap, (K w.params).In base → base.Ns mainGlobals mg → FnOk l.prog w (K w.params) mg base (CX w) k fa fd [x] (sp w))
    (hsp : ∀ (w : World) (H : Hp) (a : Addr) (ns : List Int), ns.length ≤ n → Only H → SqL (K w.params) H a (ns.map V.int) → sp w [.ref a] H (fun v _ => v = .bl true) fun _ _ _ => False)
    (hCX : ∀ (w : World) (H : Hp) (s : Shared) (e : Value) (s' : Shared), CX w [] H s (fun _ _ _ => False) e s' → False) :
    PySem.W.WalkO q loose XP YP l.row.toRowW d [] (fun f vs => PySem.call f vs) := by
  refine Att.attach_call hn hdf fun w s₀ s₁ mg mb fa o pm cd doc a vs ns G Y ho hd hcd hmg hobj hints hlen hg => ?_
  have KX := hY w _ Y
  obtain ⟨fd, hb, hF⟩ := F w mg fa _ KX G.T.g hmg
  exact law_call KX G.T.g G.T.b G.T.builtins G.T.nolimit hg hobj hints (Nat.le_trans hlen hn2) hr hF hb (fun H hO hS => hsp w H a ns hlen hO hS) fun H e s' => hCX w H s₁ e s'
end L2
namespace L2
open PySem PySem.Spec PyProof.Rows
def defArgs (s : Stmt) : Arguments := match s with
  | .FunctionDef _ a _ _ _ _ _ _ _ _ => a
  | _ => { posonlyargs := [], args := [], vararg := none, kwonlyargs := [], kw_defaults := [], kwarg := none, defaults := [] }
def defBody (s : Stmt) : List Stmt := match s with
  | .FunctionDef _ _ b _ _ _ _ _ _ _ => b
  | _ => []
def defScope (s : Stmt) : Scope := match s with
  | .FunctionDef _ _ _ _ _ _ sc _ _ _ => sc
  | _ => { kind := .function, names := [], isGenerator := false, isCoroutine := false }
abbrev CX0 : CXT := fun _ _ _ _ _ _ => False
abbrev E0 : XK := fun _ _ _ => False
theorem pass0 {X : Cx} : Passes CX0 X E0 := fun _ _ _ _ _ _ _ h => h.elim
structure Fun (K : PySem.W.Frag) (x qual : Str) (st : Stmt) (f : Addr) (fd : FuncData) : Prop where
  ex : ∃ (oc : Value) (od : Option Addr) (kV doc pm : Value) (an : Option Addr) (cdv ct : Value) (osl : Array (Option Value)),
    fd = PySem.W.fnOf x qual (defArgs st) (defBody st) (defScope st) .none kV doc pm an cdv ct ∧ K.lookup f = some ⟨oc, od, .func fd, osl⟩ ∧ PySem.W.codeIn K cdv qual = true
  kp : PySem.W.keepIn K (.ref f) = true
section
variable {P : Program} {w : World} {K : PySem.W.Frag} {mg : Str → Option Value} {base : Heap}
theorem Fun.ok {x qual : Str} {st : Stmt} {f : Addr} {fd : FuncData} {N ps : List Str} {k : Nat} {sp : Sp} (F : Fun K x qual st f fd) (S : FnScope N ps (defScope st)) (len : ∀ vs H Q E, sp vs H Q E → vs.length = ps.length)
    (hbody : ∀ (cdv : Value) (A : Around) (outer : List Env) (s : Shared) (H : Hp) (vs : List V) (Q : VK) (E : XK), Room k (A.deeper (envOfC qual (defScope st) s.heap.objs.size f cdv)) → sp vs H Q E →
      ∃ t, PSs (cxOf CX0 P w K mg base N qual (defScope st) f cdv A outer s H E).nox (defBody st) t ∧ t { nx := fun _ H' => Q .non H', rt := Q } (start N vs) H) : FnOk P w K mg base CX0 (k + 1) f fd ps sp := by
  obtain ⟨oc, od, kV, doc, pm, an, cdv, ct, osl, rfl, lk, hcd⟩ := F.ex
  refine fn_of lk hcd S len fun A outer s H vs Q E hr hsp => ?_
  obtain ⟨t, h, q⟩ := hbody cdv A outer s H vs Q E hr hsp
  exact ⟨t, h.nox, q⟩
theorem Fun.binds {x qual : Str} {st : Stmt} {f : Addr} {fd : FuncData} {ps : List Str} (F : Fun K x qual st f fd)
    (h : ∀ (kV doc pm : Value) (an : Option Addr) (cdv ct : Value) (us : List Value), us.length = ps.length → bindArgs (PySem.W.fnOf x qual (defArgs st) (defBody st) (defScope st) .none kV doc pm an cdv ct) ⟨us, []⟩ = pure (ps.zip us)) : Binds K fd ps [] := by
  obtain ⟨oc, od, kV, doc, pm, an, cdv, ct, osl, rfl, lk, hcd⟩ := F.ex
  exact .all (h kV doc pm an cdv ct)
theorem fun_mk {x qual : Str} {st : Stmt} {f : Addr} {oc : Value} {od an : Option Addr} {osl : Array (Option Value)} {kV doc pm cdv ct : Value} (l : K.lookup f = some ⟨oc, od, .func (PySem.W.fnOf x qual (defArgs st) (defBody st) (defScope st) .none kV doc pm an cdv ct), osl⟩)
    (c : PySem.W.codeIn K cdv qual = true) (k : PySem.W.keepIn K (.ref f) = true) : Fun K x qual st f (PySem.W.fnOf x qual (defArgs st) (defBody st) (defScope st) .none kV doc pm an cdv ct) := ⟨⟨oc, od, kV, doc, pm, an, cdv, ct, osl, rfl, l, c⟩, k⟩
end
section
variable {X : Cx}
end
def Same (H H' : Hp) : Prop := ∀ b o, H b = some o → H' b = some o
theorem Same.refl (H : Hp) : Same H H := fun _ _ h => h
theorem Same.trans {H H1 H2 : Hp} (a : Same H H1) (b : Same H1 H2) : Same H H2 := fun c o h => b c o (a c o h)
theorem Same.free {H H' : Hp} (e : Same H H') {l : Addr} (h : H' l = Option.none) : H l = Option.none := by
  cases q : H l with
  | none => rfl
  | some o =>
    rw [e l o q] at h
    cases h
theorem Same.seq {K : PySem.W.Frag} {H H' : Hp} {a : Addr} {xs : List V} (e : Same H H') (h : SqL K H a xs) : SqL K H' a xs := by
  rcases h with (h | ⟨o, h⟩) | h
  · exact .inl (.inl (e _ _ h))
  · exact .inl (.inr ⟨o, e _ _ h⟩)
  · exact .inr h
end L2
set_option Elab.async false
set_option linter.all false
set_option maxRecDepth 100000
namespace L2
open PySem PySem.Spec PyProof.Rows
section
variable {κ : Type} [DecidableEq κ]
def valV (kvs : List (κ × V)) (k : κ) : Option V := (kvs.find? fun kv => decide (kv.1 = k)).map (·.2)
def putK (kvs : List (κ × V)) (k : κ) (v : V) : List (κ × V) :=
  if (kvs.any fun kv => decide (kv.1 = k)) = true then kvs.map (fun kv => if kv.1 = k then (kv.1, v) else kv) else kvs ++ [(k, v)]
def dropK (kvs : List (κ × V)) (k : κ) : List (κ × V) := kvs.filter fun kv => decide (kv.1 ≠ k)
theorem RelO.getD {o : Option V} {u : Option Value} {d : V} {d' : Value} (r : RelO o u) (rd : RelV d d') : RelV (o.getD d) (u.getD d') := by
  cases o with
  | none => cases u with
    | none => exact rd
    | some _ => exact (show False from r).elim
  | some _ => cases u with
    | none => exact (show False from r).elim
    | some _ => exact r
theorem KV.any {kvs : List (κ × V)} {vs : List (κ × Value)} (r : KV kvs vs) (k : κ) : (kvs.any fun kv => decide (kv.1 = k)) = vs.any fun kv => decide (kv.1 = k) := by
  unfold KV at r
  induction r with
  | nil => rfl
  | cons h t ih => rw [List.any_cons, List.any_cons, ih, h.1]
theorem KV.drop {kvs : List (κ × V)} {vs : List (κ × Value)} (r : KV kvs vs) (k : κ) : KV (dropK kvs k) (without vs k) := by
  unfold KV at r ⊢
  unfold dropK without
  induction r with
  | nil => exact .nil
  | @cons p q ps qs h t ih =>
    obtain ⟨h1, h2⟩ := h
    rw [List.filter_cons, List.filter_cons]
    by_cases e : p.1 = k
    · have a : ¬ decide (p.1 ≠ k) = true := by simp [e]
      have b : ¬ decide (q.1 ≠ k) = true := by simp [h1.symm.trans e]
      rw [if_neg a, if_neg b]; exact ih
    · have e' : ¬ q.1 = k := fun z => e (h1.trans z)
      have a : decide (p.1 ≠ k) = true := by simp [e]
      have b : decide (q.1 ≠ k) = true := by simp [e']
      rw [if_pos a, if_pos b]; exact .cons ⟨h1, h2⟩ ih
theorem KV.length {kvs : List (κ × V)} {vs : List (κ × Value)} (r : KV kvs vs) : kvs.length = vs.length := Paired.length r
end
abbrev KT (H : Hp) : List (List Key × V) → List (List Key × Addr × Value) → Prop := Paired fun p q => p.1 = q.1 ∧ H q.2.1 = some (.tup (p.1.map kV)) ∧ RelV p.2 q.2.2
theorem KT.keeps {H H' : Hp} {kvs : List (List Key × V)} {xs : List (List Key × Addr × Value)} (r : KT H kvs xs) (ht : ∀ b ys, H b = some (.tup ys) → H' b = some (.tup ys)) : KT H' kvs xs :=
  Paired.mapP r fun _ _ z => ⟨z.1, ht _ _ z.2.1, z.2.2⟩
section
variable {P : Program} {w : World} {H : Hp} {h : Heap} {a : Addr}
end
def DGet (H : Hp) (a : Addr) (y : V) (r : Option V) : Prop :=
  (∃ kvs k, Rd H a (.dK kvs) ∧ y = kV k ∧ r = valV kvs k) ∨ ∃ kvs k b, Rd H a (.dT kvs) ∧ y = .ref b ∧ H b = some (.tup (k.map kV)) ∧ r = valV kvs k
def DPut (H : Hp) (a : Addr) (y v : V) (H' : Hp) : Prop :=
  (∃ kvs k, H a = some (.dK kvs) ∧ y = kV k ∧ kvs.length < sizeLine ∧ H' = upd H a (.dK (putK kvs k v))) ∨
  ∃ kvs k b, H a = some (.dT kvs) ∧ y = .ref b ∧ H b = some (.tup (k.map kV)) ∧ kvs.length < sizeLine ∧ H' = upd H a (.dT (putK kvs k v))
theorem DGet.k {H : Hp} {a : Addr} {kvs : List (Key × V)} {k : Key} (e : H a = some (.dK kvs)) : DGet H a (kV k) (valV kvs k) := .inl ⟨kvs, k, .inl e, rfl, rfl⟩
theorem DGet.t {H : Hp} {a b : Addr} {kvs : List (List Key × V)} {k : List Key} (e : H a = some (.dT kvs)) (eb : H b = some (.tup (k.map kV))) : DGet H a (.ref b) (valV kvs k) := .inr ⟨kvs, k, b, .inl e, rfl, eb, rfl⟩
theorem DPut.k {H : Hp} {a : Addr} {kvs : List (Key × V)} {k : Key} {v : V} (e : H a = some (.dK kvs)) (hl : kvs.length < sizeLine) : DPut H a (kV k) v (upd H a (.dK (putK kvs k v))) := .inl ⟨kvs, k, e, rfl, hl, rfl⟩
theorem DPut.t {H : Hp} {a b : Addr} {kvs : List (List Key × V)} {k : List Key} {v : V} (e : H a = some (.dT kvs)) (eb : H b = some (.tup (k.map kV))) (hl : kvs.length < sizeLine) :
    DPut H a (.ref b) v (upd H a (.dT (putK kvs k v))) := .inr ⟨kvs, k, b, e, rfl, eb, hl, rfl⟩
section
variable {X : Cx} {pins : List (Addr × Obj)} {σ : St} {H : Hp} {s : Shared} {a : Addr} {y v : V} {u r : Value} {o : Option V} {A : Around} {E : Value → Shared → Prop}
end
section
variable {X : Cx} {pins : List (Addr × Obj)} {σ : St} {H : Hp} {s : Shared} {a : Addr} {kvs : List (Key × V)} {k : Key} {u : Value} {A : Around} {E : Value → Shared → Prop}
end
section
variable {X : Cx} {o i e value : Expr} {pos pos' tpos : Pos} {td ty tv : TE}
end
section
variable {X : Cx} {pos : Pos}
end
section
variable {X : Cx} {pins : List (Addr × Obj)} {σ : St} {H : Hp} {s : Shared} {a : Addr} {y d : V} {u r : Value} {o : Option V} {A : Around} {E : Value → Shared → Prop}
end
section
variable {X : Cx} {o e f : Expr} {apos cpos : Pos} {td ty tx : TE}
end
section
variable {X : Cx} {pins : List (Addr × Obj)} {σ : St} {H : Hp} {s : Shared} {a : Addr} {kvs : List (Key × V)} {A : Around} {E : Value → Shared → Prop}
end
section
variable {X : Cx} {pins : List (Addr × Obj)} {σ : St} {H : Hp} {s : Shared} {a : Addr} {y : V} {u : Value} {A : Around} {E : Value → Shared → Prop}
end
end L2
set_option Elab.async false
set_option linter.all false
set_option maxRecDepth 100000
set_option maxHeartbeats 4000000
namespace L2.L3
open PySem PySem.Spec PyProof.Rows
inductive D where
  | non | bl (b : Bool) | int (i : Int) | str (x : Str) | tup (xs : List D) | lst (xs : List D) | dct (ks : List Key) (xs : List D) | ty (n : String) | exc (c : Str) | cls (c : Str)
def excAt (a C : Addr) (h : Heap) : Prop := ∃ o vs, h.get? a = some o ∧ o.cls = .ref C ∧ o.dict = none ∧ o.data = .fields vs
mutual
def Den (K : PySem.W.Frag) (F : Hp) : D → V → Prop
  | .non, v => v = V.non
  | .bl b, v => v = V.bl b
  | .int i, v => v = V.int i
  | .str x, v => v = V.str x
  | .ty n, v => v = V.ty n
  | .exc c, v => ∃ a C, v = V.ref a ∧ PySem.W.nsIn K mainGlobals c = some (some (.ref C)) ∧ F a = some (.ext (excAt a C))
  | .cls c, v => ∃ C, v = V.ref C ∧ PySem.W.nsIn K mainGlobals c = some (some (.ref C))
  | .tup ds, v => ∃ a vs, v = V.ref a ∧ SqT K F a vs ∧ DenL K F ds vs
  | .lst ds, v => ∃ a vs, v = V.ref a ∧ SqL K F a vs ∧ DenL K F ds vs
  | .dct ks ds, v => ∃ a vs, v = V.ref a ∧ F a = some (.dK (ks.zip vs)) ∧ vs.length = ks.length ∧ DenL K F ds vs
def DenL (K : PySem.W.Frag) (F : Hp) : List D → List V → Prop
  | [], vs => vs = []
  | d :: ds, vs => ∃ v r, vs = v :: r ∧ Den K F d v ∧ DenL K F ds r
end
theorem Same.seqT {K : PySem.W.Frag} {H H' : Hp} {a : Addr} {xs : List V} (e : Same H H') (h : SqT K H a xs) : SqT K H' a xs := by
  rcases h with (h | ⟨o, h⟩) | h
  · exact .inl (.inl (e _ _ h))
  · exact .inl (.inr ⟨o, e _ _ h⟩)
  · exact .inr h
mutual
theorem Den.mono {K : PySem.W.Frag} {F F' : Hp} (s : Same F F') : ∀ (d : D) (v : V), Den K F d v → Den K F' d v
  | .non, _, h => by simpa only [Den] using h
  | .bl _, _, h => by simpa only [Den] using h
  | .int _, _, h => by simpa only [Den] using h
  | .str _, _, h => by simpa only [Den] using h
  | .ty _, _, h => by simpa only [Den] using h
  | .cls _, _, h => by simpa only [Den] using h
  | .exc _, v, h => by
    simp only [Den] at h ⊢
    obtain ⟨a, C, e, z, q⟩ := h
    exact ⟨a, C, e, z, s _ _ q⟩
  | .tup ds, v, h => by
    simp only [Den] at h ⊢
    obtain ⟨a, vs, e, q, r⟩ := h
    exact ⟨a, vs, e, Same.seqT s q, DenL.mono s ds vs r⟩
  | .lst ds, v, h => by
    simp only [Den] at h ⊢
    obtain ⟨a, vs, e, q, r⟩ := h
    exact ⟨a, vs, e, s.seq q, DenL.mono s ds vs r⟩
  | .dct ks ds, v, h => by
    simp only [Den] at h ⊢
    obtain ⟨a, vs, e, q, l, r⟩ := h
    exact ⟨a, vs, e, s _ _ q, l, DenL.mono s ds vs r⟩
theorem DenL.mono {K : PySem.W.Frag} {F F' : Hp} (s : Same F F') : ∀ (ds : List D) (vs : List V), DenL K F ds vs → DenL K F' ds vs
  | [], _, h => by simpa only [DenL] using h
  | d :: ds, vs, h => by
    simp only [DenL] at h ⊢
    obtain ⟨v, r, e, a, b⟩ := h
    exact ⟨v, r, e, Den.mono s d v a, DenL.mono s ds r b⟩
end
section
variable {K : PySem.W.Frag} {F : Hp}
theorem den_int {i : Int} : Den K F (.int i) (.int i) := by simp only [Den]
theorem den_bl {b : Bool} : Den K F (.bl b) (.bl b) := by simp only [Den]
theorem den_non : Den K F .non .non := by simp only [Den]
theorem den_str {x : Str} : Den K F (.str x) (.str x) := by simp only [Den]
theorem den_ty {x : String} : Den K F (.ty x) (.ty x) := by simp only [Den]
theorem den_tup {a : Addr} {vs : List V} {ds : List D} (h : SqT K F a vs) (r : DenL K F ds vs) : Den K F (.tup ds) (.ref a) := by
  simp only [Den]; exact ⟨a, vs, rfl, h, r⟩
theorem den_lst {a : Addr} {vs : List V} {ds : List D} (h : SqL K F a vs) (r : DenL K F ds vs) : Den K F (.lst ds) (.ref a) := by
  simp only [Den]; exact ⟨a, vs, rfl, h, r⟩
theorem denL_nil : DenL K F [] [] := by simp only [DenL]
theorem denL_cons {d : D} {v : V} {ds : List D} {vs : List V} (h : Den K F d v) (r : DenL K F ds vs) : DenL K F (d :: ds) (v :: vs) := by
  simp only [DenL]; exact ⟨v, vs, rfl, h, r⟩
theorem DenL.length : ∀ {ds : List D} {vs : List V}, DenL K F ds vs → ds.length = vs.length
  | [], vs, h => by simp only [DenL] at h; subst h; rfl
  | d :: ds, vs, h => by
    simp only [DenL] at h
    obtain ⟨v, r, rfl, _, b⟩ := h
    simp [DenL.length b]
theorem DenL.get : ∀ {ds : List D} {vs : List V} {i : Nat} {d : D}, DenL K F ds vs → ds[i]? = some d → ∃ v, vs[i]? = some v ∧ Den K F d v
  | [], vs, i, d, h, e => by simp at e
  | x :: ds, vs, i, d, h, e => by
    simp only [DenL] at h
    obtain ⟨v, r, rfl, a, b⟩ := h
    cases i with
    | zero => simp at e; subst e; exact ⟨v, rfl, a⟩
    | succ i => simpa using DenL.get b (by simpa using e)
theorem DenL.getV : ∀ {ds : List D} {vs : List V} {i : Nat} {v : V}, DenL K F ds vs → vs[i]? = some v → ∃ d, ds[i]? = some d ∧ Den K F d v
  | [], vs, i, d, h, e => by simp only [DenL] at h; subst h; simp at e
  | x :: ds, vs, i, d, h, e => by
    simp only [DenL] at h
    obtain ⟨v, r, rfl, a, b⟩ := h
    cases i with
    | zero => simp at e; subst e; exact ⟨x, rfl, a⟩
    | succ i => simpa using DenL.getV b (by simpa using e)
theorem DenL.append : ∀ {ds es : List D} {vs us : List V}, DenL K F ds vs → DenL K F es us → DenL K F (ds ++ es) (vs ++ us)
  | [], es, vs, us, h, g => by simp only [DenL] at h; subst h; exact g
  | x :: ds, es, vs, us, h, g => by
    simp only [DenL] at h
    obtain ⟨v, r, rfl, a, b⟩ := h
    exact denL_cons a (DenL.append b g)
theorem DenL.take : ∀ {ds : List D} {vs : List V} (n : Nat), DenL K F ds vs → DenL K F (ds.take n) (vs.take n)
  | _, _, 0, _ => by simpa using denL_nil
  | [], vs, n + 1, h => by simp only [DenL] at h; subst h; simpa using denL_nil
  | x :: ds, vs, n + 1, h => by
    simp only [DenL] at h
    obtain ⟨v, r, rfl, a, b⟩ := h
    exact denL_cons a (DenL.take n b)
theorem DenL.drop : ∀ {ds : List D} {vs : List V} (n : Nat), DenL K F ds vs → DenL K F (ds.drop n) (vs.drop n)
  | _, _, 0, h => by simpa using h
  | [], vs, n + 1, h => by simp only [DenL] at h; subst h; simpa using denL_nil
  | x :: ds, vs, n + 1, h => by
    simp only [DenL] at h
    obtain ⟨v, r, rfl, a, b⟩ := h
    exact DenL.drop n b
theorem DenL.set {x : D} {v : V} (q : Den K F x v) : ∀ {ds : List D} {vs : List V} (n : Nat), DenL K F ds vs → DenL K F (ds.set n x) (vs.set n v)
  | [], vs, n, h => by simp only [DenL] at h; subst h; simpa using denL_nil
  | y :: ds, vs, 0, h => by
    simp only [DenL] at h
    obtain ⟨w, r, rfl, a, b⟩ := h
    exact denL_cons q b
  | y :: ds, vs, n + 1, h => by
    simp only [DenL] at h
    obtain ⟨w, r, rfl, a, b⟩ := h
    exact denL_cons a (DenL.set q n b)
theorem denL_ints (ns : List Int) : DenL K F (ns.map D.int) (ns.map V.int) := by
  induction ns with
  | nil => exact denL_nil
  | cons n r ih => exact denL_cons den_int ih
end
inductive Lo where
  | d (x : D) | own (xs : List D)
abbrev En := List (Option Lo)
structure Base where
  F : Hp
  H : Hp
  N : Addr → Prop
  nb : ∀ p, N p → H p ≠ none
structure Rep (K : PySem.W.Frag) (B : Base) (F H : Hp) (σ : St) (e : En) : Prop where
  f0 : Same B.F F
  fh : Same F H
  h0 : Same B.H H
  nf : ∀ p, B.N p → F p = none
  dv : ∀ (i : Nat) x, e[i]? = some (some (.d x)) → ∃ v, σ[i]? = some (some v) ∧ Den K F x v
  ov : ∀ (i : Nat) xs, e[i]? = some (some (.own xs)) → ∃ p vs, σ[i]? = some (some (.ref p)) ∧ H p = some (.lst vs) ∧ F p = none ∧ B.H p = none ∧ DenL K F xs vs
  ne : ∀ (i j : Nat) xs ys p, i ≠ j → e[i]? = some (some (.own xs)) → e[j]? = some (some (.own ys)) → σ[i]? = some (some (.ref p)) → σ[j]? = some (some (.ref p)) → False
section
variable {K : PySem.W.Frag} {B : Base} {F H F' H' : Hp} {σ : St} {e : En}
theorem Rep.ext (r : Rep K B F H σ e) (a : Same F F') (b : Same F' H') (c : Same H H') (n : ∀ p, H p ≠ none → F p = none → F' p = none) : Rep K B F' H' σ e where
  f0 := r.f0.trans a
  fh := b
  h0 := r.h0.trans c
  nf := fun p hp => by
    refine n p (fun z => ?_) (r.nf p hp)
    have q := B.nb p hp
    cases w : B.H p with
    | none => exact q w
    | some o => rw [r.h0 _ _ w] at z; cases z
  dv := fun i x h => let ⟨v, h1, h2⟩ := r.dv i x h; ⟨v, h1, Den.mono a _ _ h2⟩
  ov := fun i xs h => by
    obtain ⟨p, vs, h1, h2, h3, h4, h5⟩ := r.ov i xs h
    exact ⟨p, vs, h1, c _ _ h2, n p (by rw [h2]; simp) h3, h4, DenL.mono a _ _ h5⟩
  ne := r.ne
theorem Rep.fnone (r : Rep K B F H σ e) {p : Addr} (h : H p = none) : F p = none := r.fh.free h
theorem same_upd {H : Hp} {p : Addr} {o : HO} (h : H p = none) : Same H (upd H p o) := fun b u q => by rw [upd_ne (ne_of_none q h)]; exact q
theorem same_upd2 {F H : Hp} {p : Addr} {o : HO} (h : Same F H) : Same (upd F p o) (upd H p o) := fun b u q => by
  by_cases e : b = p
  · subst e; rw [upd_same] at q ⊢; exact q
  · rw [upd_ne e] at q ⊢; exact h _ _ q
theorem Rep.laid (r : Rep K B F H σ e) {p : Addr} {o : HO} (h : H p = none) : Rep K B (upd F p o) (upd H p o) σ e ∧ Same F (upd F p o) := by
  have hf := r.fnone h
  refine ⟨r.ext (same_upd hf) (same_upd2 r.fh) (same_upd h) fun q hq hn => ?_, same_upd hf⟩
  by_cases z : q = p
  · subst z; exact absurd h hq
  · rw [upd_ne z]; exact hn
theorem Rep.loose (r : Rep K B F H σ e) {p : Addr} {o : HO} (h : H p = none) : Rep K B F (upd H p o) σ e :=
  r.ext (Same.refl _) (r.fh.trans (same_upd h)) (same_upd h) fun _ _ hn => hn
theorem Rep.now (r : Rep K B F H σ e) : Rep K ⟨F, B.H, B.N, B.nb⟩ F H σ e := ⟨Same.refl _, r.fh, r.h0, r.nf, r.dv, r.ov, r.ne⟩
theorem Rep.back {G : Hp} (s : Same B.F G) (r : Rep K ⟨G, B.H, B.N, B.nb⟩ F H σ e) : Rep K B F H σ e := ⟨s.trans r.f0, r.fh, r.h0, r.nf, r.dv, r.ov, r.ne⟩
theorem Rep.set (r : Rep K B F H σ e) {i : Nat} {v : V} {x : D} (h : Den K F x v) (hl : i < σ.length) : Rep K B F H (σ.set i (some v)) (e.set i (some (.d x))) where
  f0 := r.f0
  fh := r.fh
  h0 := r.h0
  nf := r.nf
  dv := fun j y q => by
    by_cases z : i = j
    · subst z
      by_cases w : i < e.length
      · rw [List.getElem?_set_self w] at q
        cases q
        exact ⟨v, List.getElem?_set_self hl, h⟩
      · rw [List.getElem?_eq_none (by simpa using w)] at q; cases q
    · rw [List.getElem?_set_ne z] at q ⊢; exact r.dv j y q
  ov := fun j y q => by
    by_cases z : i = j
    · subst z
      by_cases w : i < e.length
      · rw [List.getElem?_set_self w] at q; cases q
      · rw [List.getElem?_eq_none (by simpa using w)] at q; cases q
    · rw [List.getElem?_set_ne z] at q ⊢; exact r.ov j y q
  ne := fun j k xs ys p hjk q1 q2 q3 q4 => by
    have own_ne : ∀ (j : Nat) (ys : List D), (e.set i (some (.d x)))[j]? = some (some (.own ys)) → i ≠ j := fun j ys q z => by
      subst z
      by_cases w : i < e.length
      · rw [List.getElem?_set_self w] at q; cases q
      · rw [List.getElem?_eq_none (by simpa using w)] at q; cases q
    have z1 := own_ne j xs q1
    have z2 := own_ne k ys q2
    rw [List.getElem?_set_ne z1] at q1 q3
    rw [List.getElem?_set_ne z2] at q2 q4
    exact r.ne j k xs ys p hjk q1 q2 q3 q4
theorem Rep.setOwn (r : Rep K B F H σ e) {i : Nat} {p : Addr} {vs : List V} {xs : List D} (h : H p = none) (hd : DenL K F xs vs) (hl : i < σ.length) :
    Rep K B F (upd H p (.lst vs)) (σ.set i (some (.ref p))) (e.set i (some (.own xs))) := by
  have r1 := r.loose (o := .lst vs) h
  have hb : B.H p = none := r.h0.free h
  have old : ∀ (j : Nat) (ys : List D), e[j]? = some (some (.own ys)) → σ[j]? ≠ some (some (.ref p)) := fun j ys q z => by
    obtain ⟨q1, _, h1, h2, _⟩ := r.ov j ys q
    rw [z] at h1; cases h1; rw [h] at h2; cases h2
  refine ⟨r1.f0, r1.fh, r1.h0, r1.nf, fun j y q => ?_, fun j y q => ?_, fun j k ys zs q hjk q1 q2 q3 q4 => ?_⟩
  · by_cases z : i = j
    · subst z
      by_cases w : i < e.length
      · rw [List.getElem?_set_self w] at q; cases q
      · rw [List.getElem?_eq_none (by simpa using w)] at q; cases q
    · rw [List.getElem?_set_ne z] at q ⊢; exact r1.dv j y q
  · by_cases z : i = j
    · subst z
      by_cases w : i < e.length
      · rw [List.getElem?_set_self w] at q
        cases q
        exact ⟨p, vs, List.getElem?_set_self hl, upd_same, r.fnone h, hb, hd⟩
      · rw [List.getElem?_eq_none (by simpa using w)] at q; cases q
    · rw [List.getElem?_set_ne z] at q ⊢; exact r1.ov j y q
  · by_cases z1 : i = j
    · subst z1
      rw [List.getElem?_set_ne hjk] at q2 q4
      by_cases w : i < e.length
      · rw [List.getElem?_set_self hl] at q3
        cases q3
        exact old k zs q2 q4
      · rw [List.getElem?_eq_none (by simpa using w)] at q1; cases q1
    · rw [List.getElem?_set_ne z1] at q1 q3
      by_cases z2 : i = k
      · subst z2
        rw [List.getElem?_set_self hl] at q4
        cases q4
        exact old j ys q1 q3
      · rw [List.getElem?_set_ne z2] at q2 q4
        exact r.ne j k ys zs q hjk q1 q2 q3 q4
theorem Rep.change (r : Rep K B F H σ e) {i : Nat} {p : Addr} {vs : List V} {xs ys : List D} (h : e[i]? = some (some (.own xs))) (hp : σ[i]? = some (some (.ref p))) (hd : DenL K F ys vs) :
    Rep K B F (upd H p (.lst vs)) σ (e.set i (some (.own ys))) := by
  obtain ⟨p', _, h1, h2, h3, h4, _⟩ := r.ov i xs h
  rw [hp] at h1; cases h1
  have wl : i < e.length := (List.getElem?_eq_some_iff.mp h).1
  have fk : ∀ q o, F q = some o → q ≠ p := fun q o z w => by subst w; rw [h3] at z; cases z
  have bk : ∀ q o, B.H q = some o → q ≠ p := fun q o z w => by subst w; rw [h4] at z; cases z
  have ownAt : ∀ (j : Nat) (zs : List D), (e.set i (some (.own ys)))[j]? = some (some (.own zs)) → ∃ ws, e[j]? = some (some (.own ws)) := fun j zs q => by
    by_cases z : i = j
    · subst z; exact ⟨xs, h⟩
    · rw [List.getElem?_set_ne z] at q; exact ⟨zs, q⟩
  refine ⟨r.f0, fun b o z => by rw [upd_ne (fk b o z)]; exact r.fh _ _ z, fun b o z => by rw [upd_ne (bk b o z)]; exact r.h0 _ _ z, r.nf, fun j y q => ?_, fun j y q => ?_, fun j k as bs q hjk q1 q2 q3 q4 => ?_⟩
  · by_cases z : i = j
    · subst z; rw [List.getElem?_set_self wl] at q; cases q
    · rw [List.getElem?_set_ne z] at q; exact r.dv j y q
  · by_cases z : i = j
    · subst z
      rw [List.getElem?_set_self wl] at q
      cases q
      exact ⟨p, vs, hp, upd_same, h3, h4, hd⟩
    · rw [List.getElem?_set_ne z] at q
      obtain ⟨p2, us, g1, g2, g3, g4, g5⟩ := r.ov j y q
      have : p2 ≠ p := fun w => by subst w; exact r.ne j i y xs p2 (Ne.symm z) q h g1 hp
      exact ⟨p2, us, g1, by rw [upd_ne this]; exact g2, g3, g4, g5⟩
  · obtain ⟨as', w1⟩ := ownAt j as q1
    obtain ⟨bs', w2⟩ := ownAt k bs q2
    exact r.ne j k as' bs' q hjk w1 w2 q3 q4
theorem Rep.freeze (r : Rep K B F H σ e) {i : Nat} {xs : List D} (h : e[i]? = some (some (.own xs))) : ∃ F', Same F F' ∧ Rep K B F' H σ (e.set i (some (.d (.lst xs)))) := by
  obtain ⟨p, vs, h1, h2, h3, h4, h5⟩ := r.ov i xs h
  have wl : i < e.length := (List.getElem?_eq_some_iff.mp h).1
  have s1 : Same F (upd F p (.lst vs)) := same_upd h3
  refine ⟨upd F p (.lst vs), s1, r.f0.trans s1, fun b o z => ?_, r.h0, fun q hq => ?_, fun j y q => ?_, fun j y q => ?_, fun j k as bs q hjk q1 q2 q3 q4 => ?_⟩
  · by_cases w : b = p
    · subst w; rw [upd_same] at z; cases z; exact h2
    · rw [upd_ne w] at z; exact r.fh _ _ z
  · have : q ≠ p := fun w => by subst w; exact B.nb _ hq h4
    rw [upd_ne this]; exact r.nf q hq
  · by_cases z : i = j
    · subst z
      rw [List.getElem?_set_self wl] at q
      cases q
      exact ⟨_, h1, den_lst (SqL.of upd_same) (DenL.mono s1 _ _ h5)⟩
    · rw [List.getElem?_set_ne z] at q
      obtain ⟨v, a, b⟩ := r.dv j y q
      exact ⟨v, a, Den.mono s1 _ _ b⟩
  · by_cases z : i = j
    · subst z; rw [List.getElem?_set_self wl] at q; cases q
    · rw [List.getElem?_set_ne z] at q
      obtain ⟨p2, us, g1, g2, g3, g4, g5⟩ := r.ov j y q
      have : p2 ≠ p := fun w => by subst w; exact r.ne j i y xs p2 (Ne.symm z) q h g1 h1
      exact ⟨p2, us, g1, g2, by rw [upd_ne this]; exact g3, g4, DenL.mono s1 _ _ g5⟩
  · have ownAt : ∀ (j : Nat) (zs : List D), (e.set i (some (.d (.lst xs))))[j]? = some (some (.own zs)) → e[j]? = some (some (.own zs)) := fun j zs q => by
      by_cases z : i = j
      · subst z; rw [List.getElem?_set_self wl] at q; cases q
      · rw [List.getElem?_set_ne z] at q; exact q
    exact r.ne j k as bs q hjk (ownAt j as q1) (ownAt k bs q2) q3 q4
end
end L2.L3
set_option Elab.async false
set_option linter.all false
set_option maxRecDepth 100000
set_option maxHeartbeats 4000000
namespace L2.L3
open PySem PySem.Spec PyProof.Rows
def notStar : Expr → Bool
  | .Starred _ _ => false
  | _ => true
theorem star_of {e : Expr} {es : List Expr} {env : Env} (h : notStar e = true) : starEach (e :: es) env = (false, eval e env) :: starEach es env := by
  cases e <;> first | rfl | cases h
abbrev TD := En → (D → Prop) → Prop
abbrev TB := En → (Bool → Prop) → Prop
abbrev TDs := En → (List D → Prop) → Prop
structure Ends3 where
  nx : En → Prop
  rt : D → Prop
  bk : En → Prop := fun _ => False
  ct : En → Prop := fun _ => False
abbrev TS3 := Ends3 → En → Prop
def wE (X : Cx) (e : Expr) : TE := fun σ H Q => ∀ (pins : List (Addr × Obj)) (s : Shared), Inv X pins σ H s → wpAny (model X.prog X.w) X.A (eval e X.env) (EP X pins σ Q) X.xe s
def wT (X : Cx) (e : Expr) : TT := fun σ H Q => ∀ (pins : List (Addr × Obj)) (s : Shared), Inv X pins σ H s → wpAny (model X.prog X.w) X.A (isTrue e X.env (eval e X.env)) (TP X pins σ Q) X.xe s
def wW (X : Cx) (e : Expr) : TT := fun σ H Q => ∀ (whole : Sem Value) (pins : List (Addr × Obj)) (s : Shared), Inv X pins σ H s → wpAny (model X.prog X.w) X.A (isTrue e X.env whole) (TP X pins σ Q) X.xe s
def wA (X : Cx) (es : List Expr) : TA := fun σ H Q => ∀ (pos : Pos) (pins : List (Addr × Obj)) (s : Shared), Inv X pins σ H s → wpAny (model X.prog X.w) X.A (spliced (backTo pos (starEach es X.env))) (AP X pins σ Q) X.xe s
def wS (X : Cx) (st : Stmt) : TS := fun D σ H => ∀ (pins : List (Addr × Obj)) (s : Shared), Inv X pins σ H s → wpAny (model X.prog X.w) X.A (exec st X.env) (SP X pins D) X.xe s
def wSs (X : Cx) (st : List Stmt) : TS := fun D σ H => ∀ (pins : List (Addr × Obj)) (s : Shared), Inv X pins σ H s → wpAny (model X.prog X.w) X.A (execs st X.env) (SP X pins D) X.xe s
section
variable {X : Cx} {e : Expr} {es : List Expr} {st : Stmt} {sts : List Stmt} {σ : St} {H : Hp}
theorem pe_w : PE X e (wE X e) := fun pins s σ H Q I h => h pins s I
theorem pt_w : PT X e (wT X e) := fun pins s σ H Q I h => h pins s I
theorem pw_w : PW X e (wW X e) := fun wh pins s σ H Q I h => h wh pins s I
theorem pa_w : PA X es (wA X es) := fun pos pins s σ H Q I h => h pos pins s I
theorem ps_w : PS X st (wS X st) := fun pins s σ H D I h => h pins s I
theorem pss_w : PSs X sts (wSs X sts) := fun pins s σ H D I h => h pins s I
theorem wE_of {te : TE} {Q : VK} (h : PE X e te) (q : te σ H Q) : wE X e σ H Q := fun pins s I => h pins s σ H Q I q
theorem wT_of {te : TT} {Q : Bool → Hp → Prop} (h : PT X e te) (q : te σ H Q) : wT X e σ H Q := fun pins s I => h pins s σ H Q I q
theorem wW_of {te : TT} {Q : Bool → Hp → Prop} (h : PW X e te) (q : te σ H Q) : wW X e σ H Q := fun wh pins s I => h wh pins s σ H Q I q
theorem wA_of {te : TA} {Q : List V → Hp → Prop} (h : PA X es te) (q : te σ H Q) : wA X es σ H Q := fun pos pins s I => h pos pins s σ H Q I q
theorem wS_of {te : TS} {D : Ends} (h : PS X st te) (q : te D σ H) : wS X st D σ H := fun pins s I => h pins s σ H D I q
theorem wSs_of {te : TS} {D : Ends} (h : PSs X sts te) (q : te D σ H) : wSs X sts D σ H := fun pins s I => h pins s σ H D I q
theorem wE_mono {Q Q' : VK} (h : wE X e σ H Q) (i : ∀ v H', Q v H' → Q' v H') : wE X e σ H Q' := fun pins s I => thn (h pins s I) fun _ _ ⟨v, H', I', r, q⟩ => ⟨v, H', I', r, i v H' q⟩
theorem wT_mono {Q Q' : Bool → Hp → Prop} (h : wT X e σ H Q) (i : ∀ v H', Q v H' → Q' v H') : wT X e σ H Q' := fun pins s I => thn (h pins s I) fun b _ ⟨H', I', q⟩ => ⟨H', I', i b H' q⟩
theorem wW_mono {Q Q' : Bool → Hp → Prop} (h : wW X e σ H Q) (i : ∀ v H', Q v H' → Q' v H') : wW X e σ H Q' := fun wh pins s I => thn (h wh pins s I) fun b _ ⟨H', I', q⟩ => ⟨H', I', i b H' q⟩
theorem wA_mono {Q Q' : List V → Hp → Prop} (h : wA X es σ H Q) (i : ∀ v H', Q v H' → Q' v H') : wA X es σ H Q' := fun pos pins s I => thn (h pos pins s I) fun _ _ ⟨v, H', I', r, q⟩ => ⟨v, H', I', r, i v H' q⟩
theorem SP_mono {pins : List (Addr × Obj)} {D D' : Ends} {f : Flow} {s' : Shared} (h : SP X pins D f s') (nx : ∀ σ H, D.nx σ H → D'.nx σ H) (rt : ∀ v H, D.rt v H → D'.rt v H) (bk : ∀ σ H, D.bk σ H → D'.bk σ H) (ct : ∀ σ H, D.ct σ H → D'.ct σ H) : SP X pins D' f s' := by
  cases f with
  | next => obtain ⟨σ', H', I, q⟩ := h; exact ⟨σ', H', I, nx _ _ q⟩
  | brk => obtain ⟨σ', H', I, q⟩ := h; exact ⟨σ', H', I, bk _ _ q⟩
  | cont => obtain ⟨σ', H', I, q⟩ := h; exact ⟨σ', H', I, ct _ _ q⟩
  | ret u => obtain ⟨v, σ', H', I, r, q⟩ := h; exact ⟨v, σ', H', I, r, rt _ _ q⟩
theorem wS_mono {D D' : Ends} (h : wS X st D σ H) (nx : ∀ σ H, D.nx σ H → D'.nx σ H) (rt : ∀ v H, D.rt v H → D'.rt v H) (bk : ∀ σ H, D.bk σ H → D'.bk σ H) (ct : ∀ σ H, D.ct σ H → D'.ct σ H) : wS X st D' σ H :=
  fun pins s I => thn (h pins s I) fun _ _ q => SP_mono q nx rt bk ct
theorem wSs_mono {D D' : Ends} (h : wSs X sts D σ H) (nx : ∀ σ H, D.nx σ H → D'.nx σ H) (rt : ∀ v H, D.rt v H → D'.rt v H) (bk : ∀ σ H, D.bk σ H → D'.bk σ H) (ct : ∀ σ H, D.ct σ H → D'.ct σ H) : wSs X sts D' σ H :=
  fun pins s I => thn (h pins s I) fun _ _ q => SP_mono q nx rt bk ct
end
def RV (X : Cx) (B : Base) (σ : St) (env : En) (F : Hp) (Q : D → Prop) : VK := fun v H' => ∃ F' d, Rep X.K B F' H' σ env ∧ Same F F' ∧ Den X.K F' d v ∧ Q d
def RB (X : Cx) (B : Base) (σ : St) (env : En) (F : Hp) (Q : Bool → Prop) : Bool → Hp → Prop := fun b H' => ∃ F', Rep X.K B F' H' σ env ∧ Same F F' ∧ Q b
def RA (X : Cx) (B : Base) (σ : St) (env : En) (F : Hp) (Q : List D → Prop) : List V → Hp → Prop := fun vs H' => ∃ F' ds, Rep X.K B F' H' σ env ∧ Same F F' ∧ DenL X.K F' ds vs ∧ Q ds
def RS (X : Cx) (B : Base) (D : Ends3) : Ends where
  nx := fun σ' H' => ∃ F' env', Rep X.K B F' H' σ' env' ∧ D.nx env'
  rt := fun v H' => ∃ F' d, Rep X.K B F' H' [] [] ∧ Den X.K F' d v ∧ D.rt d
  bk := fun σ' H' => ∃ F' env', Rep X.K B F' H' σ' env' ∧ D.bk env'
  ct := fun σ' H' => ∃ F' env', Rep X.K B F' H' σ' env' ∧ D.ct env'
structure QE (X : Cx) (e : Expr) (t : TD) : Prop where
  of ::
  run : ∀ (B : Base) (σ : St) (F H : Hp) (env : En) (Q : D → Prop), Rep X.K B F H σ env → t env Q → wE X e σ H (RV X B σ env F Q)
instance {X : Cx} {e : Expr} {t : TD} : CoeFun (QE X e t) (fun _ => ∀ (B : Base) (σ : St) (F H : Hp) (env : En) (Q : D → Prop), Rep X.K B F H σ env → t env Q → wE X e σ H (RV X B σ env F Q)) := ⟨QE.run⟩
structure QT (X : Cx) (e : Expr) (t : TB) : Prop where
  of ::
  run : ∀ (B : Base) (σ : St) (F H : Hp) (env : En) (Q : Bool → Prop), Rep X.K B F H σ env → t env Q → wT X e σ H (RB X B σ env F Q)
instance {X : Cx} {e : Expr} {t : TB} : CoeFun (QT X e t) (fun _ => ∀ (B : Base) (σ : St) (F H : Hp) (env : En) (Q : Bool → Prop), Rep X.K B F H σ env → t env Q → wT X e σ H (RB X B σ env F Q)) := ⟨QT.run⟩
structure QW (X : Cx) (e : Expr) (t : TB) : Prop where
  of ::
  run : ∀ (B : Base) (σ : St) (F H : Hp) (env : En) (Q : Bool → Prop), Rep X.K B F H σ env → t env Q → wW X e σ H (RB X B σ env F Q)
instance {X : Cx} {e : Expr} {t : TB} : CoeFun (QW X e t) (fun _ => ∀ (B : Base) (σ : St) (F H : Hp) (env : En) (Q : Bool → Prop), Rep X.K B F H σ env → t env Q → wW X e σ H (RB X B σ env F Q)) := ⟨QW.run⟩
structure QA (X : Cx) (es : List Expr) (t : TDs) : Prop where
  of ::
  run : ∀ (B : Base) (σ : St) (F H : Hp) (env : En) (Q : List D → Prop), Rep X.K B F H σ env → t env Q → wA X es σ H (RA X B σ env F Q)
instance {X : Cx} {es : List Expr} {t : TDs} : CoeFun (QA X es t) (fun _ => ∀ (B : Base) (σ : St) (F H : Hp) (env : En) (Q : List D → Prop), Rep X.K B F H σ env → t env Q → wA X es σ H (RA X B σ env F Q)) := ⟨QA.run⟩
structure QS (X : Cx) (st : Stmt) (t : TS3) : Prop where
  of ::
  run : ∀ (B : Base) (σ : St) (F H : Hp) (env : En) (D : Ends3), Rep X.K B F H σ env → t D env → wS X st (RS X B D) σ H
instance {X : Cx} {st : Stmt} {t : TS3} : CoeFun (QS X st t) (fun _ => ∀ (B : Base) (σ : St) (F H : Hp) (env : En) (D : Ends3), Rep X.K B F H σ env → t D env → wS X st (RS X B D) σ H) := ⟨QS.run⟩
structure QSs (X : Cx) (st : List Stmt) (t : TS3) : Prop where
  of ::
  run : ∀ (B : Base) (σ : St) (F H : Hp) (env : En) (D : Ends3), Rep X.K B F H σ env → t D env → wSs X st (RS X B D) σ H
instance {X : Cx} {st : List Stmt} {t : TS3} : CoeFun (QSs X st t) (fun _ => ∀ (B : Base) (σ : St) (F H : Hp) (env : En) (D : Ends3), Rep X.K B F H σ env → t D env → wSs X st (RS X B D) σ H) := ⟨QSs.run⟩
section
variable {X : Cx} {a b c e : Expr} {es : List Expr} {ta tb tc : TD} {tA tB' : TB} {ts : TDs} {pos : Pos} {rest : List Expr}
def cVar (i : Nat) : TD := fun env Q => ∃ x, env[i]? = some (some (.d x)) ∧ Q x
def cC (x : D) : TD := fun _ Q => Q x
theorem qv (i : Nat) {x : Str} {pos : Pos} (hN : X.N[i]? = some x := by rfl) (hv : Vis X.env.scope x := by first | exact Or.inl rfl | exact Or.inr (Or.inl rfl) | exact Or.inr (Or.inr rfl)) (hd : (x == ("__debug__" : Str)) = false := by decide)
    (hcd : (x == ("__classdict__" : Str)) = false := by decide) : QE X (.Name x pos) (cVar i) := by
  refine ⟨?_⟩
  intro B σ F H env Q r ⟨x, hx, q⟩
  obtain ⟨v, hv', hd'⟩ := r.dv i x hx
  exact wE_of (pe_var hN hv hd hcd) ⟨v, hv', F, x, r, Same.refl _, hd', q⟩
theorem qc {te : TE} {v : V} {x : D} (h : PE X e (tC v)) (hd : ∀ F, Den X.K F x v) : QE X e (cC x) := ⟨fun B σ F H env Q r q => wE_of h ⟨F, x, r, Same.refl _, hd F, q⟩⟩
theorem qint {i j pos} : QE X (.Constant (.int i) j pos) (cC (.int i)) := qc (te := tC (.int i)) pe_int fun _ => den_int
theorem qbl {b j pos} : QE X (.Constant (.bool b) j pos) (cC (.bl b)) := qc (te := tC (.bl b)) pe_bl fun _ => den_bl
theorem qstr {x j pos} : QE X (.Constant (.str x) j pos) (cC (.str x)) := qc (te := tC (.str x)) pe_str fun _ => den_str
theorem qty {x : Str} {n : String} {pos : Pos} (hg : Gl X x) (hm : X.mg x = none) (hv : bootBuiltins x = some (.type n)) (hn : x ≠ "__name__" := by decide) (hd : (x == ("__debug__" : Str)) = false := by decide) : QE X (.Name x pos) (cC (.ty n)) :=
  qc (te := tC (.ty n)) (pe_bltn (v := .ty n) hg hm hv rfl hn hd) fun _ => den_ty
def Kont (X : Cx) (B : Base) (σ : St) (env : En) (F : Hp) (Q : D → Prop) (Z : VK) : Prop := ∀ (v : V) (H' F' : Hp) (d : D), Rep X.K B F' H' σ env → Same F F' → Den X.K F' d v → Q d → Z v H'
def Op3 (X : Cx) (r : R2) (f : D → D → (D → Prop) → Prop) : Prop := ∀ (B : Base) (σ : St) (F H : Hp) (env : En) (Q : D → Prop) (d d' : D) (x y : V) (Z : VK), Rep X.K B F H σ env → Den X.K F d x → Den X.K F d' y → Kont X B σ env F Q Z → f d d' Q → r x y H Z
def cOp (f : D → D → (D → Prop) → Prop) (ta tb : TD) : TD := fun env Q => ta env fun x => tb env fun y => f x y Q
theorem RV.weaken {B : Base} {σ : St} {env : En} {F F' : Hp} {Q : D → Prop} (s : Same F F') {v : V} {H : Hp} (h : RV X B σ env F' Q v H) : RV X B σ env F Q v H := by
  obtain ⟨G, d, r, s', hd, q⟩ := h
  exact ⟨G, d, r, s.trans s', hd, q⟩
theorem two {r : R2} {f : D → D → (D → Prop) → Prop} (hf : Op3 X r f) (ha : QE X a ta) (hb : QE X b tb) {B : Base} {σ : St} {F H : Hp} {env : En} {Q : D → Prop} {Z : VK} (rp : Rep X.K B F H σ env) (hz : Kont X B σ env F Q Z) (h : cOp f ta tb env Q) :
    tOp r (wE X a) (wE X b) σ H Z := by
  refine wE_mono (ha B σ F H env _ rp h) fun x H1 ⟨F1, d, r1, s1, d1, q1⟩ => ?_
  refine wE_mono (hb B σ F1 H1 env _ r1 q1) fun y H2 ⟨F2, d', r2, s2, d2, q2⟩ => ?_
  exact hf B σ F2 H2 env Q d d' x y Z r2 (Den.mono s2 _ _ d1) d2 (fun v H' F' d' r' s' => hz v H' F' d' r' ((s1.trans s2).trans s')) q2
theorem kRV {B : Base} {σ : St} {env : En} {F : Hp} {Q : D → Prop} : Kont X B σ env F Q (RV X B σ env F Q) := fun v H' F' d r s hd q => ⟨F', d, r, s, hd, q⟩
theorem q_op {op : Operator} {r : R2} {f : D → D → (D → Prop) → Prop} (ho : OpR X (binaryOp op) r) (hf : Op3 X r f) (ha : QE X a ta) (hb : QE X b tb) : QE X (.BinOp a op b pos) (cOp f ta tb) :=
  ⟨fun B σ F H env Q rp h => wE_of (pe_op ho pe_w pe_w) (two hf ha hb rp kRV h)⟩
theorem q_cmp {op : CmpOp} {r : R2} {f : D → D → (D → Prop) → Prop} (ho : OpR X (compareOp op) r) (hf : Op3 X r f) (ha : QE X a ta) (hb : QE X b tb) (hm : behindInMarks op b = false) : QE X (.Compare a [op] [b] pos) (cOp f ta tb) :=
  ⟨fun B σ F H env Q rp h => wE_of (pe_cmpR ho pe_w pe_w hm) (two hf ha hb rp kRV h)⟩
def cTest (t : TD) : TB := fun env Q => t env fun x => ∃ k, x = .bl k ∧ Q k
theorem den_bl_inv {K : PySem.W.Frag} {F : Hp} {k : Bool} {v : V} (h : Den K F (.bl k) v) : v = .bl k := by simpa only [Den] using h
theorem qt_cmp {op : CmpOp} {r : R2} {f : D → D → (D → Prop) → Prop} (ho : OpR X (compareOp op) r) (hf : Op3 X r f) (ha : QE X a ta) (hb : QE X b tb) (hm : behindInMarks op b = false) : QT X (.Compare a [op] [b] pos) (cTest (cOp f ta tb)) := by
  refine ⟨?_⟩
  intro B σ F H env Q rp h
  refine wT_of (pt_cmpR ho pe_w pe_w hm) ?_
  show tOp r (wE X a) (wE X b) σ H fun x H' => ∃ k, x = .bl k ∧ RB X B σ env F Q k H'
  refine two hf ha hb rp (fun v H' F' d r' s' hd q => ?_) h
  obtain ⟨k, rfl, q⟩ := q
  exact ⟨k, den_bl_inv hd, F', r', s', q⟩
theorem qt_val {t : TD} (h : QE X e t) (he : ∀ whole, isTrue e X.env whole = (do let v ← whole; standAt e.pos; holding [v] (truthy v)) := by intro _; rfl) : QT X e (cTest t) := by
  refine ⟨?_⟩
  intro B σ F H env Q rp hq
  refine wT_of (pt_val pe_w he) ?_
  refine wE_mono (h B σ F H env _ rp hq) fun v H' w => ?_
  obtain ⟨F', d, r', s', hd, k, rfl, q⟩ := w
  exact ⟨k, den_bl_inv hd, F', r', s', q⟩
def cAnd (t u : TB) : TB := fun env Q => t env fun k => if k = true then u env Q else Q false
def cOr (t u : TB) : TB := fun env Q => t env fun k => if k = true then Q true else u env Q
def cNot (t : TB) : TB := fun env Q => t env fun k => Q (!k)
theorem QW.t (h : QW X e tA) : QT X e tA := ⟨fun B σ F H env Q rp hq pins s I => h B σ F H env Q rp hq _ pins s I⟩
theorem qw_and1 (ha : QT X a tA) : QW X (.BoolOp .And [a] pos) tA := ⟨fun B σ F H env Q rp h => wW_of (pw_and1 pt_w) (ha B σ F H env Q rp h)⟩
theorem qw_or1 (ha : QT X a tA) : QW X (.BoolOp .Or [a] pos) tA := ⟨fun B σ F H env Q rp h => wW_of (pw_or1 pt_w) (ha B σ F H env Q rp h)⟩
theorem qw_and (ha : QT X a tA) (hb : QW X (.BoolOp .And (b :: rest) pos) tB') : QW X (.BoolOp .And (a :: b :: rest) pos) (cAnd tA tB') := by
  refine ⟨?_⟩
  intro B σ F H env Q rp h
  refine wW_of (pw_and pt_w pw_w) ?_
  refine wT_mono (ha B σ F H env _ rp h) fun k H1 ⟨F1, r1, s1, q1⟩ => ?_
  cases k with
  | true => exact wW_mono (hb B σ F1 H1 env Q r1 q1) fun k2 H2 ⟨F2, r2, s2, q2⟩ => ⟨F2, r2, s1.trans s2, q2⟩
  | false => exact ⟨F1, r1, s1, q1⟩
theorem qw_or (ha : QT X a tA) (hb : QW X (.BoolOp .Or (b :: rest) pos) tB') : QW X (.BoolOp .Or (a :: b :: rest) pos) (cOr tA tB') := by
  refine ⟨?_⟩
  intro B σ F H env Q rp h
  refine wW_of (pw_or pt_w pw_w) ?_
  refine wT_mono (ha B σ F H env _ rp h) fun k H1 ⟨F1, r1, s1, q1⟩ => ?_
  cases k with
  | false => exact wW_mono (hb B σ F1 H1 env Q r1 q1) fun k2 H2 ⟨F2, r2, s2, q2⟩ => ⟨F2, r2, s1.trans s2, q2⟩
  | true => exact ⟨F1, r1, s1, q1⟩
theorem qt_not (ha : QT X a tA) : QT X (.UnaryOp .Not a pos) (cNot tA) := ⟨fun B σ F H env Q rp h => wT_of (pt_not pt_w) (wT_mono (ha B σ F H env _ rp h) fun k H1 q => q)⟩
def cAndV (t u : TD) : TD := fun env Q => t env fun x => ∃ k, x = .bl k ∧ if k = true then u env Q else Q (.bl false)
def cOrV (t u : TD) : TD := fun env Q => t env fun x => ∃ k, x = .bl k ∧ if k = true then Q (.bl true) else u env Q
def cNotV (t : TD) : TD := fun env Q => t env fun x => ∃ k, x = .bl k ∧ Q (.bl (!k))
theorem qe_one {op} (h : QE X a ta) : QE X (.BoolOp op [a] pos) ta := ⟨fun B σ F H env Q rp q => wE_of (pe_one pe_w) (h B σ F H env Q rp q)⟩
theorem qe_and (ha : QE X a ta) (hb : QE X (.BoolOp .And (b :: rest) pos) tb) : QE X (.BoolOp .And (a :: b :: rest) pos) (cAndV ta tb) := by
  refine ⟨?_⟩
  intro B σ F H env Q rp h
  refine wE_of (pe_and pe_w pe_w) ?_
  refine wE_mono (ha B σ F H env _ rp h) fun v H1 ⟨F1, d, r1, s1, d1, k, hk, q1⟩ => ?_
  subst hk
  refine ⟨k, den_bl_inv d1, ?_⟩
  cases k with
  | true => exact wE_mono (hb B σ F1 H1 env Q r1 q1) fun v H2 z => z.weaken s1
  | false => exact ⟨F1, _, r1, s1, den_bl, q1⟩
theorem qe_or (ha : QE X a ta) (hb : QE X (.BoolOp .Or (b :: rest) pos) tb) : QE X (.BoolOp .Or (a :: b :: rest) pos) (cOrV ta tb) := by
  refine ⟨?_⟩
  intro B σ F H env Q rp h
  refine wE_of (pe_or pe_w pe_w) ?_
  refine wE_mono (ha B σ F H env _ rp h) fun v H1 ⟨F1, d, r1, s1, d1, k, hk, q1⟩ => ?_
  subst hk
  refine ⟨k, den_bl_inv d1, ?_⟩
  cases k with
  | false => exact wE_mono (hb B σ F1 H1 env Q r1 q1) fun v H2 z => z.weaken s1
  | true => exact ⟨F1, _, r1, s1, den_bl, q1⟩
theorem qe_not (ha : QE X a ta) : QE X (.UnaryOp .Not a pos) (cNotV ta) := by
  refine ⟨?_⟩
  intro B σ F H env Q rp h
  refine wE_of (pe_not pe_w) ?_
  refine wE_mono (ha B σ F H env _ rp h) fun v H1 ⟨F1, d, r1, s1, d1, k, hk, q1⟩ => ?_
  subst hk
  exact ⟨k, den_bl_inv d1, F1, _, r1, s1, den_bl, q1⟩
def cIf (t : TB) (ta tb : TD) : TD := fun env Q => t env fun k => if k = true then ta env Q else tb env Q
def cNil : TDs := fun _ Q => Q []
def cCons (ta : TD) (tr : TDs) : TDs := fun env Q => ta env fun x => tr env fun xs => Q (x :: xs)
theorem qa_nil : QA X [] cNil := ⟨fun B σ F H env Q rp h => wA_of pa_nil ⟨F, [], rp, Same.refl _, denL_nil, h⟩⟩
theorem qa_cons (ha : QE X e ta) (hr : QA X es ts) (hs : starEach (e :: es) X.env = (false, eval e X.env) :: starEach es X.env := by exact star_of rfl) : QA X (e :: es) (cCons ta ts) := by
  refine ⟨?_⟩
  intro B σ F H env Q rp h
  refine wA_of (pa_cons pe_w pa_w hs) ?_
  refine wE_mono (ha B σ F H env _ rp h) fun x H1 ⟨F1, d, r1, s1, d1, q1⟩ => ?_
  exact wA_mono (hr B σ F1 H1 env _ r1 q1) fun xs H2 ⟨F2, ds, r2, s2, d2, q2⟩ => ⟨F2, d :: ds, r2, s1.trans s2, denL_cons (Den.mono s2 _ _ d1) d2, q2⟩
def cTup (t : TDs) : TD := fun env Q => t env fun xs => xs.length ≤ sizeLine ∧ Q (.tup xs)
def cLst (t : TDs) : TD := fun env Q => t env fun xs => xs.length ≤ sizeLine ∧ Q (.lst xs)
theorem RV.newTup {B : Base} {σ : St} {env : En} {F H : Hp} {Q : D → Prop} {ds : List D} {vs : List V} (r : Rep X.K B F H σ env) (hd : DenL X.K F ds vs) (q : Q (.tup ds)) : ∀ p, H p = none → RV X B σ env F Q (.ref p) (upd H p (.tup vs)) := fun p hp => by
  obtain ⟨r2, s2⟩ := r.laid (o := .tup vs) hp
  exact ⟨_, _, r2, s2, den_tup (SqT.of upd_same) (DenL.mono s2 _ _ hd), q⟩
theorem RV.newLst {B : Base} {σ : St} {env : En} {F H : Hp} {Q : D → Prop} {ds : List D} {vs : List V} (r : Rep X.K B F H σ env) (hd : DenL X.K F ds vs) (q : Q (.lst ds)) : ∀ p, H p = none → RV X B σ env F Q (.ref p) (upd H p (.lst vs)) := fun p hp => by
  obtain ⟨r2, s2⟩ := r.laid (o := .lst vs) hp
  exact ⟨_, _, r2, s2, den_lst (SqL.of upd_same) (DenL.mono s2 _ _ hd), q⟩
theorem qe_tup {x1} (h : QA X es ts) : QE X (.Tuple es x1 pos) (cTup ts) := by
  refine ⟨?_⟩
  intro B σ F H env Q rp hq
  refine wE_of (pe_tup pa_w) ?_
  refine wA_mono (h B σ F H env _ rp hq) fun vs H1 ⟨F1, ds, r1, s1, d1, z, q1⟩ => ⟨by rw [← d1.length]; exact z, fun p hp => (RV.newTup r1 d1 q1 p hp).weaken s1⟩
theorem qe_lst (h : QA X es ts) : QE X (.List es pos) (cLst ts) := by
  refine ⟨?_⟩
  intro B σ F H env Q rp hq
  refine wE_of (pe_lst pa_w) ?_
  refine wA_mono (h B σ F H env _ rp hq) fun vs H1 ⟨F1, ds, r1, s1, d1, z, q1⟩ => ⟨by rw [← d1.length]; exact z, fun p hp => (RV.newLst r1 d1 q1 p hp).weaken s1⟩
end
end L2.L3
set_option Elab.async false
set_option linter.all false
set_option maxRecDepth 100000
set_option maxHeartbeats 4000000
namespace L2.L3
open PySem PySem.Spec PyProof.Rows
mutual
def eqD : D → D → Bool
  | .non, .non => true
  | .bl a, .bl b => a == b
  | .bl a, .int b => (if a then 1 else 0) == b
  | .int a, .bl b => a == (if b then 1 else 0)
  | .int a, .int b => a == b
  | .str a, .str b => a == b
  | .tup a, .tup b => eqDs a b
  | .lst a, .lst b => eqDs a b
  | _, _ => false
def eqDs : List D → List D → Bool
  | [], [] => true
  | a :: as, b :: bs => eqD a b && eqDs as bs
  | _, _ => false
end
mutual
def dep : D → Nat
  | .tup ds => depL ds + 1
  | .lst ds => depL ds + 1
  | .dct _ _ => 1000
  | .ty _ => 1000
  | .exc _ => 1000
  | .cls _ => 1000
  | _ => 0
def depL : List D → Nat
  | [] => 0
  | d :: ds => max (dep d) (depL ds)
end
def eAt (ds es : List D) (j : Nat) : Bool := match ds[j]?, es[j]? with
  | some a, some b => eqD a b
  | _, _ => true
theorem range_all_succ (n : Nat) (e : Nat → Bool) : (List.range (n + 1)).all e = (e 0 && (List.range n).all fun i => e (i + 1)) := by
  rw [List.range_succ_eq_map, List.all_cons, List.all_map]; rfl
theorem all_eAt : ∀ ds es : List D, ((List.range (min ds.length es.length)).all (eAt ds es) && (ds.length == es.length)) = eqDs ds es
  | [], [] => by simp [eqDs]
  | [], b :: es => by simp [eqDs]
  | a :: ds, [] => by simp [eqDs]
  | a :: ds, b :: es => by
    have ih := all_eAt ds es
    rw [List.length_cons, List.length_cons, Nat.succ_min_succ, range_all_succ]
    have e1 : eAt (a :: ds) (b :: es) 0 = eqD a b := by simp [eAt]
    have e2 : (fun i => eAt (a :: ds) (b :: es) (i + 1)) = eAt ds es := by funext i; simp [eAt]
    have e3 : (ds.length + 1 == es.length + 1) = (ds.length == es.length) := by
      rw [Bool.eq_iff_iff]; simp
    rw [e1, e2, e3, Bool.and_assoc, ih, eqDs]
section
variable {X : Cx} {pins : List (Addr × Obj)} {σ : St} {H F : Hp} {s : Shared}
theorem Inv.tupNoLst (I : Inv X pins σ H s) {a : Addr} {xs ys : List V} (h : SqT X.K H a xs) (h' : SqL X.K H a ys) : False := by
  obtain ⟨_, _, ⟨o, e1, c1, _⟩, _⟩ := I.tuple h
  obtain ⟨_, _, ⟨o2, _, e2, c2, _⟩, _⟩ := I.list h'
  rw [e1] at e2; cases e2; rw [c1] at c2; injection c2 with z; exact absurd z (by decide)
mutual
theorem den_inj (I : Inv X pins σ H s) (fh : Same F H) : ∀ (d d' : D) (v : V), dep d < 1000 → dep d' < 1000 → Den X.K F d v → Den X.K F d' v → eqD d d' = true
  | .non, d', v, h1, h2, e1, e2 => by
    simp only [Den] at e1; subst e1
    cases d' <;> simp only [Den] at e2 <;> first | rfl | (obtain ⟨a, vs, z, _⟩ := e2; cases z; done) | (obtain ⟨a, z, _⟩ := e2; cases z; done) | cases e2
  | .bl b, d', v, h1, h2, e1, e2 => by
    simp only [Den] at e1; subst e1
    cases d' <;> simp only [Den] at e2 <;> first | (obtain ⟨a, vs, z, _⟩ := e2; cases z; done) | (obtain ⟨a, z, _⟩ := e2; cases z; done) | (cases e2; simp [eqD]; done) | cases e2
  | .int b, d', v, h1, h2, e1, e2 => by
    simp only [Den] at e1; subst e1
    cases d' <;> simp only [Den] at e2 <;> first | (obtain ⟨a, vs, z, _⟩ := e2; cases z; done) | (obtain ⟨a, z, _⟩ := e2; cases z; done) | (cases e2; simp [eqD]; done) | cases e2
  | .str b, d', v, h1, h2, e1, e2 => by
    simp only [Den] at e1; subst e1
    cases d' <;> simp only [Den] at e2 <;> first | (obtain ⟨a, vs, z, _⟩ := e2; cases z; done) | (obtain ⟨a, z, _⟩ := e2; cases z; done) | (cases e2; simp [eqD]; done) | cases e2
  | .ty b, d', v, h1, h2, e1, e2 => by simp [dep] at h1
  | .exc b, d', v, h1, h2, e1, e2 => by simp [dep] at h1
  | .cls b, d', v, h1, h2, e1, e2 => by simp [dep] at h1
  | .dct _ _, d', v, h1, h2, e1, e2 => by simp [dep] at h1
  | .tup ds, d', v, h1, h2, e1, e2 => by
    simp only [Den] at e1
    obtain ⟨a, vs, rfl, q, r⟩ := e1
    cases d' with
    | tup es =>
      simp only [Den] at e2
      obtain ⟨a', us, z, q', r'⟩ := e2
      cases z
      have := I.tuple_inj (Same.seqT fh q) (Same.seqT fh q')
      subst this
      simp only [eqD]
      exact denL_inj I fh ds es vs (by simp [dep] at h1; omega) (by simp [dep] at h2; omega) r r'
    | lst es =>
      simp only [Den] at e2
      obtain ⟨a', us, z, q', r'⟩ := e2
      cases z
      exact (Inv.tupNoLst I (Same.seqT fh q) (fh.seq q')).elim
    | dct _ _ => simp [dep] at h2
    | exc _ => simp [dep] at h2
    | cls _ => simp [dep] at h2
    | _ => simp only [Den] at e2; cases e2
  | .lst ds, d', v, h1, h2, e1, e2 => by
    simp only [Den] at e1
    obtain ⟨a, vs, rfl, q, r⟩ := e1
    cases d' with
    | lst es =>
      simp only [Den] at e2
      obtain ⟨a', us, z, q', r'⟩ := e2
      cases z
      have := I.list_inj (fh.seq q) (fh.seq q')
      subst this
      simp only [eqD]
      exact denL_inj I fh ds es vs (by simp [dep] at h1; omega) (by simp [dep] at h2; omega) r r'
    | tup es =>
      simp only [Den] at e2
      obtain ⟨a', us, z, q', r'⟩ := e2
      cases z
      exact (Inv.tupNoLst I (Same.seqT fh q') (fh.seq q)).elim
    | dct _ _ => simp [dep] at h2
    | exc _ => simp [dep] at h2
    | cls _ => simp [dep] at h2
    | _ => simp only [Den] at e2; cases e2
theorem denL_inj (I : Inv X pins σ H s) (fh : Same F H) : ∀ (ds es : List D) (vs : List V), depL ds < 1000 → depL es < 1000 → DenL X.K F ds vs → DenL X.K F es vs → eqDs ds es = true
  | [], es, vs, h1, h2, e1, e2 => by
    simp only [DenL] at e1; subst e1
    cases es with
    | nil => rfl
    | cons _ _ => simp only [DenL] at e2; obtain ⟨_, _, z, _⟩ := e2; cases z
  | d :: ds, es, vs, h1, h2, e1, e2 => by
    simp only [DenL] at e1
    obtain ⟨v, r, rfl, a, b⟩ := e1
    cases es with
    | nil => simp only [DenL] at e2; cases e2
    | cons e es =>
      simp only [DenL] at e2
      obtain ⟨v', r', z, a', b'⟩ := e2
      cases z
      simp only [depL] at h1 h2
      simp only [eqDs, Bool.and_eq_true]
      exact ⟨den_inj I fh d e v (by omega) (by omega) a a', denL_inj I fh ds es r (by omega) (by omega) b b'⟩
end
theorem units_in1 (A : Around) : A.in1.units = A.units + 1 := rfl
mutual
theorem rcAt (I : Inv X pins σ H s) (fh : Same F H) : ∀ (d d' : D) (A : Around) (x y : V) (u v : Value), A.units + dep d < cLine → dep d < 1000 → dep d' < 1000 → Den X.K F d x → Den X.K F d' y → RelV x u → RelV y v →
    SeqAt.RcAt A s u v (eqD d d') ∧ SeqAt.RcNeAt A s u v (!eqD d d')
  | .ty _, d', A, x, y, u, v, hu, h1, h2, e1, e2, r1, r2 => by simp [dep] at h1
  | .exc _, d', A, x, y, u, v, hu, h1, h2, e1, e2, r1, r2 => by simp [dep] at h1
  | .cls _, d', A, x, y, u, v, hu, h1, h2, e1, e2, r1, r2 => by simp [dep] at h1
  | .dct _ _, d', A, x, y, u, v, hu, h1, h2, e1, e2, r1, r2 => by simp [dep] at h1
  | .non, d', A, x, y, u, v, hu, h1, h2, e1, e2, r1, r2 => by
    simp only [Den] at e1; subst e1; cases r1
    have hu0 : A.units < cLine := by omega
    cases d' with
    | ty _ => simp [dep] at h2
    | dct _ _ => simp [dep] at h2
    | exc _ => simp [dep] at h2
    | cls _ => simp [dep] at h2
    | non => simp only [Den] at e2; subst e2; cases r2; exact ⟨SeqAt.RcAt.none_none, SeqAt.RcNeAt.none_none⟩
    | bl b => simp only [Den] at e2; subst e2; cases r2; exact ⟨SeqAt.RcAt.none_bool b, SeqAt.RcNeAt.none_bool b⟩
    | int b => simp only [Den] at e2; subst e2; obtain ⟨t, rfl⟩ := r2; exact ⟨SeqAt.RcAt.none_int b t, SeqAt.RcNeAt.none_int b t⟩
    | str b => simp only [Den] at e2; subst e2; obtain ⟨t, rfl⟩ := r2; exact ⟨SeqAt.RcAt.none_str b t, SeqAt.RcNeAt.none_str b t⟩
    | tup es =>
      simp only [Den] at e2; obtain ⟨a, vs, rfl, q, r⟩ := e2; cases r2
      obtain ⟨its, rv, ht, hz⟩ := I.tuple (Same.seqT fh q)
      exact ⟨SeqAt.RcAt.none_tuple ht hu0, SeqAt.RcNeAt.none_tuple ht hu0⟩
    | lst es =>
      simp only [Den] at e2; obtain ⟨a, vs, rfl, q, r⟩ := e2; cases r2
      obtain ⟨its, rv, ht, hz⟩ := I.list (fh.seq q)
      exact ⟨SeqAt.RcAt.none_list ht.isList hu0, SeqAt.RcNeAt.none_list ht.isList hu0⟩
  | .bl b', d', A, x, y, u, v, hu, h1, h2, e1, e2, r1, r2 => by
    simp only [Den] at e1; subst e1; cases r1
    have hu0 : A.units < cLine := by omega
    cases d' with
    | ty _ => simp [dep] at h2
    | dct _ _ => simp [dep] at h2
    | exc _ => simp [dep] at h2
    | cls _ => simp [dep] at h2
    | non => simp only [Den] at e2; subst e2; cases r2; exact ⟨SeqAt.RcAt.bool_none b', SeqAt.RcNeAt.bool_none b'⟩
    | bl b => simp only [Den] at e2; subst e2; cases r2; exact ⟨by simpa only [eqD] using SeqAt.RcAt.bool_bool b' b, by simpa only [eqD] using SeqAt.RcNeAt.bool_bool b' b⟩
    | int b => simp only [Den] at e2; subst e2; obtain ⟨t, rfl⟩ := r2; exact ⟨by simpa only [eqD] using SeqAt.RcAt.bool_int b' b t, by simpa only [eqD] using SeqAt.RcNeAt.bool_int b' b t⟩
    | str b => simp only [Den] at e2; subst e2; obtain ⟨t, rfl⟩ := r2; exact ⟨SeqAt.RcAt.bool_str b' b t, SeqAt.RcNeAt.bool_str b' b t⟩
    | tup es =>
      simp only [Den] at e2; obtain ⟨a, vs, rfl, q, r⟩ := e2; cases r2
      obtain ⟨its, rv, ht, hz⟩ := I.tuple (Same.seqT fh q)
      exact ⟨SeqAt.RcAt.bool_tuple b' ht hu0, SeqAt.RcNeAt.bool_tuple b' ht hu0⟩
    | lst es =>
      simp only [Den] at e2; obtain ⟨a, vs, rfl, q, r⟩ := e2; cases r2
      obtain ⟨its, rv, ht, hz⟩ := I.list (fh.seq q)
      exact ⟨SeqAt.RcAt.bool_list b' ht.isList hu0, SeqAt.RcNeAt.bool_list b' ht.isList hu0⟩
  | .int b', d', A, x, y, u, v, hu, h1, h2, e1, e2, r1, r2 => by
    simp only [Den] at e1; subst e1; obtain ⟨t', rfl⟩ := r1
    have hu0 : A.units < cLine := by omega
    cases d' with
    | ty _ => simp [dep] at h2
    | dct _ _ => simp [dep] at h2
    | exc _ => simp [dep] at h2
    | cls _ => simp [dep] at h2
    | non => simp only [Den] at e2; subst e2; cases r2; exact ⟨SeqAt.RcAt.int_none b' t', SeqAt.RcNeAt.int_none b' t'⟩
    | bl b => simp only [Den] at e2; subst e2; cases r2; exact ⟨by simpa only [eqD] using SeqAt.RcAt.int_bool b' t' b, by simpa only [eqD] using SeqAt.RcNeAt.int_bool b' t' b⟩
    | int b => simp only [Den] at e2; subst e2; obtain ⟨t, rfl⟩ := r2; exact ⟨by simpa only [eqD] using SeqAt.RcAt.int_int b' t' b t, by simpa only [eqD] using SeqAt.RcNeAt.int_int b' t' b t⟩
    | str b => simp only [Den] at e2; subst e2; obtain ⟨t, rfl⟩ := r2; exact ⟨SeqAt.RcAt.int_str b' t' b t, SeqAt.RcNeAt.int_str b' t' b t⟩
    | tup es =>
      simp only [Den] at e2; obtain ⟨a, vs, rfl, q, r⟩ := e2; cases r2
      obtain ⟨its, rv, ht, hz⟩ := I.tuple (Same.seqT fh q)
      exact ⟨SeqAt.RcAt.int_tuple b' t' ht hu0, SeqAt.RcNeAt.int_tuple b' t' ht hu0⟩
    | lst es =>
      simp only [Den] at e2; obtain ⟨a, vs, rfl, q, r⟩ := e2; cases r2
      obtain ⟨its, rv, ht, hz⟩ := I.list (fh.seq q)
      exact ⟨SeqAt.RcAt.int_list b' t' ht.isList hu0, SeqAt.RcNeAt.int_list b' t' ht.isList hu0⟩
  | .str b', d', A, x, y, u, v, hu, h1, h2, e1, e2, r1, r2 => by
    simp only [Den] at e1; subst e1; obtain ⟨t', rfl⟩ := r1
    have hu0 : A.units < cLine := by omega
    cases d' with
    | ty _ => simp [dep] at h2
    | dct _ _ => simp [dep] at h2
    | exc _ => simp [dep] at h2
    | cls _ => simp [dep] at h2
    | non => simp only [Den] at e2; subst e2; cases r2; exact ⟨SeqAt.RcAt.str_none b' t', SeqAt.RcNeAt.str_none b' t'⟩
    | bl b => simp only [Den] at e2; subst e2; cases r2; exact ⟨SeqAt.RcAt.str_bool b' t' b, SeqAt.RcNeAt.str_bool b' t' b⟩
    | int b => simp only [Den] at e2; subst e2; obtain ⟨t, rfl⟩ := r2; exact ⟨SeqAt.RcAt.str_int b' t' b t, SeqAt.RcNeAt.str_int b' t' b t⟩
    | str b => simp only [Den] at e2; subst e2; obtain ⟨t, rfl⟩ := r2; exact ⟨by simpa only [eqD] using SeqAt.RcAt.str_str b' t' b t, by simpa only [eqD] using SeqAt.RcNeAt.str_str b' t' b t⟩
    | tup es =>
      simp only [Den] at e2; obtain ⟨a, vs, rfl, q, r⟩ := e2; cases r2
      obtain ⟨its, rv, ht, hz⟩ := I.tuple (Same.seqT fh q)
      exact ⟨SeqAt.RcAt.str_tuple b' t' ht hu0, SeqAt.RcNeAt.str_tuple b' t' ht hu0⟩
    | lst es =>
      simp only [Den] at e2; obtain ⟨a, vs, rfl, q, r⟩ := e2; cases r2
      obtain ⟨its, rv, ht, hz⟩ := I.list (fh.seq q)
      exact ⟨SeqAt.RcAt.str_list b' t' ht.isList hu0, SeqAt.RcNeAt.str_list b' t' ht.isList hu0⟩
  | .tup ds, d', A, x, y, u, v, hu, h1, h2, e1, e2, r1, r2 => by
    simp only [Den] at e1; obtain ⟨a1, vs1, rfl, q1, g1⟩ := e1; cases r1
    obtain ⟨its1, rv1, ht1, hz1⟩ := I.tuple (Same.seqT fh q1)
    simp only [dep] at hu h1
    have hu0 : A.units < cLine := by omega
    cases d' with
    | ty _ => simp [dep] at h2
    | dct _ _ => simp [dep] at h2
    | exc _ => simp [dep] at h2
    | cls _ => simp [dep] at h2
    | non => simp only [Den] at e2; subst e2; cases r2; exact ⟨SeqAt.RcAt.tuple_none ht1 hu0, SeqAt.RcNeAt.tuple_none ht1 hu0⟩
    | bl b => simp only [Den] at e2; subst e2; cases r2; exact ⟨SeqAt.RcAt.tuple_bool b ht1 hu0, SeqAt.RcNeAt.tuple_bool b ht1 hu0⟩
    | int b => simp only [Den] at e2; subst e2; obtain ⟨t, rfl⟩ := r2; exact ⟨SeqAt.RcAt.tuple_int b t ht1 hu0, SeqAt.RcNeAt.tuple_int b t ht1 hu0⟩
    | str b => simp only [Den] at e2; subst e2; obtain ⟨t, rfl⟩ := r2; exact ⟨SeqAt.RcAt.tuple_str b t ht1 hu0, SeqAt.RcNeAt.tuple_str b t ht1 hu0⟩
    | lst es =>
      simp only [Den] at e2; obtain ⟨a, vs, rfl, q, r⟩ := e2; cases r2
      obtain ⟨its, rv, ht, hz⟩ := I.list (fh.seq q)
      exact ⟨SeqAt.RcAt.tuple_list ht1 ht.isList hu0, SeqAt.RcNeAt.tuple_list ht1 ht.isList hu0⟩
    | tup es =>
      simp only [Den] at e2; obtain ⟨a, vs, rfl, q, r⟩ := e2; cases r2
      obtain ⟨its, rv, ht, hz⟩ := I.tuple (Same.seqT fh q)
      simp only [dep] at h2
      have he := eqAts I fh ds es A.in1 vs1 vs its1 its (by rw [units_in1]; omega) (by omega) (by omega) g1 r rv1 rv
      have l1 : its1.length = ds.length := by rw [g1.length, rv1.length]
      have l2 : its.length = es.length := by rw [r.length, rv.length]
      have k1 := SeqAt.RcAt.tuples (e := eAt ds es) ht1 ht hu0 (fun j h1 h2 => he j (by simpa using h1) (by simpa using h2))
      have k2 := SeqAt.RcNeAt.tuples (e := eAt ds es) ht1 ht hu0 (fun j h1 h2 => he j (by simpa using h1) (by simpa using h2))
      rw [List.size_toArray, List.size_toArray, l1, l2, all_eAt] at k1 k2
      exact ⟨by simpa only [eqD] using k1, by simpa only [eqD] using k2⟩
  | .lst ds, d', A, x, y, u, v, hu, h1, h2, e1, e2, r1, r2 => by
    simp only [Den] at e1; obtain ⟨a1, vs1, rfl, q1, g1⟩ := e1; cases r1
    obtain ⟨its1, rv1, ht1, hz1⟩ := I.list (fh.seq q1)
    simp only [dep] at hu h1
    have hu0 : A.units < cLine := by omega
    cases d' with
    | ty _ => simp [dep] at h2
    | dct _ _ => simp [dep] at h2
    | exc _ => simp [dep] at h2
    | cls _ => simp [dep] at h2
    | non => simp only [Den] at e2; subst e2; cases r2; exact ⟨SeqAt.RcAt.list_none ht1.isList hu0, SeqAt.RcNeAt.list_none ht1.isList hu0⟩
    | bl b => simp only [Den] at e2; subst e2; cases r2; exact ⟨SeqAt.RcAt.list_bool b ht1.isList hu0, SeqAt.RcNeAt.list_bool b ht1.isList hu0⟩
    | int b => simp only [Den] at e2; subst e2; obtain ⟨t, rfl⟩ := r2; exact ⟨SeqAt.RcAt.list_int b t ht1.isList hu0, SeqAt.RcNeAt.list_int b t ht1.isList hu0⟩
    | str b => simp only [Den] at e2; subst e2; obtain ⟨t, rfl⟩ := r2; exact ⟨SeqAt.RcAt.list_str b t ht1.isList hu0, SeqAt.RcNeAt.list_str b t ht1.isList hu0⟩
    | tup es =>
      simp only [Den] at e2; obtain ⟨a, vs, rfl, q, r⟩ := e2; cases r2
      obtain ⟨its, rv, ht, hz⟩ := I.tuple (Same.seqT fh q)
      exact ⟨SeqAt.RcAt.list_tuple ht1.isList ht hu0, SeqAt.RcNeAt.list_tuple ht1.isList ht hu0⟩
    | lst es =>
      simp only [Den] at e2; obtain ⟨a, vs, rfl, q, r⟩ := e2; cases r2
      obtain ⟨its, rv, ht, hz⟩ := I.list (fh.seq q)
      simp only [dep] at h2
      have he := eqAts I fh ds es A.in1 vs1 vs its1 its (by rw [units_in1]; omega) (by omega) (by omega) g1 r rv1 rv
      have l1 : its1.length = ds.length := by rw [g1.length, rv1.length]
      have l2 : its.length = es.length := by rw [r.length, rv.length]
      simp only [eqD]
      rw [← all_eAt]
      by_cases hsz : ds.length = es.length
      · have k1 := SeqAt.RcAt.lists (e := eAt ds es) ht1.isList ht.isList (by simp [l1, l2, hsz]) hu0 (fun j h1 h2 => he j (by simpa using h1) (by simpa using h2))
        have k2 := SeqAt.RcNeAt.lists (e := eAt ds es) ht1.isList ht.isList (by simp [l1, l2, hsz]) hu0 (fun j h1 h2 => he j (by simpa using h1) (by simpa using h2))
        rw [List.size_toArray, l1] at k1 k2
        have e : (ds.length == es.length) = true := by simp [hsz]
        rw [e, Bool.and_true, ← hsz, Nat.min_self]
        exact ⟨k1, k2⟩
      · have e : (ds.length == es.length) = false := by simp [hsz]
        rw [e, Bool.and_false]
        have e2 : (its1.toArray.size != its.toArray.size) = true := by simp [l1, l2, hsz]
        exact ⟨SeqAt.RcAt.lists_lengths ht1.isList ht.isList e2 hu0, SeqAt.RcNeAt.lists_lengths ht1.isList ht.isList e2 hu0⟩
theorem eqAts (I : Inv X pins σ H s) (fh : Same F H) : ∀ (ds es : List D) (A : Around) (xs ys : List V) (us vs : List Value), A.units + depL ds < cLine → depL ds < 1000 → depL es < 1000 → DenL X.K F ds xs → DenL X.K F es ys → Vals xs us → Vals ys vs →
    ∀ (j : Nat) (h1 : j < us.length) (h2 : j < vs.length), SeqAt.EqAt A s us[j] vs[j] (eAt ds es j)
  | [], es, A, xs, ys, us, vs, hu, h1, h2, e1, e2, r1, r2, j, hj1, hj2 => by
    simp only [DenL] at e1; subst e1; cases r1; simp at hj1
  | d :: ds, es, A, xs, ys, us, vs, hu, h1, h2, e1, e2, r1, r2, j, hj1, hj2 => by
    simp only [DenL] at e1
    obtain ⟨x, xr, rfl, ax, bx⟩ := e1
    cases r1 with
    | cons rx rrx =>
    cases es with
    | nil => simp only [DenL] at e2; subst e2; cases r2; simp at hj2
    | cons e es =>
      simp only [DenL] at e2
      obtain ⟨y, yr, rfl, ay, by'⟩ := e2
      cases r2 with
      | cons ry rry =>
      simp only [depL] at hu h1 h2
      cases j with
      | zero =>
        simp only [List.getElem_cons_zero]
        have e0 : eAt (d :: ds) (e :: es) 0 = eqD d e := by simp [eAt]
        rw [e0]
        exact eqAt_one I fh d e A x y _ _ (by omega) (by omega) (by omega) ax ay rx ry
      | succ j =>
        simp only [List.getElem_cons_succ]
        have e0 : eAt (d :: ds) (e :: es) (j + 1) = eAt ds es j := by simp [eAt]
        rw [e0]
        exact eqAts I fh ds es A xr yr _ _ (by omega) (by omega) (by omega) bx by' rrx rry j (by simpa using hj1) (by simpa using hj2)
theorem eqAt_one (I : Inv X pins σ H s) (fh : Same F H) (d d' : D) (A : Around) (x y : V) (u v : Value) (hu : A.units + dep d < cLine) (h1 : dep d < 1000) (h2 : dep d' < 1000) (e1 : Den X.K F d x) (e2 : Den X.K F d' y) (r1 : RelV x u) (r2 : RelV y v) :
    SeqAt.EqAt A s u v (eqD d d') := by
  have k := (rcAt I fh d d' A x y u v hu h1 h2 e1 e2 r1 r2).1
  have hu0 : A.units < cLine := by omega
  by_cases z : u = v
  · subst z
    have : x = y := r1.inj r2
    subst this
    rw [den_inj I fh d d' x h1 h2 e1 e2]
    exact SeqAt.EqAt.same u
  · intro prog w E Q hq
    unfold eqBool
    refine wpAny_holding ?_
    refine wpAny_ite_split (fun hab => absurd (eq_of_beq hab) z) (fun _ => ?_)
    have nf : ∀ b t, u ≠ .float b t := fun b t w => by
      subst w
      cases x <;> first | (obtain ⟨_, q⟩ := r1; cases q; done) | (cases r1; done) | skip
      cases d <;> simp only [Den] at e1 <;> first | (cases e1; done) | (obtain ⟨_, _, z, _⟩ := e1; cases z; done) | (obtain ⟨_, z, _⟩ := e1; cases z; done)
    cases u <;> cases v <;> first | exact absurd rfl (nf _ _) | exact wpAny_bind (k prog w E _ (wpAny_truthy_bool hq))
end
end
end L2.L3
set_option Elab.async false
set_option linter.all false
set_option maxRecDepth 100000
set_option maxHeartbeats 4000000
namespace L2.L3
open PySem PySem.Spec PyProof.Rows
section
variable {X : Cx} {a b c e : Expr} {es : List Expr} {ta tb tc : TD} {tA tB' : TB} {ts : TDs} {pos : Pos} {rest : List Expr}
def rCatL (K : PySem.W.Frag) : R2 := fun x y H Q => ∃ l b xs zs, x = .ref l ∧ y = .ref b ∧ SqL K H l xs ∧ SqL K H b zs ∧ xs.length + zs.length ≤ sizeLine ∧ ∀ p, H p = none → Q (.ref p) (upd H p (.lst (xs ++ zs)))
theorem op_catL : OpR X (binaryOp .Add) (rCatL X.K) := by
  intro pins s σ H x y v u Q I rx ry h
  obtain ⟨l, b, xs, zs, rfl, rfl, hH, hB, hz, q⟩ := h
  cases rx
  cases ry
  obtain ⟨its, r, ⟨⟨cls, dd, data, sl⟩, n, ho, hc, hdd, hd⟩, z⟩ := I.list hH
  obtain ⟨its2, r2, ⟨⟨cls2, dd2, data2, sl2⟩, n2, ho2, hc2, hdd2, hd2⟩, z2⟩ := I.list hB
  simp only at hc hdd hd hc2 hdd2 hd2
  subst hc hdd hd hc2 hdd2 hd2
  have ea : its.toArray ++ its2.toArray = (its ++ its2).toArray := by simp
  refine concat_meets ⟨_, ho, rfl⟩ ⟨_, ho2, rfl⟩ noFill_list_add seq_list_add PySem.F.slot_list_add PySem.F.entry_list_add (PySem.F.args_list_add_2 _ _)
    (list_addW l b its.toArray its2.toArray n n2 none none sl sl2 (by rw [List.size_toArray, List.size_toArray, ← r.length, ← r2.length]; exact hz)) ⟨ho, ho2, ?_⟩
  rw [ea]
  exact ⟨.ref _, _, I.lnew (t' := s.toks) (r.append r2) (by rw [List.length_append]; omega), rfl, q _ I.fresh⟩
def rCatT0 (K : PySem.W.Frag) : R2 := fun x y H Q => ∃ a b ys, x = .ref a ∧ y = .ref b ∧ SqT K H a [] ∧ SqT K H b ys ∧ Q (.ref b) H
theorem op_catT0 : OpR X (binaryOp .Add) (rCatT0 X.K) := by
  intro pins s σ H x y v u Q I rx ry h
  obtain ⟨l, b, zs, rfl, rfl, hH, hB, q⟩ := h
  cases rx
  cases ry
  obtain ⟨its, r, ⟨⟨cls, dd, data, sl⟩, ho, hc, n, hd⟩, z⟩ := I.tuple hH
  obtain ⟨its2, r2, ⟨⟨cls2, dd2, data2, sl2⟩, ho2, hc2, n2, hd2⟩, z2⟩ := I.tuple hB
  cases r
  simp only at hc hd hc2 hd2
  subst hc hd hc2 hd2
  exact concat_meets ⟨_, ho, rfl⟩ ⟨_, ho2, rfl⟩ noFill_tuple_add seq_tuple_add PySem.F.slot_tuple_add PySem.F.entry_tuple_add (PySem.F.args_tuple_add_2 _ _)
    (tuple_addW0 l b _ _ n n2 dd dd2 sl sl2 (by simp)) ⟨ho, ho2, ⟨.ref b, H, I, rfl, q⟩⟩
def addD (x y : D) (Q : D → Prop) : Prop := match x, y with
  | .int i, .int j => Q (.int (i + j))
  | .str u, .str w => u.length + w.length ≤ sizeLine ∧ Q (.str (u ++ w))
  | .lst u, .lst w => u.length + w.length ≤ sizeLine ∧ Q (.lst (u ++ w))
  | .tup u, .tup w => u.length + w.length ≤ sizeLine ∧ Q (.tup (u ++ w))
  | _, _ => False
def rAddAll (K : PySem.W.Frag) : R2 := fun x y H Q => rI0 (fun i j => .int (i + j)) x y H Q ∨ (∃ i j, x = .str i ∧ y = .str j ∧ i.length + j.length ≤ sizeLine ∧ Q (.str (i ++ j)) H) ∨ rCatL K x y H Q ∨ rCatT K x y H Q ∨ rCatT0 K x y H Q
theorem op_addAll : OpR X (binaryOp .Add) (rAddAll X.K) := op_add.or (op_add_str.or (op_catL.or (op_catT.or op_catT0)))
theorem o3_add : Op3 X (rAddAll X.K) addD := by
  intro B σ F H env Q d d' x y Z rp h1 h2 hz hf
  unfold addD at hf
  split at hf
  · simp only [Den] at h1 h2; subst h1 h2
    exact .inl ⟨_, _, rfl, rfl, hz _ _ F _ rp (Same.refl _) den_int hf⟩
  · simp only [Den] at h1 h2; subst h1 h2
    exact .inr (.inl ⟨_, _, rfl, rfl, hf.1, hz _ _ F _ rp (Same.refl _) den_str hf.2⟩)
  · simp only [Den] at h1 h2
    obtain ⟨p, vs, rfl, q, r⟩ := h1
    obtain ⟨p', vs', rfl, q', r'⟩ := h2
    refine .inr (.inr (.inl ⟨p, p', vs, vs', rfl, rfl, rp.fh.seq q, rp.fh.seq q', by rw [← r.length, ← r'.length]; exact hf.1, fun w hw => ?_⟩))
    obtain ⟨r2, s2⟩ := rp.laid (o := .lst (vs ++ vs')) hw
    exact hz _ _ _ _ r2 s2 (den_lst (SqL.of upd_same) (DenL.mono s2 _ _ (r.append r'))) hf.2
  · simp only [Den] at h1 h2
    obtain ⟨p, vs, rfl, q, r⟩ := h1
    obtain ⟨p', vs', rfl, q', r'⟩ := h2
    cases vs with
    | nil =>
      rename_i u w
      cases u with
      | cons _ _ => simp only [DenL] at r; obtain ⟨_, _, z, _⟩ := r; cases z
      | nil =>
        exact .inr (.inr (.inr (.inr ⟨p, p', vs', rfl, rfl, Same.seqT rp.fh q, Same.seqT rp.fh q', hz _ _ F _ rp (Same.refl _) (den_tup q' r') (by simpa using hf.2)⟩)))
    | cons v0 vr =>
      refine .inr (.inr (.inr (.inl ⟨p, p', v0 :: vr, vs', rfl, rfl, Same.seqT rp.fh q, Same.seqT rp.fh q', by simp, by rw [← r.length, ← r'.length]; exact hf.1, fun w => ?_, fun w z hw => ?_⟩)))
      · subst w
        rename_i w
        have e : w = [] := by
          cases w with
          | nil => rfl
          | cons _ _ => simp only [DenL] at r'; obtain ⟨_, _, z, _⟩ := r'; cases z
        subst e
        exact hz _ _ F _ rp (Same.refl _) (den_tup q r) (by simpa using hf.2)
      · obtain ⟨r2, s2⟩ := rp.laid (o := .tup (v0 :: vr ++ vs')) hw
        exact hz _ _ _ _ r2 s2 (den_tup (SqT.of upd_same) (DenL.mono s2 _ _ (r.append r'))) hf.2
  · exact hf.elim
theorem q_add (ha : QE X a ta) (hb : QE X b tb) : QE X (.BinOp a .Add b pos) (cOp addD ta tb) := q_op op_addAll o3_add ha hb
def iiD (C : Int → Int → Prop) (g : Int → Int → D) (x y : D) (Q : D → Prop) : Prop := match x, y with
  | .int i, .int j => C i j ∧ Q (g i j)
  | _, _ => False
theorem o3_ii {C : Int → Int → Prop} {g : Int → Int → Int} : Op3 X (rI C fun i j => .int (g i j)) (iiD C fun i j => .int (g i j)) := by
  intro B σ F H env Q d d' x y Z rp h1 h2 hz hf
  unfold iiD at hf
  split at hf
  · simp only [Den] at h1 h2; subst h1 h2
    exact ⟨_, _, rfl, rfl, hf.1, hz _ _ F _ rp (Same.refl _) den_int hf.2⟩
  · exact hf.elim
theorem o3_ii0 {g : Int → Int → Int} : Op3 X (rI0 fun i j => .int (g i j)) (iiD (fun _ _ => True) fun i j => .int (g i j)) := by
  intro B σ F H env Q d d' x y Z rp h1 h2 hz hf
  unfold iiD at hf
  split at hf
  · simp only [Den] at h1 h2; subst h1 h2
    exact ⟨_, _, rfl, rfl, hz _ _ F _ rp (Same.refl _) den_int hf.2⟩
  · exact hf.elim
theorem o3_ib0 {g : Int → Int → Bool} : Op3 X (rI0 fun i j => .bl (g i j)) (iiD (fun _ _ => True) fun i j => .bl (g i j)) := by
  intro B σ F H env Q d d' x y Z rp h1 h2 hz hf
  unfold iiD at hf
  split at hf
  · simp only [Den] at h1 h2; subst h1 h2
    exact ⟨_, _, rfl, rfl, hz _ _ F _ rp (Same.refl _) den_bl hf.2⟩
  · exact hf.elim
theorem op_mulW : OpR X (binaryOp .Mult) (rI IntMulOk fun i j => .int (i * j)) := opI fun _ _ _ _ _ _ _ hc q => mul_int q hc
def DivOk (_ j : Int) : Prop := j ≠ 0 ∧ j.natAbs.log2 < 9000
theorem op_fdivW : OpR X (binaryOp .FloorDiv) (rI DivOk fun i j => .int (i.fdiv j)) := opI fun _ _ _ _ _ _ _ hc q => floordiv_int hc.1 q (.inl (PyProof.noPylong_of_log2 hc.2))
def ModOk (_ j : Int) : Prop := j ≠ 0
abbrev subD := iiD (fun _ _ => True) fun i j => .int (i - j)
abbrev mulD := iiD IntMulOk fun i j => .int (i * j)
abbrev fdivD := iiD DivOk fun i j => .int (i.fdiv j)
abbrev modD := iiD ModOk fun i j => .int (i.fmod j)
abbrev powD := iiD CPow fun i j => .int (i ^ j.toNat)
abbrev ltD := iiD (fun _ _ => True) fun i j => .bl (decide (i < j))
abbrev geD := iiD (fun _ _ => True) fun i j => .bl (decide (j ≤ i))
theorem q_sub (ha : QE X a ta) (hb : QE X b tb) : QE X (.BinOp a .Sub b pos) (cOp subD ta tb) := q_op op_sub o3_ii0 ha hb
theorem q_mul (ha : QE X a ta) (hb : QE X b tb) : QE X (.BinOp a .Mult b pos) (cOp mulD ta tb) := q_op op_mulW o3_ii ha hb
theorem q_fdiv (ha : QE X a ta) (hb : QE X b tb) : QE X (.BinOp a .FloorDiv b pos) (cOp fdivD ta tb) := q_op op_fdivW o3_ii ha hb
theorem q_mod (ha : QE X a ta) (hb : QE X b tb) : QE X (.BinOp a .Mod b pos) (cOp modD ta tb) := q_op (r := rI ModOk fun i j => .int (i.fmod j)) op_modN o3_ii ha hb
theorem q_pow (ha : QE X a ta) (hb : QE X b tb) : QE X (.BinOp a .Pow b pos) (cOp powD ta tb) := q_op op_pow o3_ii ha hb
theorem t_lt (ha : QE X a ta) (hb : QE X b tb) : QT X (.Compare a [.Lt] [b] pos) (cTest (cOp ltD ta tb)) := qt_cmp op_lt o3_ib0 ha hb (nomark _)
theorem t_ge (ha : QE X a ta) (hb : QE X b tb) : QT X (.Compare a [.GtE] [b] pos) (cTest (cOp geD ta tb)) := qt_cmp op_ge o3_ib0 ha hb (nomark _)
def Un3 (X : Cx) (r : V → Hp → VK → Prop) (f : D → (D → Prop) → Prop) : Prop := ∀ (B : Base) (σ : St) (F H : Hp) (env : En) (Q : D → Prop) (d : D) (x : V) (Z : VK), Rep X.K B F H σ env → Den X.K F d x → Kont X B σ env F Q Z → f d Q → r x H Z
def cUn (f : D → (D → Prop) → Prop) (ta : TD) : TD := fun env Q => ta env fun x => f x Q
theorem q_un {op : UnaryOp} {r : V → Hp → VK → Prop} {f : D → (D → Prop) → Prop} (ho : UnR X (unaryOp op) r) (hf : Un3 X r f) (ha : QE X a ta) : QE X (.UnaryOp op a pos) (cUn f ta) := by
  refine ⟨?_⟩
  intro B σ F H env Q rp h
  refine wE_of (pe_un ho pe_w) ?_
  refine wE_mono (ha B σ F H env _ rp h) fun x H1 ⟨F1, d, r1, s1, d1, q1⟩ => ?_
  exact hf B σ F1 H1 env Q d x _ r1 d1 (fun v H' F' d' r' s' hd q => ⟨F', d', r', s1.trans s', hd, q⟩) q1
def negD (x : D) (Q : D → Prop) : Prop := match x with
  | .int i => Q (.int (-i))
  | _ => False
theorem q_neg (ha : QE X a ta) : QE X (.UnaryOp .USub a pos) (cUn negD ta) := by
  refine q_un un_neg ?_ ha
  intro B σ F H env Q d x Z rp h1 hz hf
  unfold negD at hf
  split at hf
  · simp only [Den] at h1; subst h1
    exact ⟨_, rfl, hz _ _ F _ rp (Same.refl _) den_int hf⟩
  · exact hf.elim
def rEqD (X : Cx) (neg : Bool) : R2 := fun x y H Q => ∃ (F : Hp) (d d' : D), Same F H ∧ Den X.K F d x ∧ Den X.K F d' y ∧ X.A.units + dep d < cLine ∧ dep d < 1000 ∧ dep d' < 1000 ∧ Q (.bl (if neg then !eqD d d' else eqD d d')) H
theorem op_eqD : OpR X (compareOp .Eq) (rEqD X false) := by
  intro pins s σ H x y v u Q I rx ry h
  obtain ⟨F, d, d', fh, h1, h2, hu, hd, hd', q⟩ := h
  exact (rcAt I fh d d' X.A x y v u hu hd hd' h1 h2 rx ry).1 X.prog X.w X.xe _ ⟨.bl _, H, I, rfl, q⟩
theorem op_neD : OpR X (compareOp .NotEq) (rEqD X true) := by
  intro pins s σ H x y v u Q I rx ry h
  obtain ⟨F, d, d', fh, h1, h2, hu, hd, hd', q⟩ := h
  exact (rcAt I fh d d' X.A x y v u hu hd hd' h1 h2 rx ry).2 X.prog X.w X.xe _ ⟨.bl _, H, I, rfl, q⟩
def DepOk (x y : D) : Prop := dep x ≤ 60 ∧ dep y ≤ 60
def eqF (x y : D) (Q : D → Prop) : Prop := DepOk x y ∧ Q (.bl (eqD x y))
def neF (x y : D) (Q : D → Prop) : Prop := DepOk x y ∧ Q (.bl (!eqD x y))
theorem o3_eq (hu : X.A.units + 64 < cLine) : Op3 X (rEqD X false) eqF := by
  intro B σ F H env Q d d' x y Z rp h1 h2 hz hf
  obtain ⟨⟨l1, l2⟩, q⟩ := hf
  exact ⟨F, d, d', rp.fh, h1, h2, by omega, by omega, by omega, hz _ _ F _ rp (Same.refl _) den_bl q⟩
theorem o3_ne (hu : X.A.units + 64 < cLine) : Op3 X (rEqD X true) neF := by
  intro B σ F H env Q d d' x y Z rp h1 h2 hz hf
  obtain ⟨⟨l1, l2⟩, q⟩ := hf
  exact ⟨F, d, d', rp.fh, h1, h2, by omega, by omega, by omega, hz _ _ F _ rp (Same.refl _) den_bl q⟩
theorem q_eq (hu : X.A.units + 64 < cLine) (ha : QE X a ta) (hb : QE X b tb) : QE X (.Compare a [.Eq] [b] pos) (cOp eqF ta tb) := q_cmp op_eqD (o3_eq hu) ha hb (nomark _)
theorem t_eq (hu : X.A.units + 64 < cLine) (ha : QE X a ta) (hb : QE X b tb) : QT X (.Compare a [.Eq] [b] pos) (cTest (cOp eqF ta tb)) := qt_cmp op_eqD (o3_eq hu) ha hb (nomark _)
theorem t_ne (hu : X.A.units + 64 < cLine) (ha : QE X a ta) (hb : QE X b tb) : QT X (.Compare a [.NotEq] [b] pos) (cTest (cOp neF ta tb)) := qt_cmp op_neD (o3_ne hu) ha hb (nomark _)
def ixD (x y : D) (Q : D → Prop) : Prop := match x, y with
  | .lst xs, .int i => ∃ v, atI xs i = some v ∧ Q v
  | .tup xs, .int i => ∃ v, atI xs i = some v ∧ Q v
  | .str z, .int i => z.length ≤ sizeLine ∧ ∃ c, atI z.cps.toList i = some c ∧ Q (.str ⟨#[c]⟩)
  | _, _ => False
theorem DenL.atI {K : PySem.W.Frag} {F : Hp} {ds : List D} {vs : List V} {i : Int} {d : D} (r : DenL K F ds vs) (h : atI ds i = some d) : ∃ v, L2.atI vs i = some v ∧ Den K F d v := by
  unfold L2.atI at h ⊢
  rw [← r.length]
  cases e : ixN ds.length i with
  | none => rw [e] at h; cases h
  | some j =>
    rw [e] at h
    exact r.get h
theorem o3_ix : Op3 X (rIx X.K) ixD := by
  intro B σ F H env Q d d' x y Z rp h1 h2 hz hf
  unfold ixD at hf
  split at hf
  · simp only [Den] at h1 h2; subst h2
    obtain ⟨p, vs, rfl, q, r⟩ := h1
    obtain ⟨v, hv, qv⟩ := hf
    obtain ⟨w, hw, dw⟩ := r.atI hv
    exact .inl ⟨p, vs, _, w, rfl, rfl, rp.fh.seq q, hw, hz _ _ F _ rp (Same.refl _) dw qv⟩
  · simp only [Den] at h1 h2; subst h2
    obtain ⟨p, vs, rfl, q, r⟩ := h1
    obtain ⟨v, hv, qv⟩ := hf
    obtain ⟨w, hw, dw⟩ := r.atI hv
    exact .inr (.inl ⟨p, vs, _, w, rfl, rfl, Same.seqT rp.fh q, hw, hz _ _ F _ rp (Same.refl _) dw qv⟩)
  · simp only [Den] at h1 h2; subst h1 h2
    obtain ⟨hl, c, hc, qv⟩ := hf
    exact .inr (.inr ⟨_, _, c, rfl, rfl, hl, hc, hz _ _ F _ rp (Same.refl _) den_str qv⟩)
  · exact hf.elim
theorem q_ix (ha : QE X a ta) (hb : QE X b tb) (hs : PlainIx b) : QE X (.Subscript a b pos) (cOp ixD ta tb) := ⟨fun B σ F H env Q rp h => wE_of (pe_ix ix_seq pe_w pe_w hs) (two o3_ix ha hb rp kRV h)⟩
abbrev TO3 := En → (Option Int → Prop) → Prop
def cNoPart : TO3 := fun _ Q => Q none
def cPart (t : TD) : TO3 := fun env Q => t env fun x => ∃ i, x = .int i ∧ Q (some i)
def QO (X : Cx) (e : Option Expr) (t : TO3) : Prop := ∃ to : TO, PO X e to ∧ ∀ (B : Base) (σ : St) (F H : Hp) (env : En) (Q : Option Int → Prop) (Z : Option Int → Hp → Prop), Rep X.K B F H σ env → (∀ o H' F', Rep X.K B F' H' σ env → Same F F' → Q o → Z o H') → t env Q → to σ H Z
theorem qo_some (h : QE X e ta) : QO X (some e) (cPart ta) := by
  refine ⟨_, po_some pe_w, fun B σ F H env Q Z rp hz hq => ?_⟩
  refine wE_mono (h B σ F H env _ rp hq) fun x H1 ⟨F1, d, r1, s1, d1, i, hi, q1⟩ => ?_
  subst hi
  simp only [Den] at d1
  exact ⟨i, d1, hz _ _ F1 r1 s1 q1⟩
def cutD (xs : List D) (lo hi : Option Int) : List D := (xs.drop (HT.sIx xs.length 0 lo)).take (HT.sIx xs.length xs.length hi - HT.sIx xs.length 0 lo)
def slD (x : D) (lo hi : Option Int) (Q : D → Prop) : Prop := match x with
  | .lst xs => Q (.lst (cutD xs lo hi))
  | .tup xs => ¬ (HT.sIx xs.length 0 lo = 0 ∧ HT.sIx xs.length xs.length hi = xs.length) ∧ Q (.tup (cutD xs lo hi))
  | _ => False
def cSl (ta : TD) (tl th : TO3) : TD := fun env Q => ta env fun x => tl env fun lo => th env fun hi => slD x lo hi Q
theorem q_sl {lo hi : Option Expr} {tl th : TO3} {p2 : Pos} (ha : QE X a ta) (hl : QO X lo tl) (hh : QO X hi th) : QE X (.Subscript a (.Slice lo hi none p2) pos) (cSl ta tl th) := by
  refine ⟨?_⟩
  intro B σ F H env Q rp h
  obtain ⟨tl', pl, ql⟩ := hl
  obtain ⟨th', ph, qh⟩ := hh
  refine wE_of (pe_slice (SlR.or sl_list sl_tup) pe_w pl ph) ?_
  refine wE_mono (ha B σ F H env _ rp h) fun x H1 ⟨F1, d, r1, s1, d1, q1⟩ => ?_
  refine ql B σ F1 H1 env _ _ r1 (fun lo' H2 F2 r2 s2 q2 => ?_) q1
  refine qh B σ F2 H2 env _ _ r2 (fun hi' H3 F3 r3 s3 q3 => ?_) q2
  have d3 := Den.mono (s2.trans s3) _ _ d1
  unfold slD at q3
  split at q3
  · simp only [Den] at d3
    obtain ⟨p, vs, rfl, q, r⟩ := d3
    refine .inl ⟨p, vs, rfl, r3.fh.seq q, fun w hw => ?_⟩
    obtain ⟨r4, s4⟩ := r3.laid (o := .lst (cutV vs lo' hi')) hw
    refine ⟨_, _, r4, ((s1.trans s2).trans s3).trans s4, den_lst (SqL.of upd_same) ?_, q3⟩
    unfold cutV cutD
    rw [r.length]
    exact DenL.mono s4 _ _ ((r.drop _).take _)
  · simp only [Den] at d3
    obtain ⟨p, vs, rfl, q, r⟩ := d3
    refine .inr ⟨p, vs, rfl, Same.seqT r3.fh q, by rw [← r.length]; exact q3.1, fun w hw => ?_⟩
    obtain ⟨r4, s4⟩ := r3.laid (o := .tup (cutV vs lo' hi')) hw
    refine ⟨_, _, r4, ((s1.trans s2).trans s3).trans s4, den_tup (SqT.of upd_same) ?_, q3.2⟩
    unfold cutV cutD
    rw [r.length]
    exact DenL.mono s4 _ _ ((r.drop _).take _)
  · exact q3.elim
def Call3 (X : Cx) (r : List V → Hp → VK → Prop) (f : List D → (D → Prop) → Prop) : Prop := ∀ (B : Base) (σ : St) (F H : Hp) (env : En) (Q : D → Prop) (ds : List D) (vs : List V) (Z : VK), Rep X.K B F H σ env → DenL X.K F ds vs → Kont X B σ env F Q Z → f ds Q → r vs H Z
def cCall (f : List D → (D → Prop) → Prop) (ts : TDs) : TD := fun env Q => ts env fun xs => f xs Q
theorem args3 {r : List V → Hp → VK → Prop} {f : List D → (D → Prop) → Prop} (hf : Call3 X r f) (ha : QA X es ts) {B : Base} {σ : St} {F H : Hp} {env : En} {Q : D → Prop} (rp : Rep X.K B F H σ env) (h : cCall f ts env Q) : tCB r (wA X es) σ H (RV X B σ env F Q) := by
  refine wA_mono (ha B σ F H env _ rp h) fun vs H1 ⟨F1, ds, r1, s1, d1, q1⟩ => ?_
  exact hf B σ F1 H1 env Q ds vs _ r1 d1 (fun v H' F' d' r' s' hd q => ⟨F', d', r', s1.trans s', hd, q⟩) q1
theorem q_callB {id : String} {r : List V → Hp → VK → Prop} {f : List D → (D → Prop) → Prop} {x : Str} {p : Pos} (hc : CallR X (.builtin id) r) (hf : Call3 X r f) (hg : Gl X x) (hm : X.mg x = none) (hv : bootBuiltins x = some (.builtin id)) (ha : QA X (e :: es) ts)
    (hn : x ≠ "__name__" := by decide) (hdb : (x == ("__debug__" : Str)) = false := by decide) (he : starEach (e :: es) X.env = (false, eval e X.env) :: starEach es X.env := by exact star_of rfl) (hpl : (backTo pos (starEach es X.env)).any (·.1) = false := by rfl) :
    QE X (.Call (.Name x p) (e :: es) [] pos) (cCall f ts) := ⟨fun B σ F H env Q rp h => wE_of (pe_callB hc hg hm hv pa_w hn hdb he hpl) (args3 hf ha rp h)⟩
end
end L2.L3
set_option Elab.async false
set_option linter.all false
set_option maxRecDepth 100000
set_option maxHeartbeats 4000000
namespace L2.L3
open PySem PySem.Spec PyProof.Rows
theorem boot_abs' : bootBuiltins "abs" = some (.builtin "abs") := by decide +kernel
theorem boot_all' : bootBuiltins "all" = some (.builtin "all") := by decide +kernel
theorem boot_isi' : bootBuiltins "isinstance" = some (.builtin "isinstance") := by decide +kernel
theorem boot_len' : bootBuiltins "len" = some (.builtin "len") := by decide +kernel
theorem boot_int' : bootBuiltins "int" = some (.type "int") := by decide +kernel
theorem boot_bool' : bootBuiltins "bool" = some (.type "bool") := by decide +kernel
theorem boot_tuple' : bootBuiltins "tuple" = some (.type "tuple") := by decide +kernel
section
variable {X : Cx} {a b c e : Expr} {es : List Expr} {ta tb tc : TD} {tA tB' : TB} {ts : TDs} {pos : Pos} {rest : List Expr}
def absF (ds : List D) (Q : D → Prop) : Prop := match ds with
  | [.int i] => Q (.int (if i < 0 then -i else i))
  | _ => False
theorem c3_abs : Call3 X (fun xs H Q => ∃ i, xs = [.int i] ∧ Q (.int (if i < 0 then -i else i)) H) absF := by
  intro B σ F H env Q ds vs Z rp h hz hf
  unfold absF at hf
  split at hf
  · simp only [DenL, Den] at h
    obtain ⟨v, r, rfl, rfl, rfl⟩ := h
    exact ⟨_, rfl, hz _ _ F _ rp (Same.refl _) den_int hf⟩
  · exact hf.elim
def lenF (ds : List D) (Q : D → Prop) : Prop := match ds with
  | [.lst xs] => Q (.int xs.length)
  | [.tup xs] => Q (.int xs.length)
  | [.str z] => z.length ≤ sizeLine ∧ Q (.int z.length)
  | _ => False
theorem c3_len : Call3 X (fun xs H Q => (∃ p ys, xs = [.ref p] ∧ (SqL X.K H p ys ∨ SqT X.K H p ys) ∧ Q (.int ys.length) H) ∨ ∃ z, xs = [.str z] ∧ z.length ≤ sizeLine ∧ Q (.int z.length) H) lenF := by
  intro B σ F H env Q ds vs Z rp h hz hf
  unfold lenF at hf
  split at hf
  · simp only [DenL, Den] at h
    obtain ⟨v, r, rfl, ⟨p, ys, rfl, q, r⟩, rfl⟩ := h
    refine .inl ⟨p, ys, rfl, .inl (rp.fh.seq q), hz _ _ F _ rp (Same.refl _) den_int ?_⟩
    rw [← r.length]; exact hf
  · simp only [DenL, Den] at h
    obtain ⟨v, r, rfl, ⟨p, ys, rfl, q, r⟩, rfl⟩ := h
    refine .inl ⟨p, ys, rfl, .inr (Same.seqT rp.fh q), hz _ _ F _ rp (Same.refl _) den_int ?_⟩
    rw [← r.length]; exact hf
  · simp only [DenL, Den] at h
    obtain ⟨v, r, rfl, rfl, rfl⟩ := h
    exact .inr ⟨_, rfl, hf.1, hz _ _ F _ rp (Same.refl _) den_int hf.2⟩
  · exact hf.elim
def maxF (ds : List D) (Q : D → Prop) : Prop := match ds with
  | [.int i, .int j] => Q (.int (if j > i then j else i))
  | _ => False
def minF (ds : List D) (Q : D → Prop) : Prop := match ds with
  | [.int i, .int j] => Q (.int (if j < i then j else i))
  | _ => False
def intF (ds : List D) (Q : D → Prop) : Prop := match ds with
  | [.int i] => Q (.int i)
  | [.bl k] => Q (.int (if k then 1 else 0))
  | _ => False
def listF (ds : List D) (Q : D → Prop) : Prop := match ds with
  | [.lst xs] => Q (.lst xs)
  | [.tup xs] => Q (.lst xs)
  | _ => False
def tupleF (ds : List D) (Q : D → Prop) : Prop := match ds with
  | [.lst xs] => Q (.tup xs)
  | [.tup xs] => Q (.tup xs)
  | _ => False
def TyV (K : PySem.W.Frag) (H : Hp) (x : V) (t : String) : Prop := match x with
  | .non => t = "NoneType"
  | .bl _ => t = "bool"
  | .int _ => t = "int"
  | .str _ => t = "str"
  | .ref a => (t = "tuple" ∧ ∃ vs, SqT K H a vs) ∨ (t = "list" ∧ ∃ vs, SqL K H a vs)
  | _ => False
theorem call_isi : CallR X (.builtin "isinstance") (fun xs H Q => ∃ x n t b, xs = [x, .ty n] ∧ TyV X.K H x t ∧ PySem.W.kitOne X.K (.type t) (.type n) = some b ∧ Q (.bl b) H) := by
  intro pins s σ H xs us Q I r h
  obtain ⟨x, n, t, b, rfl, ty, e, q⟩ := h
  obtain ⟨u, w, rfl, rx, rw'⟩ := vals2 r
  cases (show w = Value.type n from rw')
  have fin : ∀ tk, EP X pins σ Q (.bool b) { s with toks := tk } := fun tk => ⟨.bl b, H, I.tok tk, rfl, q⟩
  cases x with
  | non => cases (show t = "NoneType" from ty); cases (show u = Value.none from rx); exact PySem.W.kia_one PySem.W.kitx_none I.kIn True.intro e (fun z => nomatch z) fin
  | bl y => cases (show t = "bool" from ty); cases (show u = Value.bool y from rx); exact PySem.W.kia_one PySem.W.kitx_bool I.kIn True.intro e (fun z => nomatch z) fin
  | int i => cases (show t = "int" from ty); obtain ⟨t, q⟩ := (show ∃ t, u = Value.int i t from rx); cases q; exact PySem.W.kia_one PySem.W.kitx_int I.kIn True.intro e (fun z => nomatch z) fin
  | str i => cases (show t = "str" from ty); obtain ⟨t, q⟩ := (show ∃ t, u = Value.str i t from rx); cases q; exact PySem.W.kia_one PySem.W.kitx_str I.kIn True.intro e (fun z => nomatch z) fin
  | ref a =>
    cases (show u = Value.ref a from rx)
    rcases ty with ⟨rfl, vs, hq⟩ | ⟨rfl, vs, hq⟩
    · obtain ⟨_, _, ⟨o, h1, h2, _⟩, _⟩ := I.tuple hq
      exact PySem.W.kia_one PySem.W.kitx_tuple I.kIn ⟨o, h1, h2⟩ e (fun z => nomatch z) fin
    · obtain ⟨_, _, ⟨o, n, h1, h2, _⟩, _⟩ := I.list hq
      exact PySem.W.kia_one PySem.W.kitx_list I.kIn ⟨o, h1, h2⟩ e (fun z => nomatch z) fin
  | _ => exact False.elim ty
inductive Kd where | non | bl | int | str | tup | lst | oth
def kdD : D → Kd
  | .non => .non
  | .bl _ => .bl
  | .int _ => .int
  | .str _ => .str
  | .tup _ => .tup
  | .lst _ => .lst
  | _ => .oth
def isiK : Kd → String → Option Bool
  | .oth, _ => none
  | k, "int" => some (match k with | .int => true | .bl => true | _ => false)
  | k, "bool" => some (match k with | .bl => true | _ => false)
  | k, "str" => some (match k with | .str => true | _ => false)
  | k, "tuple" => some (match k with | .tup => true | _ => false)
  | k, "list" => some (match k with | .lst => true | _ => false)
  | _, _ => none
def isiF (ds : List D) (Q : D → Prop) : Prop := match ds with
  | [x, .ty n] => ∃ b, isiK (kdD x) n = some b ∧ Q (.bl b)
  | _ => False
theorem kit_isi (K : PySem.W.Frag) (k : Kd) (n t : String) (b : Bool) (h : isiK k n = some b)
    (ht : t = match k with | .non => "NoneType" | .bl => "bool" | .int => "int" | .str => "str" | .tup => "tuple" | .lst => "list" | .oth => "type") : PySem.W.kitOne K (.type t) (.type n) = some b := by
  subst ht
  unfold isiK at h
  split at h
  · cases h
  all_goals (cases k <;> simp at h <;> subst h <;> rfl)
theorem c3_isi : Call3 X (fun xs H Q => ∃ x n t b, xs = [x, .ty n] ∧ TyV X.K H x t ∧ PySem.W.kitOne X.K (.type t) (.type n) = some b ∧ Q (.bl b) H) isiF := by
  intro B σ F H env Q ds vs Z rp h hz hf
  unfold isiF at hf
  split at hf
  · rename_i x n
    obtain ⟨b, hb, q⟩ := hf
    simp only [DenL] at h
    obtain ⟨v, r, rfl, hd, v', r', rfl, hd', rfl⟩ := h
    simp only [Den] at hd'
    subst hd'
    have fin := hz (.bl b) H F (.bl b) rp (Same.refl _) den_bl q
    cases x with
    | non => simp only [Den] at hd; subst hd; exact ⟨_, n, "NoneType", b, rfl, rfl, kit_isi _ _ _ _ _ hb rfl, fin⟩
    | bl k => simp only [Den] at hd; subst hd; exact ⟨_, n, "bool", b, rfl, rfl, kit_isi _ _ _ _ _ hb rfl, fin⟩
    | int k => simp only [Den] at hd; subst hd; exact ⟨_, n, "int", b, rfl, rfl, kit_isi _ _ _ _ _ hb rfl, fin⟩
    | str k => simp only [Den] at hd; subst hd; exact ⟨_, n, "str", b, rfl, rfl, kit_isi _ _ _ _ _ hb rfl, fin⟩
    | tup k => simp only [Den] at hd; obtain ⟨p, vs, rfl, q', r⟩ := hd; exact ⟨_, n, "tuple", b, rfl, .inl ⟨rfl, vs, Same.seqT rp.fh q'⟩, kit_isi _ _ _ _ _ hb rfl, fin⟩
    | lst k => simp only [Den] at hd; obtain ⟨p, vs, rfl, q', r⟩ := hd; exact ⟨_, n, "list", b, rfl, .inr ⟨rfl, vs, rp.fh.seq q'⟩, kit_isi _ _ _ _ _ hb rfl, fin⟩
    | dct k _ => cases hb
    | ty k => cases hb
    | exc k => cases hb
    | cls k => cases hb
  · exact hf.elim
theorem boolsAre_of : ∀ {bs : List Bool} {us : List Value}, Vals (bs.map V.bl) us → LSm.BoolsAre us bs
  | [], _, r => by rw [List.map_nil] at r; cases r; exact .nil
  | b :: bs, _, r => by
    rw [List.map_cons] at r
    cases r with
    | cons h t => cases (show _ = Value.bool b from h); exact .cons b (boolsAre_of t)
theorem kept_iter' {s : Shared} {h' : Heap} {o : Obj} (hk : ∀ b x, b ∉ [s.heap.objs.size] → (s.heap.push o).get? b = some x → h'.get? b = some x) : ∀ b x, s.heap.get? b = some x → h'.get? b = some x :=
  fun b x e => hk b x (fun hm => by rw [List.mem_singleton.mp hm] at e; exact Nat.lt_irrefl _ (Heap.lt_size e)) (Heap.get?_push_of_some _ e)
theorem call_all (hc : X.calm = true) : CallR X (.builtin "all") (fun xs H Q => ∃ (p : Addr) (bs : List Bool), xs = [.ref p] ∧ SqL X.K H p (bs.map V.bl) ∧ Q (.bl (bs.all id)) H) := by
  intro pins s σ H xs us Q I r h
  obtain ⟨p, bs, rfl, hq, q⟩ := h
  obtain ⟨u, rfl, rx⟩ := vals1 r
  cases rx
  obtain ⟨its, r', pl, hz⟩ := I.list hq
  have hb := boolsAre_of r'
  have hl := pl.isList
  have hlt : p < s.heap.objs.size := by obtain ⟨_, e, _⟩ := hl; exact Heap.lt_size e
  refine call_all_walk (wpAny_pyIter_list hl ?_)
  refine ⟨s.heap.objs.size, [s.heap.objs.size, p], [s.heap.objs.size], its.toArray.size, _, _, fun i => (bs[i]?).getD true, rfl, Walks.list (A := X.A.in1) (I.ok.hd hc) _ p (Nat.ne_of_lt hlt) its.toArray,
    ⟨⟨_, Heap.get?_push_size _ rfl, rfl, rfl⟩, hl.push _⟩, fun i v s' Q' E' hP hQ => ?_, fun h' tk hk => ?_⟩
  · obtain ⟨b, e, rfl⟩ := hb.get i v (by simpa using hP)
    simp only [e, Option.getD_some] at hQ
    exact wpAny_truthy_bool hQ
  · have e : ((List.range its.toArray.size).all fun i => (bs[i]?).getD true) = bs.all id := by
      rw [List.size_toArray, hb.length]; exact LSm.range_all bs
    rw [e]
    exact ⟨.bl _, H, I.kept (t' := tk) (kept_iter' hk), rfl, q⟩
def boolsOf : List D → Option (List Bool)
  | [] => some []
  | .bl b :: r => (boolsOf r).map (b :: ·)
  | _ => none
theorem boolsOf_map (bs : List Bool) : boolsOf (bs.map D.bl) = some bs := by
  induction bs with
  | nil => rfl
  | cons b r ih => simp [boolsOf, ih]
theorem boolsOf_den {K : PySem.W.Frag} {F : Hp} : ∀ {ds : List D} {bs : List Bool} {vs : List V}, boolsOf ds = some bs → DenL K F ds vs → vs = bs.map V.bl
  | [], bs, vs, h, r => by simp only [boolsOf] at h; cases h; simp only [DenL] at r; subst r; rfl
  | .bl b :: ds, bs, vs, h, r => by
    simp only [boolsOf] at h
    cases e : boolsOf ds with
    | none => rw [e] at h; cases h
    | some bs' =>
      rw [e] at h
      cases h
      simp only [DenL, Den] at r
      obtain ⟨v, r', rfl, rfl, r⟩ := r
      rw [boolsOf_den e r]; rfl
  | .non :: _, _, _, h, _ => by cases h
  | .int _ :: _, _, _, h, _ => by cases h
  | .str _ :: _, _, _, h, _ => by cases h
  | .tup _ :: _, _, _, h, _ => by cases h
  | .lst _ :: _, _, _, h, _ => by cases h
  | .dct _ _ :: _, _, _, h, _ => by cases h
  | .ty _ :: _, _, _, h, _ => by cases h
  | .exc _ :: _, _, _, h, _ => by cases h
  | .cls _ :: _, _, _, h, _ => by cases h
def allF (ds : List D) (Q : D → Prop) : Prop := match ds with
  | [.lst xs] => ∃ bs, boolsOf xs = some bs ∧ Q (.bl (bs.all id))
  | _ => False
theorem c3_all : Call3 X (fun xs H Q => ∃ (p : Addr) (bs : List Bool), xs = [.ref p] ∧ SqL X.K H p (bs.map V.bl) ∧ Q (.bl (bs.all id)) H) allF := by
  intro B σ F H env Q ds vs Z rp h hz hf
  unfold allF at hf
  split at hf
  · obtain ⟨bs, hb, q⟩ := hf
    simp only [DenL, Den] at h
    obtain ⟨v, r, rfl, ⟨p, ys, rfl, q', r⟩, rfl⟩ := h
    have := boolsOf_den hb r
    subst this
    exact ⟨p, bs, rfl, rp.fh.seq q', hz _ _ F _ rp (Same.refl _) den_bl q⟩
  · exact hf.elim
end
end L2.L3
set_option Elab.async false
set_option linter.all false
set_option maxRecDepth 100000
set_option maxHeartbeats 4000000
namespace L2.L3
open PySem PySem.Spec PyProof.Rows
section
variable {K : PySem.W.Frag} {B : Base} {F H : Hp} {σ : St} {env : En}
theorem Rep.bare (r : Rep K B F H σ env) : Rep K B F H [] [] :=
  ⟨r.f0, r.fh, r.h0, r.nf, fun i x q => by simp at q, fun i x q => by simp at q, fun i j _ _ _ _ q => by simp at q⟩
end
section
variable {X : Cx} {a b c e : Expr} {es : List Expr} {ta tb tc : TD} {tA tB' : TB} {ts : TDs} {pos : Pos} {rest : List Expr} {st : Stmt} {sts : List Stmt} {t u : TS3}
def dNext : TS3 := fun D env => D.nx env
def dSeq (t u : TS3) : TS3 := fun D env => t { D with nx := u D } env
theorem qss_nil : QSs X [] dNext := ⟨fun B σ F H env D rp h => wSs_of pss_nil ⟨F, env, rp, h⟩⟩
theorem qss_one (h1 : QS X st t) : QSs X [st] t := ⟨fun B σ F H env D rp h => wSs_of (pss_one ps_w) (h1 B σ F H env D rp h)⟩
theorem qss_cons (h1 : QS X st t) (h2 : QSs X sts u) : QSs X (st :: sts) (dSeq t u) := by
  refine ⟨?_⟩
  intro B σ F H env D rp h
  refine wSs_of (pss_cons ps_w pss_w) ?_
  exact wS_mono (h1 B σ F H env _ rp h) (fun σ' H' ⟨F', env', rp', q⟩ => h2 B σ' F' H' env' D rp' q) (fun _ _ q => q) (fun _ _ q => q) (fun _ _ q => q)
def dBreak : TS3 := fun D env => D.bk env
def dCont : TS3 := fun D env => D.ct env
def dRet (te : TD) : TS3 := fun D env => te env D.rt
theorem qs_ret (he : QE X e ta) : QS X (.Return (some e) pos) (dRet ta) := by
  refine ⟨?_⟩
  intro B σ F H env D rp h
  refine wS_of (ps_ret pe_w) ?_
  exact wE_mono (he B σ F H env _ rp h) fun v H' ⟨F', d, r', s', hd, q⟩ => ⟨F', d, r'.bare, hd, q⟩
def dRetN : TS3 := fun D _ => D.rt .non
def dIf (c : TB) (t u : TS3) : TS3 := fun D env => c env fun k => if k = true then t D env else u D env
theorem qs_if {xs ys : List Stmt} (hc : QT X c tA) (ha : QSs X xs t) (hb : QSs X ys u) : QS X (.If c xs ys pos) (dIf tA t u) := by
  refine ⟨?_⟩
  intro B σ F H env D rp h
  refine wS_of (ps_if pt_w pss_w pss_w) ?_
  refine wT_mono (hc B σ F H env _ rp h) fun k H1 ⟨F1, r1, s1, q1⟩ => ?_
  cases k with
  | true => exact ha B σ F1 H1 env D r1 q1
  | false => exact hb B σ F1 H1 env D r1 q1
def dNever : TS3 := fun _ _ => False
theorem qs_never : QS X st dNever := ⟨fun _ _ _ _ _ _ _ h => h.elim⟩
abbrev TG3 := D → En → (En → Prop) → Prop
abbrev TGs3 := List D → En → (En → Prop) → Prop
def wG (X : Cx) (tg : Expr) : TG := fun v σ H Q => ∀ (pins : List (Addr × Obj)) (s : Shared) (u : Value), Inv X pins σ H s → RelV v u →
  wpAny (model X.prog X.w) X.A (assign tg X.env u) (fun _ s' => ∃ σ' H', Inv X pins σ' H' s' ∧ Q σ' H') X.xe s
def wGs (X : Cx) (tg : List Expr) : TGs := fun vs σ H Q => ∀ (pins : List (Addr × Obj)) (s : Shared) (us : List Value), Inv X pins σ H s → Vals vs us →
  wpAny (model X.prog X.w) X.A (assignInOrder ((assignEach tg X.env).map (·.2)) us) (fun _ s' => ∃ σ' H', Inv X pins σ' H' s' ∧ Q σ' H') X.xe s
theorem pg_w {tg : Expr} : PG X tg (wG X tg) := fun pins s σ H v u Q I r h => h pins s u I r
theorem pgs_w {tg : List Expr} : PGs X tg (wGs X tg) := fun pins s σ H v u Q I r h => h pins s u I r
theorem wG_of {tg : Expr} {g : TG} {v : V} {σ : St} {H : Hp} {Q : St → Hp → Prop} (h : PG X tg g) (q : g v σ H Q) : wG X tg v σ H Q := fun pins s u I r => h pins s σ H v u Q I r q
theorem wGs_of {tg : List Expr} {g : TGs} {v : List V} {σ : St} {H : Hp} {Q : St → Hp → Prop} (h : PGs X tg g) (q : g v σ H Q) : wGs X tg v σ H Q := fun pins s u I r => h pins s σ H v u Q I r q
theorem wG_mono {tg : Expr} {v : V} {σ : St} {H : Hp} {Q Q' : St → Hp → Prop} (h : wG X tg v σ H Q) (i : ∀ σ H, Q σ H → Q' σ H) : wG X tg v σ H Q' := fun pins s u I r => thn (h pins s u I r) fun _ _ ⟨σ', H', I', q⟩ => ⟨σ', H', I', i _ _ q⟩
theorem wGs_mono {tg : List Expr} {v : List V} {σ : St} {H : Hp} {Q Q' : St → Hp → Prop} (h : wGs X tg v σ H Q) (i : ∀ σ H, Q σ H → Q' σ H) : wGs X tg v σ H Q' := fun pins s u I r => thn (h pins s u I r) fun _ _ ⟨σ', H', I', q⟩ => ⟨σ', H', I', i _ _ q⟩
def RG (X : Cx) (B : Base) (F : Hp) (Q : En → Prop) : St → Hp → Prop := fun σ' H' => ∃ F' env', Rep X.K B F' H' σ' env' ∧ Same F F' ∧ Q env'
structure QG (X : Cx) (tg : Expr) (g : TG3) : Prop where
  of ::
  run : ∀ (B : Base) (σ : St) (F H : Hp) (env : En) (Q : En → Prop) (d : D) (v : V), Rep X.K B F H σ env → Den X.K F d v → g d env Q → wG X tg v σ H (RG X B F Q)
instance {X : Cx} {tg : Expr} {g : TG3} : CoeFun (QG X tg g) (fun _ => ∀ (B : Base) (σ : St) (F H : Hp) (env : En) (Q : En → Prop) (d : D) (v : V), Rep X.K B F H σ env → Den X.K F d v → g d env Q → wG X tg v σ H (RG X B F Q)) := ⟨QG.run⟩
structure QGs (X : Cx) (tg : List Expr) (g : TGs3) : Prop where
  of ::
  run : ∀ (B : Base) (σ : St) (F H : Hp) (env : En) (Q : En → Prop) (ds : List D) (vs : List V), Rep X.K B F H σ env → DenL X.K F ds vs → g ds env Q → wGs X tg vs σ H (RG X B F Q)
instance {X : Cx} {tg : List Expr} {g : TGs3} : CoeFun (QGs X tg g) (fun _ => ∀ (B : Base) (σ : St) (F H : Hp) (env : En) (Q : En → Prop) (ds : List D) (vs : List V), Rep X.K B F H σ env → DenL X.K F ds vs → g ds env Q → wGs X tg vs σ H (RG X B F Q)) := ⟨QGs.run⟩
def kName (i : Nat) : TG3 := fun x env Q => Q (env.set i (some (.d x)))
theorem qg_name {x : Str} (i : Nat) (hN : X.N.Nodup) (hi : X.N[i]? = some x := by rfl) (hx : Loc X.env.scope x := by first | exact Or.inl rfl | exact Or.inr rfl) (hf : X.fn x = true ∨ X.env.scope.names.lookup x = some .local := by first | exact .inl rfl | exact .inr rfl) : QG X (.Name x pos) (kName i) := by
  refine ⟨?_⟩
  intro B σ F H env Q d v rp hd h pins s u I r
  refine pg_name (i := i) hN hi hx hf pins s σ H v u _ I r ?_
  refine ⟨F, _, rp.set hd ?_, Same.refl _, h⟩
  rw [I.len]; exact (List.getElem?_eq_some_iff.mp hi).1
def kNil : TGs3 := fun xs env Q => xs = [] ∧ Q env
def kCons (g : TG3) (gs : TGs3) : TGs3 := fun xs env Q => ∃ x r, xs = x :: r ∧ g x env fun env' => gs r env' Q
theorem qgs_nil : QGs X [] kNil := by
  refine ⟨?_⟩
  intro B σ F H env Q ds vs rp hd h
  obtain ⟨rfl, q⟩ := h
  simp only [DenL] at hd
  exact wGs_of pgs_nil ⟨hd, F, env, rp, Same.refl _, q⟩
theorem qgs_cons {g : TG3} {gs : TGs3} (h1 : QG X e g) (h2 : QGs X es gs) (hs : (assignEach (e :: es) X.env).map (·.2) = assign e X.env :: (assignEach es X.env).map (·.2) := by rfl) : QGs X (e :: es) (kCons g gs) := by
  refine ⟨?_⟩
  intro B σ F H env Q ds vs rp hd h
  obtain ⟨x, r, rfl, q⟩ := h
  simp only [DenL] at hd
  obtain ⟨v, vr, rfl, a1, b1⟩ := hd
  refine wGs_of (pgs_cons pg_w pgs_w hs) ⟨v, vr, rfl, ?_⟩
  refine wG_mono (h1 B σ F H env _ x v rp a1 q) fun σ1 H1 ⟨F1, env1, r1, s1, q1⟩ => ?_
  exact wGs_mono (h2 B σ1 F1 H1 env1 Q r vr r1 (DenL.mono s1 _ _ b1) q1) fun σ2 H2 ⟨F2, env2, r2, s2, q2⟩ => ⟨F2, env2, r2, s1.trans s2, q2⟩
def kTup (n : Nat) (gs : TGs3) : TG3 := fun x env Q => ∃ xs, x = .tup xs ∧ xs.length = n ∧ gs xs env Q
theorem qg_tup {k n : Nat} {gs : TGs3} (hc : X.calm = true) (h : QGs X es gs) (hn : (assignEach es X.env).length = n := by rfl) (hst : (assignEach es X.env).findIdx? (·.1) = none := by rfl) : QG X (.Tuple es k pos) (kTup n gs) := by
  refine ⟨?_⟩
  intro B σ F H env Q d v rp hd hq
  obtain ⟨xs, rfl, hl, q⟩ := hq
  simp only [Den] at hd
  obtain ⟨p, vs, rfl, hs, r⟩ := hd
  refine wG_of (pg_tup hc pgs_w hn hst) ⟨p, vs, rfl, Same.seqT rp.fh hs, by rw [← r.length]; exact hl, ?_⟩
  exact h B σ F H env Q xs vs rp r q
def dAsg (te : TD) (g : TG3) : TS3 := fun D env => te env fun x => g x env D.nx
theorem qs_asg {tg : Expr} {g : TG3} (he : QE X e ta) (hg : QG X tg g) (hs : swapsWithSole [tg] e pos.line X.env = pure false := by rfl) (hw : swappedStores [tg] e X.env = pure none := by rfl)
    (h1 : (assignEach [tg] X.env).map (·.2) = [assign tg X.env] := by rfl) : QS X (.Assign [tg] e pos) (dAsg ta g) := by
  refine ⟨?_⟩
  intro B σ F H env D rp h
  refine wS_of (ps_asg pe_w pg_w hs hw h1) ?_
  refine wE_mono (he B σ F H env _ rp h) fun v H1 ⟨F1, d, r1, s1, d1, q1⟩ => ?_
  exact wG_mono (hg B σ F1 H1 env _ d v r1 d1 q1) fun σ2 H2 ⟨F2, env2, r2, s2, q2⟩ => ⟨F2, env2, r2, q2⟩
def dSet (i : Nat) (te : TD) : TS3 := fun D env => te env fun x => D.nx (env.set i (some (.d x)))
theorem qs_set {x : Str} {pos' : Pos} (i : Nat) (hN : X.N.Nodup) (he : QE X e ta) (hi : X.N[i]? = some x := by rfl) (hx : Loc X.env.scope x := by first | exact Or.inl rfl | exact Or.inr rfl) (hs : swapsWith e (some (.Name x pos')) pos.line X.env = pure false := by rfl)
    (hf : X.fn x = true ∨ X.env.scope.names.lookup x = some .local := by first | exact .inl rfl | exact .inr rfl) : QS X (.Assign [.Name x pos'] e pos) (dSet i ta) := by
  refine ⟨?_⟩
  intro B σ F H env D rp h pins s I
  refine ps_set (i := i) hN hi hx pe_w hs hf pins s σ H _ I ?_
  refine wE_mono (he B σ F H env _ rp h) fun v H1 ⟨F1, d, r1, s1, d1, q1⟩ => ⟨F1, _, r1.set d1 ?_, q1⟩
  rw [I.len]; exact (List.getElem?_eq_some_iff.mp hi).1
def dPar (i j : Nat) (ts : TDs) : TS3 := fun D env => ts env fun xs => ∃ x y, xs = [x, y] ∧ D.nx ((env.set i (some (.d x))).set j (some (.d y)))
theorem qs_par {x y : Str} {px py pt : Pos} {kt k2 pt2} (i j : Nat) (hc : X.calm = true) (hN : X.N.Nodup) (ha : QA X [a, b] ts) (hi : X.N[i]? = some x := by rfl) (hj : X.N[j]? = some y := by rfl) (hij : i ≠ j := by decide)
    (hx : X.env.scope.names.lookup x = some .local := by rfl) (hy : X.env.scope.names.lookup y = some .local := by rfl)
    (hw : swappedStores [.Tuple [.Name x px, .Name y py] kt pt] (.Tuple [a, b] k2 pt2) X.env = pure (some [x, y]) := by rfl)
    (hs : swapsWithSole [.Tuple [.Name x px, .Name y py] kt pt] (.Tuple [a, b] k2 pt2) pos.line X.env = pure false := by rfl) :
    QS X (.Assign [.Tuple [.Name x px, .Name y py] kt pt] (.Tuple [a, b] k2 pt2) pos) (dPar i j ts) := by
  refine ⟨?_⟩
  intro B σ F H env D rp h pins s I
  refine ps_par (i := i) (j := j) hc hN hi hj hij hx hy pa_w hw hs pins s σ H _ I ?_
  refine wA_mono (ha B σ F H env _ rp h) fun vs H1 ⟨F1, ds, r1, s1, d1, x, y, hxy, q1⟩ => ?_
  subst hxy
  simp only [DenL] at d1
  obtain ⟨v, r, rfl, a1, v', r', rfl, a2, rfl⟩ := d1
  have l1 : i < σ.length := by rw [I.len]; exact (List.getElem?_eq_some_iff.mp hi).1
  have l2 : j < (σ.set i (some v)).length := by rw [List.length_set, I.len]; exact (List.getElem?_eq_some_iff.mp hj).1
  exact ⟨v, v', rfl, F1, _, (r1.set a1 l1).set a2 l2, q1⟩
def dWhile (c : TB) (tb : TS3) : TS3 := fun D env => ∃ (I : En → Prop) (μ : En → Nat), I env ∧ ∀ env, I env → c env fun k => if k = true then tb { D with nx := fun e' => I e' ∧ μ e' < μ env, ct := fun e' => I e' ∧ μ e' < μ env, bk := D.nx } env else D.nx env
theorem qs_while {body : List Stmt} (hp : PassesOwn (model X.prog X.w) X.A X.env X.xe) (hc : QT X c tA) (hb : QSs X body t) : QS X (.While c body [] pos) (dWhile tA t) := by
  refine ⟨?_⟩
  intro B σ F H env D rp h
  obtain ⟨I, μ, i0, turn⟩ := h
  refine wS_of (ps_while hp pt_w pss_w) ?_
  refine ⟨fun m σ H => ∃ F env, Rep X.K B F H σ env ∧ I env ∧ μ env = m, ⟨_, F, env, rp, i0, rfl⟩, ?_⟩
  rintro m σ1 H1 ⟨F1, env1, r1, i1, rfl⟩
  refine wT_mono (hc B σ1 F1 H1 env1 _ r1 (turn env1 i1)) fun k H2 ⟨F2, r2, s2, q2⟩ => ?_
  cases k with
  | false => exact ⟨F2, env1, r2, q2⟩
  | true =>
    refine ⟨fun σ' H' => ∃ F' env', Rep X.K B F' H' σ' env' ∧ I env' ∧ μ env' < μ env1, fun σ' H' ⟨F', env', r', i', l⟩ => ⟨_, l, F', env', r', i', rfl⟩, ?_⟩
    exact hb B σ1 F2 H2 env1 _ r2 q2
def turns (g : TG3) (tb : TS3) (Z : Ends3) : List D → En → Prop
  | [], env => Z.nx env
  | x :: xs, env => g x env fun env' => tb { Z with nx := turns g tb Z xs, ct := turns g tb Z xs, bk := Z.nx } env'
def signsD (z : Str) : List D := z.cps.toList.map fun c => .str ⟨#[c]⟩
def itemsD : D → Option (List D)
  | .lst xs => some xs
  | .tup xs => some xs
  | .str z => some (signsD z)
  | _ => none
def Its (z : Str) : It := ⟨fun i _ => i < z.cps.size, fun i H v H' => H' = H ∧ ∃ c, z.cps[i]? = some c ∧ v = .str ⟨#[c]⟩, fun i _ => z.cps.size ≤ i⟩
theorem turn_str {P : Program} {w : World} {K : PySem.W.Frag} {tg : Expr} (it : Addr) (z : Str) (t : Tok) (nm : String) (hn : ["enumerate", "zip", "dict_itemiterator", "dict_reverseitemiterator", "odict_iterator", "itertools.zip_longest", "itertools.pairwise"].contains nm = false)
    (W : ∀ A : Around, A.handled = none → Walks P w A it [it] [it] z.cps.size (SignAt z) (fun i h => h.IsStrIter it nm z t i)) (sf : ∀ (A : Around) (i : Nat) (s : Shared) (Q : Value → Shared → Prop) (E : Value → Shared → Prop), s.heap.IsStrIter it nm z t i → Q (.ref it) s → wpAny (model P w) A (pyIter (.ref it)) Q E s)
    (dn : ∀ (A : Around) (i : Nat) (s : Shared) (Q : Option Value → Shared → Prop) (E : Value → Shared → Prop), A.handled = none → s.heap.IsStrIter it nm z t i → z.cps[i]? = none → (∀ h', Heap.ExtBut it s.heap h' → Q none { s with heap := h' }) → wpAny (model P w) A (pyNext (.ref it)) Q E s) :
    Turn P w K tg (Its z) [it] it (fun i h => h.IsStrIter it nm z t i) where
  mem := by simp
  obj := fun i h st b hb => by
    have e : b = it := by simpa using hb
    subst e
    obtain ⟨o, e, c, d⟩ := st
    exact ⟨o, e, fun v z => by rw [d] at z; cases z⟩
  keep := fun i h h' st k => by
    obtain ⟨o, e, c, d⟩ := st
    exact ⟨o, k it (by simp) o e, c, d⟩
  item := by
    intro X hP hw hK hc i pins s σ H E I hf st hg
    subst hP hw hK
    obtain ⟨f0, f1, f2, f3, f4, f5⟩ := hf it (by simp)
    refine (W X.A (I.ok.hd hc)).item i s _ _ hg st fun v h' tk hv st' kk => ?_
    obtain ⟨c, u, hc', rfl⟩ := hv
    have I1 : Inv X pins σ H { s with heap := h', toks := tk } := I.turned (fun b o hb e => kk b o (by simpa using hb) e) f0 f1 f3 f4 f5
    obtain ⟨o, e, c', d⟩ := id st'
    exact ⟨_, rfl, go_of (s := { s with heap := h', toks := tk }) e c' d hn ⟨.str ⟨#[c]⟩, H, I1, ⟨u, rfl⟩, ⟨rfl, c, hc', rfl⟩, st', fun b hb => (hf b hb).1⟩⟩
  done := by
    intro X hP hw hK hc i pins s σ H E I hf st hg
    subst hP hw hK
    obtain ⟨f0, f1, f2, f3, f4, f5⟩ := hf it (by simp)
    have hg' : z.cps.size ≤ i := hg
    exact dn X.A i s _ _ (I.ok.hd hc) st (by simp; exact hg') fun h' eb => ⟨rfl, I.turned (t' := s.toks) (fun b o hb e => eb b o hb e) f0 f1 f3 f4 f5⟩
  self := fun A i s Q E st h => sf A i s Q E st h
def iSeq (K : PySem.W.Frag) (tl : TE) : TI := fun σ H R => tl σ H fun x H1 => (∃ a, x = .ref a ∧ (((∃ xs, SqL K H1 a xs) ∧ R (Itl K a) H1) ∨ ((∃ xs, SqT K H1 a xs) ∧ R (Itt K a) H1))) ∨ ∃ z, x = .str z ∧ R (Its z) H1
theorem pi_seq {tg l : Expr} {tl : TE} (hl : PE X l tl) : PI X tg l (iSeq X.K tl) := by
  intro pins s σ H R I h
  refine thn (hl pins s σ H _ I h) fun v s1 ⟨x, H1, I1, r1, q1⟩ => ?_
  rcases q1 with ⟨a, e, q⟩ | ⟨z, e, q⟩
  rotate_left
  · subst e
    obtain ⟨t, rfl⟩ := r1
    have fin : ∀ (o : Obj) (nm : String), (∀ v, o.data ≠ .cell v) → Turn X.prog X.w X.K tg (Its z) [s1.heap.objs.size] s1.heap.objs.size (fun i h => h.IsStrIter s1.heap.objs.size nm z t i) → (s1.heap.push o).IsStrIter s1.heap.objs.size nm z t 0 →
        PIE X pins σ tg R (.ref s1.heap.objs.size) { s1 with heap := s1.heap.push o } := fun o nm hcell T st => by
      refine ⟨s1.heap.objs.size, [s1.heap.objs.size], _, _, H1, rfl, I1.kept (t' := s1.toks) fun b o e => Heap.get?_push_of_some _ e, T, st, fun b hb => ?_, q⟩
      have e : b = s1.heap.objs.size := by simpa using hb
      subst e
      exact I1.fpOk (Nat.le_refl _) (I1.hok.fresh (Nat.le_refl _))
    cases ha : z.cps.all (· < 128)
    · exact wpAny_pyIter_wide ha (fin _ "str_iterator" (fun v e => by cases e) (turn_str _ z t "str_iterator" (by decide) (fun A hA => Walks.strWide hA _ z t) (fun A i s Q E st h => wpAny_pyIter_striter_wide st h) (fun A i s Q E hh st hx h => wpAny_pyNext_wide_end hh st hx h)) ⟨_, Heap.get?_push_size _ rfl, rfl, rfl⟩)
    · exact wpAny_pyIter_ascii ha (fin _ "str_ascii_iterator" (fun v e => by cases e) (turn_str _ z t "str_ascii_iterator" (by decide) (fun A hA => Walks.strAscii hA _ z t) (fun A i s Q E st h => wpAny_pyIter_striter_ascii st h) (fun A i s Q E hh st hx h => wpAny_pyNext_ascii_end hh st hx h)) ⟨_, Heap.get?_push_size _ rfl, rfl, rfl⟩)
  subst e
  cases r1
  rcases q with ⟨⟨xs, hq⟩, q⟩ | ⟨⟨xs, hq⟩, q⟩
  · obtain ⟨its, rv, p, hz⟩ := I1.list hq
    refine wpAny_pyIter_list p.isList ?_
    refine ⟨s1.heap.objs.size, [s1.heap.objs.size], _, _, H1, rfl, I1.kept (t' := s1.toks) fun b o e => Heap.get?_push_of_some _ e, turn_list a _, ⟨_, Heap.get?_push_size _ rfl, rfl, rfl⟩, fun b hb => ?_, q⟩
    have e : b = s1.heap.objs.size := by simpa using hb
    subst e
    exact I1.fpOk (Nat.le_refl _) (I1.hok.fresh (Nat.le_refl _))
  · obtain ⟨its, rv, p, hz⟩ := I1.tuple hq
    refine wpAny_pyIter_tuple (show s1.heap.IsTuple a its.toArray from p) ?_
    refine ⟨s1.heap.objs.size, [s1.heap.objs.size], _, _, H1, rfl, I1.kept (t' := s1.toks) fun b o e => Heap.get?_push_of_some _ e, turn_tuple a _, ⟨_, Heap.get?_push_size _ rfl, rfl, rfl⟩, fun b hb => ?_, q⟩
    have e : b = s1.heap.objs.size := by simpa using hb
    subst e
    exact I1.fpOk (Nat.le_refl _) (I1.hok.fresh (Nat.le_refl _))
theorem denL_signs {K : PySem.W.Frag} {F : Hp} (z : Str) : DenL K F (signsD z) (z.cps.toList.map fun c => V.str ⟨#[c]⟩) := by
  unfold signsD
  induction z.cps.toList with
  | nil => exact denL_nil
  | cons c r ih => exact denL_cons den_str ih
def dFor (te : TD) (g : TG3) (tb : TS3) : TS3 := fun D env => te env fun x => ∃ xs, itemsD x = some xs ∧ turns g tb D xs env
theorem drop_cons {α : Type} {xs : List α} {i : Nat} {x : α} (h : xs[i]? = some x) : xs.drop i = x :: xs.drop (i + 1) := by
  obtain ⟨hl, e⟩ := List.getElem?_eq_some_iff.mp h
  rw [List.drop_eq_getElem_cons hl, e]
theorem RS.same {B : Base} {G : Hp} {D : Ends3} (s : Same B.F G) : (∀ σ H, (RS X ⟨G, B.H, B.N, B.nb⟩ D).nx σ H → (RS X B D).nx σ H) ∧ (∀ v H, (RS X ⟨G, B.H, B.N, B.nb⟩ D).rt v H → (RS X B D).rt v H) ∧
    (∀ σ H, (RS X ⟨G, B.H, B.N, B.nb⟩ D).bk σ H → (RS X B D).bk σ H) ∧ (∀ σ H, (RS X ⟨G, B.H, B.N, B.nb⟩ D).ct σ H → (RS X B D).ct σ H) :=
  ⟨fun _ _ ⟨F', env', r, q⟩ => ⟨F', env', r.back s, q⟩, fun _ _ ⟨F', d, r, hd, q⟩ => ⟨F', d, r.back s, hd, q⟩, fun _ _ ⟨F', env', r, q⟩ => ⟨F', env', r.back s, q⟩, fun _ _ ⟨F', env', r, q⟩ => ⟨F', env', r.back s, q⟩⟩
theorem qs_for {tg iter : Expr} {body : List Stmt} {g : TG3} (hp : PassesOwn (model X.prog X.w) X.A X.env X.xe) (hc : X.calm = true) (hi : QE X iter ta) (hg : QG X tg g) (hb : QSs X body t)
    (hs : ∀ x, foldedSetIterable iter X.env x = pure x := by intro _; rfl) : QS X (.For tg iter body [] pos) (dFor ta g t) := by
  refine ⟨?_⟩
  intro B σ F H env D rp h
  refine wS_of (ps_for hp hc (pi_seq pe_w) pg_w pss_w hs) ?_
  refine wE_mono (hi B σ F H env _ rp h) fun v H1 ⟨F1, d, r1, s1, d1, xs, hx, q1⟩ => ?_
  have core : ∀ (a : Addr) (vs : List V) (J : It), DenL X.K F1 xs vs → (∀ (i : Nat) (x : V) (G H' : Hp), Same F1 G → Same G H' → vs[i]? = some x → J.go i H') → (∀ (i : Nat) (x : V) (G H' : Hp) (y : V) (H'' : Hp), Same F1 G → Same G H' → vs[i]? = some x → J.yld i H' y H'' → H'' = H' ∧ y = x) →
      (∀ (G H' : Hp), Same F1 G → Same G H' → J.stop vs.length H') →
      ∃ W : Nat → Nat → St → Hp → Prop, (∃ m, W 0 m σ H1) ∧ ∀ i m σ H, W i m σ H → (J.stop i H ∧ (RS X B D).nx σ H) ∨ (J.go i H ∧ ∃ N : St → Hp → Prop, (∀ σ' H', N σ' H' → ∃ m', m' < m ∧ W (i + 1) m' σ' H') ∧
        ∀ x H', J.yld i H x H' → wG X tg x σ H' fun σ2 H2 => wSs X body { RS X B D with nx := N, ct := N, bk := (RS X B D).nx } σ2 H2) := by
    intro a vs J dl go yld stop
    have hlen := dl.length
    refine ⟨fun i m σ H => m = vs.length - i ∧ i ≤ vs.length ∧ ∃ F env, Rep X.K ⟨F1, B.H, B.N, B.nb⟩ F H σ env ∧ turns g t D (xs.drop i) env, ⟨vs.length, by simp, Nat.zero_le _, F1, env, r1.now, by simpa using q1⟩, ?_⟩
    rintro i m σ2 H2 ⟨rfl, hi2, F2, env2, r2, q2⟩
    by_cases hlt : i < vs.length
    · have hv : vs[i]? = some vs[i] := by simp [hlt]
      obtain ⟨dx, hdx, ddx⟩ := dl.getV hv
      rw [drop_cons hdx] at q2
      refine .inr ⟨go i _ F2 H2 r2.f0 r2.fh hv, fun σ' H' => ∃ F env, Rep X.K ⟨F1, B.H, B.N, B.nb⟩ F H' σ' env ∧ turns g t D (xs.drop (i + 1)) env, fun σ' H' ⟨F', env', r', q'⟩ => ⟨vs.length - (i + 1), by omega, rfl, by omega, F', env', r', q'⟩, fun y H' hy => ?_⟩
      obtain ⟨rfl, rfl⟩ := yld i _ F2 H2 y H' r2.f0 r2.fh hv hy
      have st := hg ⟨F1, B.H, B.N, B.nb⟩ σ2 F2 _ env2 _ dx _ r2 (Den.mono r2.f0 _ _ ddx) q2
      refine wG_mono st fun σ3 H3 ⟨F3, env3, r3, s3, q3⟩ => ?_
      have bd := hb ⟨F1, B.H, B.N, B.nb⟩ σ3 F3 H3 env3 _ r3 q3
      obtain ⟨z1, z2, z3, z4⟩ := RS.same (X := X) (B := B) (D := D) (r1.f0)
      exact wSs_mono bd (fun _ _ q => q) z2 z1 (fun _ _ q => q)
    · have e : i = vs.length := by omega
      subst e
      rw [List.drop_eq_nil_of_le (by omega)] at q2
      exact .inl ⟨stop F2 H2 r2.f0 r2.fh, F2, env2, r2.back r1.f0, q2⟩
  cases d with
  | lst ys =>
    simp only [itemsD] at hx; cases hx
    simp only [Den] at d1
    obtain ⟨a, vs, rfl, q, r⟩ := d1
    refine .inl ⟨a, rfl, .inl ⟨⟨vs, r1.fh.seq q⟩, core a vs (Itl X.K a) r (fun i x G H' s1 s2 hv => ⟨vs, x, s2.seq (s1.seq q), hv⟩) (fun i x G H' y H'' s1 s2 hv hy => ?_) (fun G H' s1 s2 => ⟨vs, s2.seq (s1.seq q), Nat.le_refl _⟩)⟩⟩
    obtain ⟨e1, e2⟩ := hy
    have := e2 vs (s2.seq (s1.seq q))
    rw [hv] at this
    exact ⟨e1, (Option.some.inj this).symm⟩
  | tup ys =>
    simp only [itemsD] at hx; cases hx
    simp only [Den] at d1
    obtain ⟨a, vs, rfl, q, r⟩ := d1
    refine .inl ⟨a, rfl, .inr ⟨⟨vs, Same.seqT r1.fh q⟩, core a vs (Itt X.K a) r (fun i x G H' s1 s2 hv => ⟨vs, x, Same.seqT s2 (Same.seqT s1 q), hv⟩) (fun i x G H' y H'' s1 s2 hv hy => ?_) (fun G H' s1 s2 => ⟨vs, Same.seqT s2 (Same.seqT s1 q), Nat.le_refl _⟩)⟩⟩
    obtain ⟨e1, e2⟩ := hy
    have := e2 vs (Same.seqT s2 (Same.seqT s1 q))
    rw [hv] at this
    exact ⟨e1, (Option.some.inj this).symm⟩
  | str z =>
    simp only [itemsD] at hx; cases hx
    simp only [Den] at d1
    subst d1
    refine .inr ⟨z, rfl, core 0 (z.cps.toList.map fun c => V.str ⟨#[c]⟩) (Its z) (denL_signs z) (fun i x G H' s1 s2 hv => ?_) (fun i x G H' y H'' s1 s2 hv hy => ?_) (fun G H' s1 s2 => ?_)⟩
    · have := (List.getElem?_eq_some_iff.mp hv).1
      show i < z.cps.size
      simpa using this
    · obtain ⟨e1, c, hc, rfl⟩ := hy
      rw [List.getElem?_map, Array.getElem?_toList, hc] at hv
      exact ⟨e1, Option.some.inj hv⟩
    · show z.cps.size ≤ _
      simp
  | _ => simp only [itemsD] at hx; cases hx
def intsD (lo : Int) (n : Nat) : List D := (List.range n).map fun (i : Nat) => D.int (lo + (i : Int))
def dForR (f : List D → (Int → Nat → Prop) → Prop) (ts : TDs) (g : TG3) (tb : TS3) : TS3 := fun D env => ts env fun xs => f xs fun lo n => turns g tb D (intsD lo n) env
def rng1 (xs : List D) (Q : Int → Nat → Prop) : Prop := match xs with
  | [.int j] => (-(2 ^ 62) ≤ j ∧ j < 2 ^ 62) ∧ Q 0 j.toNat
  | _ => False
def rng2 (xs : List D) (Q : Int → Nat → Prop) : Prop := match xs with
  | [.int i, .int j] => (-(2 ^ 62) ≤ i ∧ i < 2 ^ 62 ∧ -(2 ^ 62) ≤ j ∧ j < 2 ^ 62) ∧ Q i (j - i).toNat
  | _ => False
theorem for_ints {tg : Expr} {body : List Stmt} {g : TG3} (hg : QG X tg g) (hb : QSs X body t) {B : Base} {D : Ends3} {lo : Int} {n : Nat} {σ : St} {F1 H1 : Hp} {env : En} (r1 : Rep X.K B F1 H1 σ env) (q1 : turns g t D (intsD lo n) env) :
    ∃ W : Nat → Nat → St → Hp → Prop, (∃ m, W 0 m σ H1) ∧ ∀ i m σ H, W i m σ H → ((Itr lo n).stop i H ∧ (RS X B D).nx σ H) ∨ ((Itr lo n).go i H ∧ ∃ N : St → Hp → Prop, (∀ σ' H', N σ' H' → ∃ m', m' < m ∧ W (i + 1) m' σ' H') ∧
        ∀ x H', (Itr lo n).yld i H x H' → wG X tg x σ H' fun σ2 H2 => wSs X body { RS X B D with nx := N, ct := N, bk := (RS X B D).nx } σ2 H2) := by
  have hl : (intsD lo n).length = n := by simp [intsD]
  refine ⟨fun i m σ H => m = n - i ∧ i ≤ n ∧ ∃ F env, Rep X.K B F H σ env ∧ turns g t D ((intsD lo n).drop i) env, ⟨n, by simp, Nat.zero_le _, F1, env, r1, by simpa using q1⟩, ?_⟩
  rintro i m σ2 H2 ⟨rfl, hi2, F2, env2, r2, q2⟩
  by_cases hlt : i < n
  · have hdx : (intsD lo n)[i]? = some (L3.D.int (lo + (i : Int))) := by simp [intsD, hlt]
    rw [drop_cons hdx] at q2
    refine .inr ⟨hlt, fun σ' H' => ∃ F env, Rep X.K B F H' σ' env ∧ turns g t D ((intsD lo n).drop (i + 1)) env, fun σ' H' ⟨F', env', r', q'⟩ => ⟨n - (i + 1), by omega, rfl, by omega, F', env', r', q'⟩, fun y H' hy => ?_⟩
    obtain ⟨rfl, rfl⟩ := hy
    refine wG_mono (hg B σ2 F2 _ env2 _ _ _ r2 den_int q2) fun σ3 H3 ⟨F3, env3, r3, s3, q3⟩ => ?_
    exact wSs_mono (hb B σ3 F3 H3 env3 _ r3 q3) (fun _ _ q => q) (fun _ _ q => q) (fun _ _ q => q) (fun _ _ q => q)
  · have e : i = n := by omega
    subst e
    rw [List.drop_eq_nil_of_le (by omega)] at q2
    exact .inl ⟨Nat.le_refl _, F2, env2, r2, q2⟩
theorem qs_forR1 {tg : Expr} {body : List Stmt} {g : TG3} {p : Pos} {pos2 : Pos} (hp : PassesOwn (model X.prog X.w) X.A X.env X.xe) (hc : X.calm = true) (hgl : Gl X "range") (hm : X.mg "range" = none) (ha : QA X [a] ts) (hg : QG X tg g) (hb : QSs X body t)
    (hst : starEach [a] X.env = [(false, eval a X.env)] := by rfl) (hs : ∀ x, foldedSetIterable (.Call (.Name "range" p) [a] [] pos2) X.env x = pure x := by intro _; rfl) : QS X (.For tg (.Call (.Name "range" p) [a] [] pos2) body [] pos) (dForR rng1 ts g t) := by
  refine ⟨?_⟩
  intro B σ F H env D rp h
  refine wS_of (ps_for hp hc (pi_range1 hgl hm pa_w hst) pg_w pss_w hs) ?_
  refine wA_mono (ha B σ F H env _ rp h) fun vs H1 ⟨F1, ds, r1, s1, d1, q1⟩ => ?_
  dsimp only at q1; unfold rng1 at q1
  split at q1
  · simp only [DenL, Den] at d1
    obtain ⟨v, r, rfl, rfl, rfl⟩ := d1
    exact ⟨_, rfl, q1.1.1, q1.1.2, for_ints hg hb r1 q1.2⟩
  · exact q1.elim
def RF (X : Cx) (B : Base) (σ : St) (env : En) (F : Hp) (Q : List D → Prop) : VK := fun v H' => ∃ F' H1 p vs ds, v = .ref p ∧ H1 p = none ∧ H' = upd H1 p (.lst vs) ∧ Rep X.K B F' H1 σ env ∧ Same F F' ∧ DenL X.K F' ds vs ∧ Q ds
structure QF (X : Cx) (e : Expr) (t : TDs) : Prop where
  of ::
  run : ∀ (B : Base) (σ : St) (F H : Hp) (env : En) (Q : List D → Prop), Rep X.K B F H σ env → t env Q → wE X e σ H (RF X B σ env F Q)
instance {X : Cx} {e : Expr} {t : TDs} : CoeFun (QF X e t) (fun _ => ∀ (B : Base) (σ : St) (F H : Hp) (env : En) (Q : List D → Prop), Rep X.K B F H σ env → t env Q → wE X e σ H (RF X B σ env F Q)) := ⟨QF.run⟩
def cFew (ts : TDs) : TDs := fun env Q => ts env fun xs => xs.length ≤ sizeLine ∧ Q xs
theorem qf_lst (h : QA X es ts) : QF X (.List es pos) (cFew ts) := by
  refine ⟨?_⟩
  intro B σ F H env Q rp hq
  refine wE_of (pe_lst pa_w) ?_
  exact wA_mono (h B σ F H env _ rp hq) fun vs H1 ⟨F1, ds, r1, s1, d1, z, q1⟩ => ⟨by rw [← d1.length]; exact z, fun p hp => ⟨F1, H1, p, vs, ds, rfl, hp, rfl, r1, s1, d1, q1⟩⟩
def dSetOwn (i : Nat) (ts : TDs) : TS3 := fun D env => ts env fun xs => D.nx (env.set i (some (.own xs)))
theorem qs_setOwn {x : Str} {pos' : Pos} (i : Nat) (hN : X.N.Nodup) (he : QF X e ts) (hi : X.N[i]? = some x := by rfl) (hx : Loc X.env.scope x := by first | exact Or.inl rfl | exact Or.inr rfl) (hs : swapsWith e (some (.Name x pos')) pos.line X.env = pure false := by rfl)
    (hf : X.fn x = true ∨ X.env.scope.names.lookup x = some .local := by first | exact .inl rfl | exact .inr rfl) : QS X (.Assign [.Name x pos'] e pos) (dSetOwn i ts) := by
  refine ⟨?_⟩
  intro B σ F H env D rp h pins s I
  refine ps_set (i := i) hN hi hx pe_w hs hf pins s σ H _ I ?_
  refine wE_mono (he B σ F H env _ rp h) fun v H' ⟨F1, H1, p, vs, ds, e1, hp, e2, r1, s1, d1, q1⟩ => ?_
  subst e1 e2
  refine ⟨F1, _, r1.setOwn hp d1 ?_, q1⟩
  rw [I.len]; exact (List.getElem?_eq_some_iff.mp hi).1
def dAppend (i : Nat) (te : TD) : TS3 := fun D env => ∃ xs, env[i]? = some (some (.own xs)) ∧ xs.length < sizeLine ∧ te env fun x => D.nx (env.set i (some (.own (xs ++ [x]))))
theorem qs_append {x : Str} {px apos cpos : Pos} (i : Nat) (he : QE X e ta) (hN : X.N[i]? = some x := by rfl) (hv : Vis X.env.scope x := by first | exact Or.inl rfl | exact Or.inr (Or.inl rfl) | exact Or.inr (Or.inr rfl)) (hd : (x == ("__debug__" : Str)) = false := by decide) (hcd : (x == ("__classdict__" : Str)) = false := by decide)
    (hbase : attributeBase (.Name x px) "append" X.env (eval (.Name x px) X.env) = eval (.Name x px) X.env := by rfl)
    (hfew : ((backTo cpos (starEach [e] X.env)).all (fun x => !x.1) && (backToKw cpos (keywordEach [] X.env)).all (fun x => x.1.isSome)
      && decide (([e] : List Expr).length + ([] : List Keyword).length + (if ([] : List Keyword).isEmpty then 0 else 1) < 30)) = true := by rfl)
    (hline : (apos.endLine == cpos.line) = true := by rfl) (hst : starEach [e] X.env = (false, eval e X.env) :: starEach [] X.env := by exact star_of rfl) (hplain : (backTo cpos (starEach ([] : List Expr) X.env)).any (·.1) = false := by rfl)
    (hs : swapsWith (.Call (.Attribute (.Name x px) "append" apos) [e] [] cpos) none pos.line X.env = pure false := by rfl) :
    QS X (.Expr (.Call (.Attribute (.Name x px) "append" apos) [e] [] cpos) pos) (dAppend i ta) := by
  refine ⟨?_⟩
  intro B σ F H env D rp h
  refine wS_of (ps_expr (pe_bm PySem.F.plainAttrs_list PySem.F.slot_list_append PySem.F.type_list_append mt_append (pe_var hN hv hd hcd) (pa_cons pe_w pa_nil hst) hbase hfew hline hst hplain) hs) ?_
  obtain ⟨xs, hx, hl, h⟩ := h
  obtain ⟨p, vs, h1, h2, h3, h4, h5⟩ := rp.ov i xs hx
  refine ⟨.ref p, h1, .inl ⟨rfl, vs, SqL.of h2⟩, ?_⟩
  refine wE_mono (he B σ F H env _ rp h) fun y H1 ⟨F1, d, r1, s1, d1, q1⟩ => ?_
  obtain ⟨p', vs', g1, g2, g3, g4, g5⟩ := r1.ov i xs hx
  rw [h1] at g1; cases g1
  exact ⟨p, vs', y, rfl, rfl, g2, by rw [← g5.length]; exact hl, F1, _, r1.change hx h1 (g5.append (denL_cons d1 denL_nil)), q1⟩
end
end L2.L3
set_option Elab.async false
set_option linter.all false
set_option maxRecDepth 100000
set_option maxHeartbeats 4000000
namespace L2.L3
open PySem PySem.Spec PyProof.Rows
abbrev Fw := List D → (D → Prop) → Prop
def spF (K : PySem.W.Frag) (f : Fw) : Sp := fun vs H Q _ => ∃ (F : Hp) (ds : List D) (P : D → Prop), Same F H ∧ DenL K F ds vs ∧ f ds P ∧
  ∀ (d : D) (v : V) (F' H' : Hp), Same F F' → Same H H' → Same F' H' → (∀ p, H p ≠ none → F p = none → F' p = none) → Den K F' d v → P d → Q v H'
structure Known (P : Program) (w : World) (K : PySem.W.Frag) (mg : Str → Option Value) (base : Heap) (k : Nat) (x : Str) (f : Fw) : Prop where
  ex : ∃ (fa : Addr) (fd : FuncData) (ps : List Str), FnOk P w K mg base CX0 k fa fd ps (spF K f) ∧ mg x = some (.ref fa) ∧ PySem.W.keepIn K (.ref fa) = true ∧ Binds K fd ps []
def start3 (N : List Str) (ds : List D) : En := ds.map (fun d => some (Lo.d d)) ++ List.replicate (N.length - ds.length) none
section
variable {X : Cx} {e : Expr} {es : List Expr} {ts : TDs} {p pos : Pos} {x : Str} {k : Nat} {f : Fw}
theorem q_call (h : Known X.prog X.w X.K X.mg X.base k x f) (hr : Room k X.A) (ha : QA X (e :: es) ts) (hg : Gl X x := by rfl) (hdb : (x == ("__debug__" : Str)) = false := by decide)
    (he : starEach (e :: es) X.env = (false, eval e X.env) :: starEach es X.env := by exact star_of rfl) (hpl : (backTo pos (starEach es X.env)).any (·.1) = false := by rfl) : QE X (.Call (.Name x p) (e :: es) [] pos) (cCall f ts) := by
  refine ⟨?_⟩
  intro B σ F H env Q rp hq
  obtain ⟨fa, fd, ps, G, hm, hk, hb⟩ := h.ex
  refine wE_of (pe_call G hr hg hm hk hb .nil pass0 pa_w hdb he hpl) ?_
  refine wA_mono (ha B σ F H env _ rp hq) fun vs H1 ⟨F1, ds, r1, s1, d1, hf⟩ => ?_
  rw [List.append_nil]
  exact ⟨F1, ds, Q, r1.fh, d1, hf, fun d v F' H' a b c n hd q => ⟨F', d, r1.ext a c b n, s1.trans a, hd, q⟩⟩
end
theorem start3_rep {K : PySem.W.Frag} {F H : Hp} {N : List Str} {ds : List D} {vs : List V} (fh : Same F H) (hd : DenL K F ds vs) :
    Rep K ⟨F, H, fun p => H p ≠ none ∧ F p = none, fun _ h => h.1⟩ F H (start N vs) (start3 N ds) := by
  have noown : ∀ (i : Nat) ys, (start3 N ds)[i]? = some (some (.own ys)) → False := fun i ys q => by
    unfold start3 at q
    by_cases hi : i < ds.length
    · rw [List.getElem?_append_left (by simpa using hi), List.getElem?_map] at q
      rw [List.getElem?_eq_getElem hi] at q
      cases q
    · rw [List.getElem?_append_right (by simpa using hi), List.getElem?_replicate] at q
      split at q <;> cases q
  refine ⟨Same.refl _, fh, Same.refl _, fun p h => h.2, fun i x q => ?_, fun i ys q => (noown i ys q).elim, fun i j xs ys p _ q => (noown i xs q).elim⟩
  unfold start3 at q
  by_cases hi : i < ds.length
  · rw [List.getElem?_append_left (by simpa using hi), List.getElem?_map] at q
    rw [List.getElem?_eq_getElem hi] at q
    cases q
    obtain ⟨v, h1, h2⟩ := hd.get (List.getElem?_eq_getElem hi)
    refine ⟨v, ?_, h2⟩
    unfold start
    rw [List.getElem?_append_left (by rw [List.length_map, ← hd.length]; exact hi), List.getElem?_map, h1]
    rfl
  · rw [List.getElem?_append_right (by simpa using hi), List.getElem?_replicate] at q
    split at q <;> cases q
section
variable {P : Program} {w : World} {K : PySem.W.Frag} {mg : Str → Option Value} {base : Heap}
theorem Fun.fnok {x qual : Str} {st : Stmt} {fa : Addr} {fd : FuncData} {N ps : List Str} {k : Nat} {f : Fw} (F : Fun K x qual st fa fd) (S : FnScope N ps (defScope st))
    (hl : ∀ ds Q, f ds Q → ds.length = ps.length)
    (hbody : ∀ (cdv : Value) (A : Around) (outer : List Env) (s : Shared) (H : Hp) (E : XK), Room k (A.deeper (envOfC qual (defScope st) s.heap.objs.size fa cdv)) →
      ∃ t, QSs (cxOf CX0 P w K mg base N qual (defScope st) fa cdv A outer s H E).nox (defBody st) t ∧ ∀ ds (Q : D → Prop), f ds Q → t { nx := fun _ => Q .non, rt := Q } (start3 N ds)) :
    FnOk P w K mg base CX0 (k + 1) fa fd ps (spF K f) := by
  refine F.ok S (fun vs H Q E h => ?_) (fun cdv A outer s H vs Q E hr h => ?_)
  · obtain ⟨F0, ds, P, _, hd, hf, _⟩ := h
    rw [← hd.length]; exact hl ds _ hf
  · obtain ⟨F0, ds, P, fh, hd, hf, kk⟩ := h
    obtain ⟨t, ht, hq⟩ := hbody cdv A outer s H E hr
    refine ⟨_, pss_w, ?_⟩
    have core := ht _ (start N vs) F0 H (start3 N ds) _ (start3_rep fh hd) (hq ds P hf)
    refine wSs_mono core (fun σ' H' ⟨F', env', r, q⟩ => ?_) (fun v H' ⟨F', d', r, dd, q⟩ => ?_) (fun _ _ ⟨_, _, _, q⟩ => q) (fun _ _ ⟨_, _, _, q⟩ => q)
    · exact kk .non .non F' H' r.f0 r.h0 r.fh (fun p h1 h2 => r.nf p ⟨h1, h2⟩) den_non q
    · exact kk d' v F' H' r.f0 r.h0 r.fh (fun p h1 h2 => r.nf p ⟨h1, h2⟩) dd q
theorem Fun.known {x qual : Str} {st : Stmt} {fa : Addr} {fd : FuncData} {N ps : List Str} {k : Nat} {f : Fw} (F : Fun K x qual st fa fd) (S : FnScope N ps (defScope st)) (hmg : mg x = some (.ref fa)) (hb : Binds K fd ps [])
    (hl : ∀ ds Q, f ds Q → ds.length = ps.length)
    (hbody : ∀ (cdv : Value) (A : Around) (outer : List Env) (s : Shared) (H : Hp) (E : XK), Room k (A.deeper (envOfC qual (defScope st) s.heap.objs.size fa cdv)) →
      ∃ t, QSs (cxOf CX0 P w K mg base N qual (defScope st) fa cdv A outer s H E).nox (defBody st) t ∧ ∀ ds (Q : D → Prop), f ds Q → t { nx := fun _ => Q .non, rt := Q } (start3 N ds)) :
    Known P w K mg base (k + 1) x f := ⟨fa, fd, ps, Fun.fnok F S hl hbody, hmg, F.kp, hb⟩
def fLaw (n : Nat) : Fw := fun ds Q => ∃ ns : List Int, ds = [.lst (ns.map D.int)] ∧ ns.length ≤ n ∧ Q (.bl true)
theorem law_sp {K : PySem.W.Frag} {H : Hp} {a : Addr} {ns : List Int} {n : Nat} (hl : ns.length ≤ n) (hS : SqL K H a (ns.map V.int)) : spF K (fLaw n) [.ref a] H (fun v _ => v = .bl true) fun _ _ _ => False := by
  refine ⟨H, [.lst (ns.map D.int)], fun d => d = .bl true, Same.refl _, denL_cons (den_lst hS (denL_ints ns)) denL_nil, ⟨ns, rfl, hl, rfl⟩, fun d v F' H' _ _ _ _ hd q => ?_⟩
  subst q
  simpa only [Den] using hd
end
section
variable {X : Cx} {a b c e : Expr} {es : List Expr} {ta tb tc : TD} {ts : TDs} {pos : Pos} {st : Stmt} {sts : List Stmt} {t u : TS3}
def dFreeze (i : Nat) (t : TS3) : TS3 := fun D env => ∃ xs, env[i]? = some (some (.own xs)) ∧ t D (env.set i (some (.d (.lst xs))))
theorem qs_freeze (i : Nat) (h : QS X st t) : QS X st (dFreeze i t) := by
  refine ⟨?_⟩
  intro B σ F H env D rp hq
  obtain ⟨xs, hx, q⟩ := hq
  obtain ⟨F', s', r'⟩ := rp.freeze hx
  exact h B σ F' H _ D r' q
def cIxOwn (i : Nat) (tj : TD) : TD := fun env Q => ∃ xs, env[i]? = some (some (.own xs)) ∧ tj env fun y => ∃ j v, y = .int j ∧ atI xs j = some v ∧ Q v
def dPut (i : Nat) (tj te : TD) : TS3 := fun D env => te env fun x => ∃ xs, env[i]? = some (some (.own xs)) ∧ tj env fun y => ∃ (j : Int) (k : Nat), y = .int j ∧ ixN xs.length j = some k ∧ D.nx (env.set i (some (.own (xs.set k x))))
end
end L2.L3
set_option Elab.async false
set_option linter.all false
set_option maxRecDepth 100000
set_option maxHeartbeats 4000000
namespace L2.L3
open PySem PySem.Spec PyProof.Rows
def clOf (names : List (Str × NameKind)) (cells : List (Str × Addr)) (acc : List (Str × Addr)) : List (Str × Addr) := match names with
  | [] => acc
  | (n, k) :: r => if k = .free then (match cells.lookup n with | some c => clOf r cells ((n, c) :: acc) | none => clOf r cells acc) else clOf r cells acc
theorem closureFor_from {env : Env} : ∀ (names : List (Str × NameKind)) (acc : List (Str × Addr)), (∀ y ∈ names, y.2 = .free → ∃ c, env.cells.lookup y.1 = some c) →
    (forIn names acc fun (x : Str × NameKind) r => if (x.2 == NameKind.free) = true then (do let a ← cellOf env x.1; pure (ForInStep.yield ((x.1, a) :: r))) else pure (ForInStep.yield r) : Sem (List (Str × Addr))) = pure (clOf names env.cells acc)
  | [], acc, _ => rfl
  | (n, k) :: r, acc, h => by
    rw [List.forIn_cons]
    by_cases hk : k = .free
    · subst hk
      obtain ⟨c, hc⟩ := h (n, .free) List.mem_cons_self rfl
      have hc' : env.cells.lookup n = some c := hc
      have ih := closureFor_from r ((n, c) :: acc) fun y hy => h y (List.mem_cons_of_mem _ hy)
      simp only [beq_self_eq_true, if_true, cellOf, hc', clOf]
      exact ih
    · have ih := closureFor_from r acc fun y hy => h y (List.mem_cons_of_mem _ hy)
      have hb : (k == NameKind.free) = false := by simpa using hk
      simp only [hb, Bool.false_eq_true, if_false, clOf, if_neg hk]
      exact ih
theorem closureFor_eq {scope : Scope} {env : Env} (h : ∀ y ∈ scope.names, y.2 = .free → ∃ c, env.cells.lookup y.1 = some c) : closureFor scope env = pure (clOf scope.names env.cells []) := by
  have e := closureFor_from (env := env) scope.names [] h
  have e2 : closureFor scope env = ((forIn scope.names ([] : List (Str × Addr)) fun (x : Str × NameKind) r => if (x.2 == NameKind.free) = true then (do let a ← cellOf env x.1; pure (ForInStep.yield ((x.1, a) :: r))) else pure (ForInStep.yield r)) >>= fun cs => pure cs) := rfl
  rw [e2, e]; rfl
theorem clOf_sub {cells : List (Str × Addr)} : ∀ (names : List (Str × NameKind)) (acc : List (Str × Addr)), (∀ x c, acc.lookup x = some c → cells.lookup x = some c) → ∀ x c, (clOf names cells acc).lookup x = some c → cells.lookup x = some c
  | [], acc, h, x, c, q => h x c q
  | (n, k) :: r, acc, h, x, c, q => by
    unfold clOf at q
    split at q
    · split at q
      · rename_i c' e
        refine clOf_sub r _ (fun y d w => ?_) x c q
        rw [List.lookup_cons] at w
        split at w
        · rename_i z
          have : y = n := by simpa using z
          subst this
          cases w; exact e
        · exact h y d w
      · exact clOf_sub r _ h x c q
    · exact clOf_sub r _ h x c q
theorem clOf_acc {cells : List (Str × Addr)} : ∀ (names : List (Str × NameKind)) (acc : List (Str × Addr)) (x : Str), (acc.lookup x).isSome = true → ((clOf names cells acc).lookup x).isSome = true
  | [], acc, x, q => q
  | (n, k) :: r, acc, x, q => by
    unfold clOf
    split
    · split
      · refine clOf_acc r _ x ?_
        rw [List.lookup_cons]
        split
        · rfl
        · exact q
      · exact clOf_acc r _ x q
    · exact clOf_acc r _ x q
theorem clOf_has {cells : List (Str × Addr)} : ∀ (names : List (Str × NameKind)) (acc : List (Str × Addr)) (x : Str), (x, NameKind.free) ∈ names → (cells.lookup x).isSome = true → ((clOf names cells acc).lookup x).isSome = true
  | [], acc, x, h, _ => by simp at h
  | (n, k) :: r, acc, x, h, q => by
    rcases List.mem_cons.mp h with e | h
    · cases e
      unfold clOf
      rw [if_pos rfl]
      split
      · exact clOf_acc r _ _ (by rw [List.lookup_cons]; simp)
      · rename_i e; rw [e] at q; cases q
    · unfold clOf
      split
      · split <;> exact clOf_has r _ x h q
      · exact clOf_has r _ x h q
def compCx (X : Cx) (N' : List Str) (scope : Scope) (C : Addr) (s : Shared) (H : Hp) (fp : List Addr) (pins : List (Addr × Obj)) : Cx :=
  { X with N := N', s₀ := s, H₀ := H, env := compEnvC scope (clOf scope.names X.env.cells []) C X.env, outer := X.stack, stack := X.stack, ex := fp, fn := fun _ => false, pn := X.pn ++ pins, xe := fun _ _ => False }
structure CompOk (X : Cx) (N' : List Str) (nt : Nat) (ix : List Nat) (scope : Scope) : Prop where
  kind : scope.kind = .function
  nocell : ∀ x ∈ scope.names, x.2 ≠ .cell
  names : ∀ x ∈ scope.names, x.2 = .local → scope.names.lookup x.1 = some .local
  free : ∀ x ∈ scope.names, x.2 = .free → X.env.scope.names.lookup x.1 = some .cell
  caps : ∀ (j : Nat) (i : Nat), ix[j]? = some i → ∃ x, N'[nt + j]? = some x ∧ X.N[i]? = some x ∧ (x, NameKind.free) ∈ scope.names ∧ (relabel scope X.env).names.lookup x = some .cell
  len : N'.length = nt + ix.length
section
variable {prog : Program} {w : World} {A : Around} {R : Result → Shared → Prop} {s : Shared}
theorem compLoop_gen {elt target iter : Expr} {ifs : List Expr} {scope : Scope} {pos : Pos} {it acc : Value} {env : Env} (I : Nat → Shared → Prop)
    (turn : ∀ n s, I n s → wpAny (model prog w) A (pyNext it) (fun r s₁ => match r with
      | none => R (.ok .next) s₁
      | some v => wpAny (model prog w) A (letOwnedTupleGo target it v) (fun _ s₁' => wpAny (model prog w) A (assign target env v) (fun _ s₂ =>
          wpAny (model prog w) A (forIn ifs true fun c r => if r = true then do let ok ← isTrue c env (eval c env); pure (ForInStep.yield ok) else pure (ForInStep.yield r)) (fun ok s₃ =>
            if ok = true then wpAny (model prog w) A (eval elt env) (fun x s₄ =>
              wpAny (model prog w) A (call (.builtin "list.append") [acc, x]) (fun _ s₅ => ∃ m, m < n ∧ I m s₅) (fun _ _ => False) s₄) (fun _ _ => False) s₃
            else ∃ m, m < n ∧ I m s₃) (fun _ _ => False) s₂) (fun _ _ => False) s₁') (fun _ _ => False) s₁) (fun _ _ => False) s)
    (n : Nat) (h : I n s) :
    codeAny (model prog w) A (.compLoop (.ListComp elt [⟨target, iter, ifs, 0⟩] scope pos) 0 it acc env) R s := by
  refine codeAny_loop rfl I (fun n s hI => ?_) n h
  show wpAny _ A ((compTurn (.ListComp elt [⟨target, iter, ifs, 0⟩] scope pos) 0 it acc env).onRaise (fun x => do noteFrame x env; theTreesLotGoes x)) _ _ s
  refine wpAny_noted ?_
  rw [compTurn_list]
  refine wpAny_bind (wpAny_standAt (wpAny_bind (wpAny_mono (turn n s hI) (fun r s₁ h₁ => ?_) fun _ _ h' => h'.elim)))
  cases r with
  | none => exact wpAny_pure h₁
  | some v =>
    refine wpAny_bind (wpAny_mono h₁ (fun _ s₁' h₁' => ?_) fun _ _ h' => h'.elim)
    refine wpAny_bind (wpAny_mono h₁' (fun _ s₂ h₂ => wpAny_bind (wpAny_mono h₂ (fun ok s₃ h₃ => ?_) fun _ _ h' => h'.elim)) fun _ _ h' => h'.elim)
    cases ok with
    | false => exact wpAny_pure ⟨rfl, h₃⟩
    | true =>
      exact wpAny_bind (wpAny_bind (wpAny_mono h₃ (fun x s₄ h₄ => wpAny_bind (wpAny_mono h₄ (fun _ s₅ h₅ => wpAny_pure (wpAny_pure ⟨rfl, h₅⟩)) fun _ _ h' => h'.elim)) fun _ _ h' => h'.elim))
end
def capS (nt : Nat) (ix : List Nat) (σ : St) : St := List.replicate nt none ++ ix.map fun i => (σ[i]?).join
theorem lookup_mem {α β : Type} [BEq α] [LawfulBEq α] {l : List (α × β)} {x : α} {y : β} (h : l.lookup x = some y) : (x, y) ∈ l := by
  induction l with
  | nil => simp at h
  | cons p r ih =>
    obtain ⟨a, b⟩ := p
    rw [List.lookup_cons] at h
    split at h
    · rename_i e
      have : x = a := by simpa using e
      subst this; cases h; exact List.mem_cons_self
    · exact List.mem_cons_of_mem _ (ih h)
section
variable {X : Cx} {pins : List (Addr × Obj)} {σ : St} {H : Hp} {s : Shared} {N' : List Str} {nt : Nat} {ix : List Nat} {scope : Scope}
theorem relabel_mem {x : Str} {k : NameKind} (h : (x, k) ∈ (relabel scope X.env).names) : (x, k) ∈ scope.names ∨ ((x, NameKind.free) ∈ scope.names ∧ k = .cell) := by
  unfold relabel at h
  obtain ⟨⟨n, k'⟩, hm, e⟩ := List.mem_map.mp h
  dsimp only at e
  split at e
  · rename_i hc
    cases e
    simp only [Bool.and_eq_true, beq_iff_eq] at hc
    exact .inr ⟨by rw [← hc.1.1]; exact hm, rfl⟩
  · cases e; exact .inl hm
theorem comp_start (I : Inv X pins σ H s) (O : CompOk X N' nt ix scope) {fp : List Addr} (hf : ∀ b ∈ fp, FpOk X pins H b) (hlt : ∀ b ∈ fp, b < s.heap.objs.size) {h1 : Heap} {tk : Nat}
    (hns : h1.Ns s.heap.objs.size (fun _ => none)) (hsb : ∀ b o, s.heap.get? b = some o → h1.get? b = some o) :
    Inv (compCx X N' scope s.heap.objs.size s H fp pins) [] (capS nt ix σ) H { s with heap := h1, toks := tk } := by
  have cellsAt : ∀ x c, (clOf scope.names X.env.cells []).lookup x = some c → X.env.cells.lookup x = some c := fun x c q => clOf_sub scope.names [] (fun y d w => by simp at w) x c q
  have clt : ∀ x c, X.env.cells.lookup x = some c → c < s.heap.objs.size := fun x c e => let ⟨_, q⟩ := I.cell x c e; q.lt
  refine ⟨⟨I.ok.mod, O.kind, I.ok.glob, I.ok.blt, Nat.le_refl _, fun x y c h1 h2 => I.ok.inj x y c (cellsAt _ _ h1) (cellsAt _ _ h2), fun x hx => ?_, fun x c h => (by cases h), I.ok.hd, I.ok.frames, .inl rfl, fun b hb => ⟨Nat.ne_of_lt (hlt b hb), fun x c e => (hf b hb).2.2.2.2.1 x c (cellsAt _ _ e)⟩, I.bs,
      Nat.le_trans I.ok.bsz I.sz, fun b o e hb => ?_, fun b hb z => ?_, I.stack, I.stkFree⟩,
    rfl, I.bare, Un.kept hsb, ⟨_, hns, fun j x v e1 e2 e3 => ?_⟩, fun x c e => ?_, I.hok.fresh (Nat.le_refl _), fun x c e => I.freeC x c (cellsAt _ _ e), fun p hp => ?_, I.hok.kept hsb, ?_⟩
  ·
    have hx' : ((relabel scope X.env).names.lookup x = some .cell ∨ (relabel scope X.env).names.lookup x = some .free) := hx
    have key : (x, NameKind.free) ∈ scope.names := by
      rcases hx' with h | h
      · rcases relabel_mem (lookup_mem h) with q | q
        · exact absurd rfl (O.nocell _ q)
        · exact q.1
      · rcases relabel_mem (lookup_mem h) with q | q
        · exact q
        · exact q.1
    obtain ⟨c, hc⟩ := I.ok.has x (.inl (O.free _ key rfl))
    exact Option.isSome_iff_exists.mp (clOf_has scope.names [] x key (by rw [hc]; rfl))
  · rcases (hf b hb).2.2.2.1 with z | z
    · exact I.ok.noex b o e z
    · exact absurd (Nat.lt_of_lt_of_le (Heap.lt_size (I.ok.bs b o e).1) z) (Nat.lt_irrefl _)
  · rcases List.mem_cons.mp (I.stkSub b z) with e | e
    · exact (hf b hb).2.1 e
    · exact (hf b hb).2.2.1 e
  ·
    unfold capS at e2
    by_cases hj : j < nt
    · rw [List.getElem?_append_left (by simpa using hj), List.getElem?_replicate] at e2
      split at e2 <;> cases e2
    · rw [List.getElem?_append_right (by simpa using hj), List.getElem?_map, List.length_replicate] at e2
      cases hi : ix[j - nt]? with
      | none => rw [hi] at e2; cases e2
      | some i =>
        rw [hi] at e2
        have hs : σ[i]? = some (some v) := by
          simp only [Option.map_some, Option.some.injEq] at e2
          cases q : σ[i]? with
          | none => rw [q] at e2; cases e2
          | some o => rw [q] at e2; simp only [Option.join] at e2; rw [show o = some v from e2]
        obtain ⟨y, n1, n2, n3, n4⟩ := O.caps (j - nt) i hi
        have hjj : nt + (j - nt) = j := by omega
        rw [hjj] at n1
        have e1' : N'[j]? = some x := e1
        rw [n1] at e1'; cases e1'
        obtain ⟨m, hn, hl⟩ := I.loc
        have hk : X.env.scope.names.lookup x = some .cell := O.free _ n3 rfl
        obtain ⟨u, r, l⟩ := hl i x v n2 hs (.inr (.inl hk))
        refine ⟨u, r, ?_⟩
        rcases l with ⟨k, _⟩ | ⟨_, c, ec, z⟩
        · have k' : X.env.scope.names.lookup x = some .local := k
          rw [hk] at k'; cases k'
        · have hc2 := Option.isSome_iff_exists.mp (clOf_has (cells := X.env.cells) scope.names [] x n3 (by rw [ec]; rfl))
          obtain ⟨c2, hc2⟩ := hc2
          have := cellsAt x c2 hc2
          rw [ec] at this; cases this
          exact .inr ⟨.inl n4, c, hc2, z.keeps hsb⟩
  · obtain ⟨v, z⟩ := I.cell x c (cellsAt _ _ e)
    exact ⟨v, z.keeps hsb⟩
  · rw [List.append_nil] at hp
    obtain ⟨e, n, ne, nf, d⟩ := I.pin p hp
    refine ⟨hsb _ _ e, n, Nat.ne_of_lt (Heap.lt_size e), fun z => ?_, d⟩
    rcases List.mem_cons.mp (I.stkSub p.1 z) with q | q
    · exact ne q
    · exact nf q
  · unfold capS
    show _ = N'.length
    rw [O.len, List.length_append, List.length_replicate, List.length_map]
theorem comp_end (I : Inv X pins σ H s) {fp : List Addr} (hf : ∀ b ∈ fp, FpOk X pins H b) {σ' : St} {H' : Hp} {s' : Shared} (J : Inv (compCx X N' scope s.heap.objs.size s H fp pins) [] σ' H' s') {h' : Heap} (hs : Heap.SameBut s.heap.objs.size s'.heap h') :
    Inv X pins σ H' { s' with heap := h' } := by
  have ne : ∀ b o, s.heap.get? b = some o → b ≠ s.heap.objs.size := fun b o e => Nat.ne_of_lt (Heap.lt_size e)
  have jb := J.base
  refine I.call' (ch := fp) J.os ⟨fun b o e n h1 h2 => (hs.2 b (ne b o e)).trans (jb.keep b o e n h1 h2), fun b o e n h1 h2 => ?_, jb.free, fun b o e h2 => ?_, jb.tups, jb.frzs, jb.tbls⟩ (fun b o e => ?_) J.bare fun b hb => ?_
  · obtain ⟨sl, q⟩ := jb.slot b o e n h1 h2
    exact ⟨sl, (hs.2 b (ne b o e)).trans q⟩
  · obtain ⟨o', q⟩ := jb.there b o e h2
    exact ⟨o', (hs.2 b (ne b o e)).trans q⟩
  · have jf : H' s.heap.objs.size = none := J.free
    refine (J.hok b o e).stay (fun c u hc q => (hs.2 c ?_).trans q) (fun _ q => q) fun _ _ q => q
    intro z
    subst z
    rcases hc with z | z
    · rw [← z, jf] at e; cases e
    · rw [jf] at z; cases z
  · obtain ⟨f0, f1, f2, f3, f4, f5⟩ := hf b hb
    exact ⟨f3, f1, f4, f5⟩
end
end L2.L3
set_option Elab.async false
set_option linter.all false
set_option maxRecDepth 100000
set_option maxHeartbeats 4000000
namespace L2.L3
open PySem PySem.Spec PyProof.Rows
def wIfs (X : Cx) (ifs : List Expr) : TT := fun σ H Q => ∀ (pins : List (Addr × Obj)) (s : Shared), Inv X pins σ H s →
  wpAny (model X.prog X.w) X.A (forIn ifs true fun c r => if r = true then do let ok ← isTrue c X.env (eval c X.env); pure (ForInStep.yield ok) else pure (ForInStep.yield r)) (TP X pins σ Q) (fun _ _ => False) s
def tComp (X : Cx) (N' : List Str) (nt : Nat) (ix : List Nat) (scope : Scope) (elt target : Expr) (ifs : List Expr) (wi : TI) : TE := fun σ H Q => wi σ H fun J H1 => ∀ (a C : Addr) (s : Shared) (fp : List Addr) (pins : List (Addr × Obj)), H1 a = none →
  ∃ W : Nat → Nat → St → Hp → Prop, (∃ m, W 0 m (capS nt ix σ) (upd H1 a (.lst []))) ∧ ∀ i m σ' H', W i m σ' H' → (J.stop i H' ∧ Q (.ref a) H') ∨ (J.go i H' ∧ ∀ x H2, J.yld i H' x H2 →
    wG (compCx X N' scope C s (upd H1 a (.lst [])) fp pins) target x σ' H2 fun σ2 H3 => wIfs (compCx X N' scope C s (upd H1 a (.lst [])) fp pins) ifs σ2 H3 fun ok H4 => if ok = true then
      wE (compCx X N' scope C s (upd H1 a (.lst [])) fp pins) elt σ2 H4 fun y H5 => ∃ ys, H5 a = some (.lst ys) ∧ ys.length < sizeLine ∧ ∃ m', m' < m ∧ W (i + 1) m' σ2 (upd H5 a (.lst (ys ++ [y])))
      else ∃ m', m' < m ∧ W (i + 1) m' σ2 H4)
section
variable {X : Cx} {N' : List Str} {nt : Nat} {ix : List Nat} {scope : Scope}
theorem CompOk.clos {pins : List (Addr × Obj)} {σ : St} {H : Hp} {s : Shared} (O : CompOk X N' nt ix scope) (I : Inv X pins σ H s) : closureFor scope X.env = pure (clOf scope.names X.env.cells []) :=
  closureFor_eq fun y hy hk => I.ok.has y.1 (.inl (O.free y hy hk))
theorem comp_run {elt target iter : Expr} {ifs : List Expr} {pos : Pos} {pins : List (Addr × Obj)} {σ : St} {s2 : Shared} {Q : VK} {R : It → Hp → Prop} {itv : Value} {RR : Value → Addr → Result → Shared → Prop} (hc : X.calm = true) (O : CompOk X N' nt ix scope)
    (h2 : PIE X pins σ target R itv s2)
    (hR : ∀ J H1, R J H1 → ∀ (a C : Addr) (s : Shared) (fp : List Addr) (pins : List (Addr × Obj)), H1 a = none →
      ∃ W : Nat → Nat → St → Hp → Prop, (∃ m, W 0 m (capS nt ix σ) (upd H1 a (.lst []))) ∧ ∀ i m σ' H', W i m σ' H' → (J.stop i H' ∧ Q (.ref a) H') ∨ (J.go i H' ∧ ∀ x H2, J.yld i H' x H2 →
        wG (compCx X N' scope C s (upd H1 a (.lst [])) fp pins) target x σ' H2 fun σ2 H3 => wIfs (compCx X N' scope C s (upd H1 a (.lst [])) fp pins) ifs σ2 H3 fun ok H4 => if ok = true then
          wE (compCx X N' scope C s (upd H1 a (.lst [])) fp pins) elt σ2 H4 fun y H5 => ∃ ys, H5 a = some (.lst ys) ∧ ys.length < sizeLine ∧ ∃ m', m' < m ∧ W (i + 1) m' σ2 (upd H5 a (.lst (ys ++ [y])))
          else ∃ m', m' < m ∧ W (i + 1) m' σ2 H4))
    (hRR : ∀ (a C : Addr) (H' : Hp) (s6 : Shared) (m : Str → Option Value), Q (.ref a) H' → s6.heap.Ns C m → H' C = none → C ≠ X.env.locals → X.s₀.heap.objs.size ≤ C → (∀ x c, X.env.cells.lookup x = some c → c ≠ C) → (∀ p ∈ X.pn ++ pins, p.1 ≠ C) →
      (∀ h', Heap.SameBut C s6.heap h' → Inv X pins σ H' { s6 with heap := h' }) → RR (.ref a) C (.ok .next) s6) :
    wpAny (model X.prog X.w) X.A (newList []) (fun acc s3 => wpAny (model X.prog X.w) X.A (newFunctionEnv scope X.env.globals (clOf scope.names X.env.cells []) [] X.env.qual none .none (some X.env)) (fun cenv s4 =>
      codeAny (model X.prog X.w) X.A (.compStart (.ListComp elt [⟨target, iter, ifs, 0⟩] scope pos) 0 itv acc { cenv with scope := relabel scope X.env }) (RR acc cenv.locals) s4) X.xe s3) X.xe s2 := by
  obtain ⟨it, fp, tn, J, H2, e, I2, T, st2, f2, hq0⟩ := h2
  have hq := hR J H2 hq0
  subst e
  have hlt2 : ∀ b ∈ fp, b < s2.heap.objs.size := fun b hb => let ⟨o, e, _⟩ := T.obj _ _ st2 b hb; Heap.lt_size e
  refine wpAny_newObj_type ?_
  generalize hs3 : ({ s2 with heap := s2.heap.push { cls := .type "list", dict := none, data := .seq ([] : List Value).toArray } } : Shared) = s3
  have k3 : ∀ b o, s2.heap.get? b = some o → s3.heap.get? b = some o := fun b o e => by rw [← hs3]; exact Heap.get?_push_of_some _ e
  have ha : H2 s2.heap.objs.size = none := I2.hok.fresh (Nat.le_refl _)
  have I3 : Inv X pins σ (upd H2 s2.heap.objs.size (.lst [])) s3 := by
    rw [← hs3]
    exact I2.laid (t' := s2.toks) (fun b u e => Heap.get?_push_of_some _ e) (Nat.le_refl _) ⟨Nat.zero_le _, [], 0, .nil, Heap.get?_push_size _ rfl⟩
  have f3 : ∀ b ∈ fp, FpOk X pins (upd H2 s2.heap.objs.size (.lst [])) b := fun b hb => ⟨by rw [upd_ne (Nat.ne_of_lt (hlt2 b hb))]; exact (f2 b hb).1, (f2 b hb).2⟩
  have st3 : tn 0 s3.heap := T.keep _ _ _ st2 fun b hb o e => k3 b o e
  have hlt3 : ∀ b ∈ fp, b < s3.heap.objs.size := fun b hb => let ⟨o, e, _⟩ := T.obj _ _ st3 b hb; Heap.lt_size e
  refine wpAny_newFunctionEnv O.nocell (by intro y hy; simp at hy) (fun h1 hns hsb => ?_) O.kind
  have k4 : ∀ b o, s3.heap.get? b = some o → h1.get? b = some o := fun b o e => (hsb.2 b (Nat.ne_of_lt (Heap.lt_size e))).trans (Heap.get?_push_of_some _ e)
  have I4 := comp_start (tk := s3.toks + ([] : List (Str × Value)).length) I3 O f3 hlt3 hns k4
  have st4 : tn 0 h1 := T.keep _ _ _ st3 fun b hb o e => k4 b o e
  obtain ⟨W, ⟨m0, w0⟩, turn⟩ := hq s2.heap.objs.size s3.heap.objs.size s3 fp pins ha
  have fr3 : ∀ b ∈ fp, (upd H2 s2.heap.objs.size (.lst [])) b = none := fun b hb => (f3 b hb).1
  have stat : ∀ {H' : Hp}, (∀ b ∈ fp, H' b = none) → ∀ b ∈ fp, FpOk (compCx X N' scope s3.heap.objs.size s3 (upd H2 s2.heap.objs.size (.lst [])) fp pins) [] H' b := fun {H'} hn b hb => by
    refine ⟨hn b hb, Nat.ne_of_lt (hlt3 b hb), fun z => ?_, .inl hb, fun x c e => (f3 b hb).2.2.2.2.1 x c (clOf_sub scope.names [] (fun y d w => by simp at w) x c e), fun p hp => ?_⟩
    · rcases List.mem_cons.mp (I3.stkSub b z) with q | q
      · exact (f3 b hb).2.1 q
      · exact (f3 b hb).2.2.1 q
    · rw [List.append_nil] at hp
      exact (f3 b hb).2.2.2.2.2 p hp
  generalize hX : compCx X N' scope s3.heap.objs.size s3 (upd H2 s2.heap.objs.size (.lst [])) fp pins = X' at I4 turn stat
  have eP : X'.prog = X.prog := by rw [← hX]; rfl
  have eW : X'.w = X.w := by rw [← hX]; rfl
  have eK : X'.K = X.K := by rw [← hX]; rfl
  have eA : X'.A = X.A := by rw [← hX]; rfl
  have eC : X'.calm = true := by rw [← hX]; exact hc
  have eE : X'.env = compEnvC scope (clOf scope.names X.env.cells []) s3.heap.objs.size X.env := by rw [← hX]; rfl
  have eX : X'.xe = fun _ _ => False := by rw [← hX]; rfl
  have loop : codeAny (model X.prog X.w) X.A (.compLoop (.ListComp elt [⟨target, iter, ifs, 0⟩] scope pos) 0 (.ref it) (.ref s2.heap.objs.size) (compEnvC scope (clOf scope.names X.env.cells []) s3.heap.objs.size X.env))
      (RR (.ref s2.heap.objs.size) s3.heap.objs.size) { s3 with heap := h1, toks := s3.toks + ([] : List (Str × Value)).length } := by
    refine compLoop_gen (fun n s' => ∃ i σ' H', Inv X' [] σ' H' s' ∧ tn i s'.heap ∧ (∀ b ∈ fp, H' b = none) ∧ W i n σ' H') ?_ m0 ⟨0, _, _, I4, st4, fr3, w0⟩
    rintro n s5 ⟨i, σ5, H5, I5, st5, fr5, w5⟩
    rcases turn i n σ5 H5 w5 with ⟨stop, q⟩ | ⟨go, step⟩
    · have := T.done X' eP eW eK eC i [] s5 σ5 H5 (fun _ _ => False) I5 (stat fr5) st5 stop
      rw [eA] at this
      refine thn this fun r s6 ⟨hr, I6⟩ => ?_
      subst hr
      obtain ⟨m, hm, _⟩ := id I6.loc
      rw [eE] at hm
      have fre : H5 s3.heap.objs.size = none := by have z := I6.free; rw [eE] at z; exact z
      refine hRR _ _ H5 s6 m q hm fre (Nat.ne_of_gt I3.lt) I3.sz (fun x c e z => ?_) (fun p hp z => ?_) fun h' hsb' => ?_
      · obtain ⟨v, w⟩ := I3.cell x c e
        exact absurd w.lt (by rw [z]; exact Nat.lt_irrefl _)
      · exact absurd (Heap.lt_size (I3.pin p hp).1) (by rw [z]; exact Nat.lt_irrefl _)
      · rw [← hX] at I6
        exact comp_end I3 f3 I6 hsb'
    · have := T.item X' eP eW eK eC i [] s5 σ5 H5 (fun _ _ => False) I5 (stat fr5) st5 go
      rw [eA] at this
      refine thn this fun r s6 ⟨u, hr, h6⟩ => ?_
      subst hr
      refine thn h6 fun _ s7 ⟨x, H7, I7, r7, y7, st7, fr7⟩ => ?_
      have I7' := I7.pinned (stat fr7) (T.obj _ _ st7)
      have g7 := step x H7 y7 _ s7 u I7' r7
      rw [eP, eW, eA, eE, eX] at g7
      refine thn g7 fun _ s8 ⟨σ8, H8, I8, q8⟩ => ?_
      have t8 := q8 _ s8 I8
      rw [eP, eW, eA, eE] at t8
      refine thn t8 fun ok s9 ⟨H9, I9, q9⟩ => ?_
      have back : ∀ {σz : St} {Hz : Hp} {sz : Shared} {m' : Nat}, Inv X' ([] ++ pinsAt fp s7.heap) σz Hz sz → m' < n → W (i + 1) m' σz Hz → ∃ m, m < n ∧ ∃ i σ' H', Inv X' [] σ' H' sz ∧ tn i sz.heap ∧ (∀ b ∈ fp, H' b = none) ∧ W i m σ' H' := fun {σz Hz sz m'} Iz hm wz => by
        refine ⟨m', hm, i + 1, σz, Hz, Iz.unpinned, T.keep _ _ _ st7 fun b hb o e => (Iz.pin (b, o) (List.mem_append_right _ (List.mem_append_right _ (mem_pinsAt hb e)))).1, fun b hb => ?_, wz⟩
        obtain ⟨o, e, d⟩ := T.obj _ _ st7 b hb
        exact (Iz.pin (b, o) (List.mem_append_right _ (List.mem_append_right _ (mem_pinsAt hb e)))).2.1
      cases ok with
      | false =>
        obtain ⟨m', hm, w9⟩ := q9
        exact back I9 hm w9
      | true =>
        have e9 := q9 _ s9 I9
        rw [eP, eW, eA, eE, eX] at e9
        refine thn e9 fun uy s10 ⟨y, H10, I10, r10, ys, hys, hl, m', hm, w10⟩ => ?_
        have ap := mt_append (X := X') _ s10 σ8 H10 (.ref s2.heap.objs.size) [y] (.ref s2.heap.objs.size) [uy] (fun _ H' => H' = upd H10 s2.heap.objs.size (.lst (ys ++ [y]))) I10 rfl (.cons r10 .nil) ⟨_, ys, y, rfl, rfl, hys, hl, rfl⟩
        rw [eP, eW, eA, eX] at ap
        refine thn ap fun _ s11 ⟨_, H11, I11, _, q11⟩ => ?_
        have q11' : H11 = upd H10 s2.heap.objs.size (.lst (ys ++ [y])) := q11
        subst q11'
        exact back I11 hm w10
  exact codeAny_compStart_list loop (T.self _ _ _ _ _ st4 loop)
theorem pe_comp {elt target iter : Expr} {ifs : List Expr} {pos : Pos} {wi : TI} (hc : X.calm = true) (hi : PI X target iter wi) (O : CompOk X N' nt ix scope) (hs : ∀ x, foldedSetIterable iter X.env x = pure x := by intro _; rfl) :
    PE X (.ListComp elt [⟨target, iter, ifs, 0⟩] scope pos) (tComp X N' nt ix scope elt target ifs wi) := by
  intro pins s σ H Q I h
  rw [eval_ListComp]
  refine wpAny_comprehension_free (use := none) rfl hs (O.clos I) O.kind O.names ?_
  refine thn (hi pins s σ H _ I h) fun v s1 h1 => thn h1 fun itv s2 h2 => ?_
  refine comp_run (Q := Q) (RR := fun acc C => compPost (model X.prog X.w) X.A X.xe none (EP X pins σ Q) acc C) hc O h2 (fun J H1 z => z) ?_
  intro a C H' s6 m q hm _ _ _ _ _ hI
  exact ⟨m, hm, fun h' hsb => ⟨.ref a, H', hI h' hsb, rfl, q⟩⟩
end
end L2.L3
set_option Elab.async false
set_option linter.all false
set_option maxRecDepth 100000
set_option maxHeartbeats 4000000
namespace L2.L3
open PySem PySem.Spec PyProof.Rows
def capE (nt : Nat) (ix : List Nat) (env : En) : En := List.replicate nt none ++ ix.map fun i => match env[i]? with
  | some (some (.d x)) => some (.d x)
  | _ => none
theorem capE_noown {nt : Nat} {ix : List Nat} {env : En} (i : Nat) (ys : List D) : (capE nt ix env)[i]? ≠ some (some (.own ys)) := fun q => by
  unfold capE at q
  by_cases hj : i < nt
  · rw [List.getElem?_append_left (by simpa using hj), List.getElem?_replicate] at q
    split at q <;> cases q
  · rw [List.getElem?_append_right (by simpa using hj), List.getElem?_map] at q
    cases e : ix[i - (List.replicate nt (none : Option Lo)).length]? with
    | none => rw [e] at q; cases q
    | some k =>
      rw [e] at q
      simp only [Option.map_some, Option.some.injEq] at q
      split at q <;> cases q
def Base.here (F H : Hp) : Base := ⟨F, H, fun p => H p ≠ none ∧ F p = none, fun _ h => h.1⟩
theorem cap_rep {K : PySem.W.Frag} {B : Base} {F H : Hp} {σ : St} {env : En} {nt : Nat} {ix : List Nat} {a : Addr} {o : HO} (r : Rep K B F H σ env) (ha : H a = none) : Rep K (Base.here F H) F (upd H a o) (capS nt ix σ) (capE nt ix env) := by
  refine ⟨Same.refl _, r.fh.trans (same_upd ha), same_upd ha, fun p h => h.2, fun j x q => ?_, fun j ys q => (capE_noown j ys q).elim, fun i j xs ys p _ q => (capE_noown i xs q).elim⟩
  unfold capE at q
  by_cases hj : j < nt
  · rw [List.getElem?_append_left (by simpa using hj), List.getElem?_replicate] at q
    split at q <;> cases q
  · rw [List.getElem?_append_right (by simpa using hj), List.getElem?_map, List.length_replicate] at q
    cases e : ix[j - nt]? with
    | none => rw [e] at q; cases q
    | some k =>
      rw [e] at q
      simp only [Option.map_some, Option.some.injEq] at q
      split at q
      · rename_i x' h'
        cases q
        obtain ⟨v, h1, h2⟩ := r.dv k x h'
        refine ⟨v, ?_, h2⟩
        unfold capS
        rw [List.getElem?_append_right (by simpa using hj), List.getElem?_map, List.length_replicate, e]
        simp only [Option.map_some, h1, Option.join]
        rfl
      · cases q
theorem Rep.here {K : PySem.W.Frag} {B : Base} {F H : Hp} {σ : St} {env : En} (r : Rep K B F H σ env) (no : ∀ (i : Nat) ys, env[i]? ≠ some (some (.own ys))) : Rep K (Base.here F H) F H σ env :=
  ⟨Same.refl _, r.fh, Same.refl _, fun p h => h.2, r.dv, fun i ys q => (no i ys q).elim, fun i j xs ys p _ q => (no i xs q).elim⟩
theorem Rep.there {K : PySem.W.Frag} {B : Base} {F H F' H' : Hp} {σ : St} {env env0 : En} (r : Rep K (Base.here F H) F' H' σ env) (f0 : Same B.F F) (h0 : Same B.H H) (nf : ∀ p, B.N p → F p = none) (he : ∀ (i : Nat) l, env0[i]? = some (some l) → env[i]? = some (some l)) (no : ∀ (i : Nat) ys, env0[i]? ≠ some (some (.own ys))) : Rep K B F' H' σ env0 := by
  refine ⟨f0.trans r.f0, r.fh, h0.trans r.h0, fun p hp => ?_, fun i x q => r.dv i x (he i _ q), fun i ys q => (no i ys q).elim, fun i j xs ys p _ q => (no i xs q).elim⟩
  refine r.nf p ⟨fun z => ?_, nf p hp⟩
  have q := B.nb p hp
  cases w : B.H p with
  | none => exact q w
  | some o => rw [h0 _ _ w] at z; cases z
structure Steps (K : PySem.W.Frag) (J : It) (F1 : Hp) (xs : List D) : Prop where
  go : ∀ (i : Nat) (G H' : Hp), Same F1 G → Same G H' → i < xs.length → J.go i H'
  yld : ∀ (i : Nat) (G H' : Hp) (y : V) (H'' : Hp) (x : D), Same F1 G → Same G H' → xs[i]? = some x → J.yld i H' y H'' → H'' = H' ∧ Den K G x y
  stop : ∀ (G H' : Hp), Same F1 G → Same G H' → J.stop xs.length H'
theorem steps_list {K : PySem.W.Frag} {F1 : Hp} {a : Addr} {vs : List V} {xs : List D} (q : SqL K F1 a vs) (r : DenL K F1 xs vs) : Steps K (Itl K a) F1 xs where
  go := fun i G H' s1 s2 hi => by
    have : i < vs.length := by rw [← r.length]; exact hi
    exact ⟨vs, vs[i], s2.seq (s1.seq q), by simp [this]⟩
  yld := fun i G H' y H'' x s1 s2 hx hy => by
    obtain ⟨v, h1, h2⟩ := r.get hx
    obtain ⟨e1, e2⟩ := hy
    have := e2 vs (s2.seq (s1.seq q))
    rw [h1] at this; cases this
    exact ⟨e1, Den.mono s1 _ _ h2⟩
  stop := fun G H' s1 s2 => ⟨vs, s2.seq (s1.seq q), by rw [r.length]; exact Nat.le_refl _⟩
theorem steps_tup {K : PySem.W.Frag} {F1 : Hp} {a : Addr} {vs : List V} {xs : List D} (q : SqT K F1 a vs) (r : DenL K F1 xs vs) : Steps K (Itt K a) F1 xs where
  go := fun i G H' s1 s2 hi => by
    have : i < vs.length := by rw [← r.length]; exact hi
    exact ⟨vs, vs[i], Same.seqT s2 (Same.seqT s1 q), by simp [this]⟩
  yld := fun i G H' y H'' x s1 s2 hx hy => by
    obtain ⟨v, h1, h2⟩ := r.get hx
    obtain ⟨e1, e2⟩ := hy
    have := e2 vs (Same.seqT s2 (Same.seqT s1 q))
    rw [h1] at this; cases this
    exact ⟨e1, Den.mono s1 _ _ h2⟩
  stop := fun G H' s1 s2 => ⟨vs, Same.seqT s2 (Same.seqT s1 q), by rw [r.length]; exact Nat.le_refl _⟩
theorem steps_str {K : PySem.W.Frag} {F1 : Hp} {z : Str} : Steps K (Its z) F1 (signsD z) where
  go := fun i G H' s1 s2 hi => by
    show i < z.cps.size
    simpa [signsD] using hi
  yld := fun i G H' y H'' x s1 s2 hx hy => by
    obtain ⟨e1, c, hc, rfl⟩ := hy
    unfold signsD at hx
    rw [List.getElem?_map, Array.getElem?_toList, hc] at hx
    cases hx
    exact ⟨e1, den_str⟩
  stop := fun G H' s1 s2 => by
    show z.cps.size ≤ _
    simp [signsD]
def comps (tt : TB) (te : TD) (env0 : En) (Q : List D → Prop) : List D → List D → Prop
  | [], acc => Q acc
  | x :: xs, acc => tt (env0.set 0 (some (.d x))) fun ok => if ok = true then te (env0.set 0 (some (.d x))) fun y => acc.length < sizeLine ∧ comps tt te env0 Q xs (acc ++ [y]) else comps tt te env0 Q xs acc
structure QIfs (X : Cx) (ifs : List Expr) (t : TB) : Prop where
  of ::
  run : ∀ (B : Base) (σ : St) (F H : Hp) (env : En) (Q : Bool → Prop), Rep X.K B F H σ env → t env Q → wIfs X ifs σ H (RB X B σ env F Q)
instance {X : Cx} {ifs : List Expr} {t : TB} : CoeFun (QIfs X ifs t) (fun _ => ∀ (B : Base) (σ : St) (F H : Hp) (env : En) (Q : Bool → Prop), Rep X.K B F H σ env → t env Q → wIfs X ifs σ H (RB X B σ env F Q)) := ⟨QIfs.run⟩
def cTrue : TB := fun _ Q => Q true
section
variable {X : Cx}
theorem qifs_nil : QIfs X [] cTrue := ⟨fun B σ F H env Q rp h pins s I => wpAny_tests_nil ⟨H, I, F, rp, Same.refl _, h⟩⟩
variable {N' : List Str} {nt : Nat} {ix : List Nat} {scope : Scope} {elt iter a b : Expr} {ifs : List Expr} {x : Str} {px pos : Pos} {tt : TB} {te ti : TD} {ts : TDs}
theorem comp_core (hN : N'.Nodup) (h0 : N'[0]? = some x) (hx : (relabel scope X.env).names.lookup x = some .local)
    (ht : ∀ C s H fp pins, QIfs (compCx X N' scope C s H fp pins) ifs tt) (he : ∀ C s H fp pins, QE (compCx X N' scope C s H fp pins) elt te)
    {B : Base} {σ : St} {F F1 H1 : Hp} {env : En} {Q : List D → Prop} {J : It} {xs : List D} (sF : Same F F1) (r1 : Rep X.K B F1 H1 σ env) (S : Steps X.K J F1 xs) (q1 : comps tt te (capE 1 ix env) Q xs []) :
    ∀ (a C : Addr) (s : Shared) (fp : List Addr) (pins : List (Addr × Obj)), H1 a = none →
      ∃ W : Nat → Nat → St → Hp → Prop, (∃ m, W 0 m (capS 1 ix σ) (upd H1 a (.lst []))) ∧ ∀ i m σ' H', W i m σ' H' → (J.stop i H' ∧ RF X B σ env F Q (.ref a) H') ∨ (J.go i H' ∧ ∀ y H2, J.yld i H' y H2 →
        wG (compCx X N' scope C s (upd H1 a (.lst [])) fp pins) (.Name x px) y σ' H2 fun σ2 H3 => wIfs (compCx X N' scope C s (upd H1 a (.lst [])) fp pins) ifs σ2 H3 fun ok H4 => if ok = true then
          wE (compCx X N' scope C s (upd H1 a (.lst [])) fp pins) elt σ2 H4 fun y H5 => ∃ ys, H5 a = some (.lst ys) ∧ ys.length < sizeLine ∧ ∃ m', m' < m ∧ W (i + 1) m' σ2 (upd H5 a (.lst (ys ++ [y])))
          else ∃ m', m' < m ∧ W (i + 1) m' σ2 H4) := by
  intro a C s fp pins ha
  have hF1a : F1 a = none := r1.fnone ha
  refine ⟨fun i m σ' H' => m = xs.length - i ∧ i ≤ xs.length ∧ ∃ (F' : Hp) (acc : List D) (ys : List V), Rep X.K (Base.here F1 H1) F' H' σ' (capE 1 ix env) ∧ H' a = some (.lst ys) ∧ F' a = none ∧ DenL X.K F' acc ys ∧ comps tt te (capE 1 ix env) Q (xs.drop i) acc,
    ⟨xs.length, by simp, Nat.zero_le _, F1, [], [], cap_rep r1 ha, upd_same, hF1a, denL_nil, by simpa using q1⟩, ?_⟩
  rintro i m σ2 H2 ⟨rfl, hi2, F2, acc, ys, r2, hys, hFa, hd, q2⟩
  have sH : Same H1 H2 := r2.h0
  by_cases hlt : i < xs.length
  · have hxi : xs[i]? = some xs[i] := by simp [hlt]
    rw [drop_cons hxi] at q2
    refine .inr ⟨S.go i F2 H2 r2.f0 r2.fh hlt, fun y H3 hy => ?_⟩
    obtain ⟨eH, dy⟩ := S.yld i F2 H2 y H3 xs[i] r2.f0 r2.fh hxi hy
    subst eH
    have r2' := r2.here capE_noown
    have g := qg_name (X := compCx X N' scope C s (upd H1 a (.lst [])) fp pins) (pos := px) 0 hN h0 (.inl hx) (.inr hx)
    refine wG_mono (g (Base.here F2 H3) σ2 F2 H3 (capE 1 ix env) (fun e => e = (capE 1 ix env).set 0 (some (.d xs[i]))) xs[i] y r2' dy rfl) fun σ3 H4 ⟨F4, env4, r4, s4, q4⟩ => ?_
    subst q4
    intro pins' s' I'
    refine wpAny_mono (ht C s (upd H1 a (.lst [])) fp pins (Base.here F2 H3) σ3 F4 H4 _ _ r4 q2 pins' s' I') (fun ok s5 ⟨H5, I5, F5, r5, s5', q5⟩ => ⟨H5, I5, ?_⟩) fun _ _ e => e
    have weak' : ∀ (j : Nat) l, (capE 1 ix env)[j]? = some (some l) → ((capE 1 ix env).set 0 (some (.d xs[i])))[j]? = some (some l) := fun j l hj => by
      have hj0 : j ≠ 0 := fun z => by
        subst z
        simp [capE] at hj
      rw [List.getElem?_set_ne (Ne.symm hj0)]; exact hj
    cases ok with
    | false =>
      have q5' : comps tt te (capE 1 ix env) Q (xs.drop (i + 1)) acc := q5
      refine ⟨xs.length - (i + 1), by omega, rfl, by omega, F5, acc, ys, r5.there r2.f0 sH (fun p hp => r2.nf p hp) weak' capE_noown, r5.h0 _ _ hys, r5.nf a ⟨by rw [hys]; simp, hFa⟩, DenL.mono r5.f0 _ _ hd, q5'⟩
    | true =>
      have q5' : te ((capE 1 ix env).set 0 (some (.d xs[i]))) fun y => acc.length < sizeLine ∧ comps tt te (capE 1 ix env) Q (xs.drop (i + 1)) (acc ++ [y]) := q5
      refine wE_mono (he C s (upd H1 a (.lst [])) fp pins (Base.here F2 H3) σ3 F5 H5 _ _ r5 q5') fun z H6 ⟨F6, d, r6, s6, d6, hl, q6⟩ => ?_
      have ha6 : H6 a = some (.lst ys) := r6.h0 _ _ hys
      have hF6 : F6 a = none := r6.nf a ⟨by rw [hys]; simp, hFa⟩
      refine ⟨ys, ha6, by rw [← hd.length]; exact hl, xs.length - (i + 1), by omega, rfl, by omega, F6, acc ++ [d], ys ++ [z], ?_, upd_same, hF6, (DenL.mono r6.f0 _ _ hd).append (denL_cons d6 denL_nil), q6⟩
      have r7 : Rep X.K (Base.here F1 H1) F6 H6 σ3 (capE 1 ix env) := r6.there r2.f0 sH (fun p hp => r2.nf p hp) weak' capE_noown
      refine ⟨r7.f0, fun b o hb => ?_, fun b o hb => ?_, r7.nf, r7.dv, fun j zs q => (capE_noown j zs q).elim, r7.ne⟩
      · have : b ≠ a := fun w => by subst w; rw [hF6] at hb; cases hb
        rw [upd_ne this]; exact r7.fh _ _ hb
      · have : b ≠ a := fun w => by subst w; have hb' : H1 b = some o := hb; rw [ha] at hb'; cases hb'
        rw [upd_ne this]; exact r7.h0 _ _ hb
  · have e : i = xs.length := by omega
    subst e
    rw [List.drop_eq_nil_of_le (Nat.le_refl _)] at q2
    refine .inl ⟨S.stop F2 H2 r2.f0 r2.fh, F2, fun b => if b = a then none else H2 b, a, ys, acc, rfl, if_pos rfl, ?_, ?_, sF.trans r2.f0, hd, q2⟩
    · funext b
      unfold upd
      by_cases z : b = a
      · rw [if_pos z, z]; exact hys
      · rw [if_neg z]
        show H2 b = if b = a then none else H2 b
        rw [if_neg z]
    · refine r1.ext r2.f0 (fun b o hb => ?_) (fun b o hb => ?_) fun p h1 h2 => r2.nf p ⟨h1, h2⟩
      · have : b ≠ a := fun w => by subst w; rw [hFa] at hb; cases hb
        show (if b = a then none else H2 b) = _
        rw [if_neg this]; exact r2.fh _ _ hb
      · have : b ≠ a := fun w => by subst w; rw [ha] at hb; cases hb
        show (if b = a then none else H2 b) = _
        rw [if_neg this]; exact sH _ _ hb
theorem RF.rv {B : Base} {σ : St} {env : En} {F : Hp} {Q : D → Prop} {v : V} {H : Hp} (h : RF X B σ env F (fun ds => Q (.lst ds)) v H) : RV X B σ env F Q v H := by
  obtain ⟨F', H1, p, vs, ds, rfl, hp, rfl, r, s, hd, q⟩ := h
  exact (RV.newLst r hd q p hp).weaken s
def cFresh (ts : TDs) : TD := fun env Q => ts env fun ds => Q (.lst ds)
theorem QF.e {e : Expr} {ts : TDs} (h : QF X e ts) : QE X e (cFresh ts) := ⟨fun B σ F H env Q rp hq => wE_mono (h B σ F H env _ rp hq) fun v H' z => z.rv⟩
def cComp (ix : List Nat) (ti : TD) (tt : TB) (te : TD) : TDs := fun env Q => ti env fun d => ∃ xs, itemsD d = some xs ∧ comps tt te (capE 1 ix env) Q xs []
theorem comp_seq {B : Base} {σ : St} {F H : Hp} {env : En} {P : List D → Prop} {R : It → Hp → Prop} (hi : QE X iter ti) (rp : Rep X.K B F H σ env) (h : ti env fun d => ∃ xs, itemsD d = some xs ∧ P xs)
    (hR : ∀ (J : It) (F1 H1 : Hp) (xs : List D), Rep X.K B F1 H1 σ env → Same F F1 → Steps X.K J F1 xs → P xs → R J H1) : iSeq X.K (wE X iter) σ H R := by
  refine wE_mono (hi B σ F H env _ rp h) fun v H1 ⟨F1, d, r1, s1, d1, xs, hx, q1⟩ => ?_
  cases d with
  | lst ys =>
    simp only [itemsD] at hx; cases hx
    simp only [Den] at d1
    obtain ⟨a, vs, rfl, q, r⟩ := d1
    exact .inl ⟨a, rfl, .inl ⟨⟨vs, r1.fh.seq q⟩, hR _ F1 H1 _ r1 s1 (steps_list q r) q1⟩⟩
  | tup ys =>
    simp only [itemsD] at hx; cases hx
    simp only [Den] at d1
    obtain ⟨a, vs, rfl, q, r⟩ := d1
    exact .inl ⟨a, rfl, .inr ⟨⟨vs, Same.seqT r1.fh q⟩, hR _ F1 H1 _ r1 s1 (steps_tup q r) q1⟩⟩
  | str z =>
    simp only [itemsD] at hx; cases hx
    simp only [Den] at d1
    subst d1
    exact .inr ⟨z, rfl, hR _ F1 H1 _ r1 s1 steps_str q1⟩
  | _ => simp only [itemsD] at hx; cases hx
theorem qf_comp (hc : X.calm = true) (O : CompOk X N' 1 ix scope) (hN : N'.Nodup) (h0 : N'[0]? = some x) (hx : (relabel scope X.env).names.lookup x = some .local) (hi : QE X iter ti)
    (ht : ∀ C s H fp pins, QIfs (compCx X N' scope C s H fp pins) ifs tt) (he : ∀ C s H fp pins, QE (compCx X N' scope C s H fp pins) elt te) (hs : ∀ x, foldedSetIterable iter X.env x = pure x := by intro _; rfl) :
    QF X (.ListComp elt [⟨.Name x px, iter, ifs, 0⟩] scope pos) (cComp ix ti tt te) := by
  refine ⟨?_⟩
  intro B σ F H env Q rp h
  refine wE_of (pe_comp hc (pi_seq pe_w) O hs) ?_
  exact comp_seq hi rp h fun J F1 H1 xs r1 s1 S q => comp_core hN h0 hx ht he s1 r1 S q
def cCompR (f : List D → (Int → Nat → Prop) → Prop) (ix : List Nat) (ts : TDs) (tt : TB) (te : TD) : TDs := fun env Q => ts env fun xs => f xs fun lo n => comps tt te (capE 1 ix env) Q (intsD lo n) []
end
end L2.L3
set_option Elab.async false
set_option linter.all false
set_option maxRecDepth 100000
set_option maxHeartbeats 4000000
namespace L2.L3
open PySem PySem.Spec PyProof.Rows
section
variable {X : Cx} {a b c e : Expr} {es : List Expr} {ta tb tc : TD} {tA tB' : TB} {ts : TDs} {p p2 pos : Pos} {rest : List Expr}
theorem q_abs (hm : X.mg "abs" = none) (ha : QA X [e] ts) (hg : Gl X "abs" := by rfl) (he : starEach [e] X.env = (false, eval e X.env) :: starEach [] X.env := by exact star_of rfl) : QE X (.Call (.Name "abs" p) [e] [] pos) (cCall absF ts) :=
  q_callB call_abs c3_abs hg hm boot_abs' ha (he := he)
theorem q_len (hm : X.mg "len" = none) (ha : QA X [e] ts) (hg : Gl X "len" := by rfl) (he : starEach [e] X.env = (false, eval e X.env) :: starEach [] X.env := by exact star_of rfl) : QE X (.Call (.Name "len" p) [e] [] pos) (cCall lenF ts) :=
  q_callB (call_len_seq.or call_len_str) c3_len hg hm boot_len' ha (he := he)
theorem q_all (hm : X.mg "all" = none) (ha : QA X [e] ts) (hg : Gl X "all" := by rfl) (hc : X.calm = true := by rfl) (he : starEach [e] X.env = (false, eval e X.env) :: starEach [] X.env := by exact star_of rfl) : QE X (.Call (.Name "all" p) [e] [] pos) (cCall allF ts) :=
  q_callB (call_all hc) c3_all hg hm boot_all' ha (he := he)
def isiR (n : String) (x : D) (Q : D → Prop) : Prop := ∃ k, isiK (kdD x) n = some k ∧ Q (.bl k)
def cIsi (n : String) (ta : TD) : TD := fun env Q => ta env fun x => isiR n x Q
theorem q_isi {n : Str} {m : String} (hm : X.mg "isinstance" = none) (ht : X.mg n = none) (hb : bootBuiltins n = some (.type m)) (ha : QE X a ta) (hg : Gl X "isinstance" := by rfl) (hg2 : Gl X n := by rfl) (hn : n ≠ "__name__" := by decide) (hd : (n == ("__debug__" : Str)) = false := by decide)
    (he : starEach [a, .Name n p2] X.env = (false, eval a X.env) :: starEach [.Name n p2] X.env := by exact star_of rfl) (hpl : (backTo pos (starEach [.Name n p2] X.env)).any (·.1) = false := by rfl)
    (he2 : starEach [.Name n p2] X.env = (false, eval (.Name n p2) X.env) :: starEach [] X.env := by exact star_of rfl) : QE X (.Call (.Name "isinstance" p) [a, .Name n p2] [] pos) (cIsi m ta) := by
  have h := q_callB (p := p) (pos := pos) call_isi c3_isi hg hm boot_isi' (qa_cons ha (qa_cons (qty hg2 ht hb hn hd) qa_nil he2) he) (he := he) (hpl := hpl)
  exact ⟨fun B σ F H env Q rp hq => h B σ F H env Q rp hq⟩
variable {N' : List Str} {nt : Nat} {ix : List Nat} {scope : Scope} {elt iter : Expr} {ifs : List Expr} {x : Str} {px py spos : Pos} {tt : TB} {te ti : TD}
theorem CompOk.of (sc : Scope) (hsc : X.env.scope = sc) (kind : scope.kind = .function) (nocell : ∀ x ∈ scope.names, x.2 ≠ .cell) (names : ∀ x ∈ scope.names, x.2 = .local → scope.names.lookup x.1 = some .local)
    (free : ∀ x ∈ scope.names, x.2 = .free → sc.names.lookup x.1 = some .cell)
    (caps : ∀ (j : Nat) (i : Nat), ix[j]? = some i → ∃ x, N'[nt + j]? = some x ∧ X.N[i]? = some x ∧ (x, NameKind.free) ∈ scope.names ∧ (relabel scope X.env).names.lookup x = some .cell) (len : N'.length = nt + ix.length) : CompOk X N' nt ix scope :=
  ⟨kind, nocell, names, by rw [hsc]; exact free, caps, len⟩
end
end L2.L3
set_option Elab.async false
set_option linter.all false
set_option maxRecDepth 100000
set_option maxHeartbeats 4000000
namespace L2.L3
open PySem PySem.Spec PyProof.Rows
section
variable {K : PySem.W.Frag} {B : Base} {F H : Hp} {σ : St} {env : En} {p : Addr} {o o' : HO}
end
section
variable {X : Cx} {a b : Expr} {ta tb : TD} {pos : Pos}
def cDisp (ks : List Key) (ts : TDs) : TD := fun env Q => ts env fun xs => Q (.dct ks xs)
end
end L2.L3
set_option Elab.async false
set_option linter.all false
set_option maxRecDepth 100000
set_option maxHeartbeats 4000000
namespace L2.L3
open PySem PySem.Spec PyProof.Rows
section
variable {X : Cx} {e : Expr} {ts : TDs} {pos : Pos}
def dExtend (i : Nat) (te : TDs) : TS3 := fun D env => ∃ xs, env[i]? = some (some (.own xs)) ∧ te env fun ys => xs.length + ys.length ≤ sizeLine ∧ D.nx (env.set i (some (.own (xs ++ ys))))
end
end L2.L3
set_option Elab.async false
set_option linter.all false
set_option maxRecDepth 100000
set_option maxHeartbeats 4000000
namespace L2.L3
open PySem PySem.Spec PyProof.Rows
theorem ObjOk.at {P : Program} {w : World} {H : Hp} {h : Heap} {a : Addr} {o : HO} (x : ObjOk P w H h a o) : ∃ ob, h.get? a = some ob := by
  cases o with
  | lst xs => obtain ⟨_, _, _, _, e⟩ := x; exact ⟨_, e⟩
  | tup xs => obtain ⟨_, _, _, ob, e, _⟩ := x; exact ⟨_, e⟩
  | dK kvs => obtain ⟨_, _, _, _, o, _, _, e, _⟩ := x; exact ⟨_, e⟩
  | dT kvs => obtain ⟨_, _, _, _, o, _, _, e, _⟩ := x; exact ⟨_, e⟩
  | set S n => obtain ⟨o, _, _, _, e, _⟩ := x; exact ⟨_, e⟩
  | ins C dx fs => obtain ⟨_, _, _, e, _⟩ := x; exact ⟨_, e⟩
  | own y => exact x
  | xd fs => obtain ⟨_, ⟨_, _, _, e, _⟩, _⟩ := x; exact ⟨_, e⟩
  | rng lo hi => obtain ⟨_, _, _, e⟩ := x; exact ⟨_, e⟩
  | frz ob u => obtain ⟨e, _⟩ := x; exact ⟨_, e⟩
  | tbl ps => exact ⟨_, (show h.get? a = some _ from x)⟩
  | met f y => exact ⟨_, (show h.get? a = some _ from x)⟩
  | ext φ => obtain ⟨_, ⟨_, e⟩, _⟩ := x; exact ⟨_, e⟩
def Flies (H : Hp) (h0 h : Heap) (a : Addr) (cls : Value) : Prop := h0.get? a = none ∧ H a = none ∧ ∃ oe vs, h.get? a = some oe ∧ oe.cls = cls ∧ oe.dict = none ∧ oe.data = .fields vs ∧
  (vs[1]? = some .none ∨ ∃ T oT ts, vs[1]? = some (.ref T) ∧ h0.get? T = none ∧ H T = none ∧ T ≠ a ∧ h.get? T = some oT ∧ oT.data = .fields ts ∧ ts[3]? = some .none)
theorem Flies.older {H : Hp} {g h0 h : Heap} {a : Addr} {cls : Value} (x : Flies H h0 h a cls) (k : ∀ b o, g.get? b = some o → ∃ o', h0.get? b = some o') : Flies H g h a cls := by
  have none_ : ∀ b, h0.get? b = none → g.get? b = none := fun b e => by
    cases q : g.get? b with
    | none => rfl
    | some o => obtain ⟨o', e'⟩ := k b o q; rw [e] at e'; cases e'
  obtain ⟨n, f, oe, vs, he, hc, hdc, hd, z⟩ := x
  refine ⟨none_ a n, f, oe, vs, he, hc, hdc, hd, ?_⟩
  rcases z with z | ⟨T, oT, ts, h1, h2, h3⟩
  · exact .inl z
  · exact .inr ⟨T, oT, ts, h1, none_ T h2, h3⟩
def CXe (P : Program) (w : World) : CXT := fun outer H s E e s' => ∃ (a : Addr) (C : Value) (H' : Hp), e = .ref a ∧ s'.os = s.os ∧ AllBare s'.gens ∧ Un (frs outer) [] H H' s.heap s'.heap ∧ HOk P w H' s'.heap ∧ Flies H' s.heap s'.heap a C ∧ E C none H'
theorem entry_made {M : Model} {A : Around} {E : Value → Shared → Prop} {s : Shared} {base : Heap} {env : Env} {outer : List Env} {L x : Addr} {ox : Obj} {fs : Array Value} {hd0 : Value} {nx0 : Bool} {Q : Unit → Shared → Prop}
    (hA : A.frames = some (env :: outer)) (ff : s.heap.FunFrames base (env :: outer)) (hL : env.frame = some L) (hx : s.heap.get? x = some ox) (hdx : ox.data = .fields fs) (h2 : 1 < fs.size)
    (k : ∀ h' T oT ts, (∀ b o, s.heap.get? b = some o → b ≠ x → b ∉ frs (env :: outer) → h'.get? b = some o) → (∀ b o, s.heap.get? b = some o → b ∈ frs (env :: outer) → ∃ sl, h'.get? b = some { o with slots := sl }) →
      h'.get? x = some (ox.mapFields (·.setIfInBounds 1 (.ref T))) → s.heap.get? T = none → T ≠ x → h'.get? T = some oT → oT.data = .fields ts → ts[3]? = some .none → Q () { s with heap := h' }) :
    wpAny M A (do let a ← frameOf env; let pl ← entryPlaceOf L nx0; let b ← EntryCells.newEntry hd0 a .none (rawInt L) .none pl; setField (.ref x) 1 b) (fun _ s' => wpAny M A (setFlight (.ref x) none) Q E s') E s := by
  have xnf : x ∉ frs (env :: outer) := fun z => by
    obtain ⟨_, o, e, nf⟩ := ff.mem z
    rw [hx] at e; cases e; exact nf fs hdx
  refine wpAny_bind (wpAny_frameOf_fun hA ff hL fun g so => ?_)
  refine wpAny_bind (wpAny_entryPlaceOf fun pl ipl => ?_)
  unfold EntryCells.newEntry newFields
  refine wpAny_bind (wpAny_newObj_type ?_ (ipl.sizeOk5 _ _ _ _ _))
  have gx : g.get? x = some ox := (so.2.1 x xnf).trans hx
  generalize hno : ({ cls := .type "traceback", dict := none, data := .fields ([hd0, .ref L, .none, rawInt L, .none] ++ (if pl.isEmpty then List.replicate 6 Value.none else pl)).toArray } : Obj) = no
  have nod : no.data = .fields ([hd0, .ref L, .none, rawInt L, .none] ++ (if pl.isEmpty then List.replicate 6 Value.none else pl)).toArray := by rw [← hno]
  have nofree : no.isFreed = false := Obj.isFreed_of_fields nod
  have gx1 : (g.push no).get? x = some ox := Heap.get?_push_of_some no gx
  have gT1 : (g.push no).get? g.objs.size = some no := Heap.get?_push_size g nofree
  have Tx : g.objs.size ≠ x := fun z => absurd (Heap.lt_size gx) (by rw [z]; exact Nat.lt_irrefl _)
  refine wpAny_setField gx1 hdx h2 ?_
  have dx2 := Obj.data_mapFields hdx (·.setIfInBounds 1 (Value.ref g.objs.size))
  have gx2 := Heap.get?_update_self (Obj.mapFields (·.setIfInBounds 1 (Value.ref g.objs.size))) gx1 (Obj.isFreed_of_fields dx2)
  have gT2 : ((g.push no).update x (Obj.mapFields (·.setIfInBounds 1 (Value.ref g.objs.size)))).get? g.objs.size = some no := (Heap.get?_update_other _ _ (Ne.symm Tx)).trans gT1
  unfold setFlight
  refine wpAny_bind (wpAny_field gx2 dx2 (x := .ref g.objs.size) (by simp [h2]) ?_)
  rw [if_pos (show (Value.ref g.objs.size != Value.none) = true from by simp)]
  have sz3 : 3 < ([hd0, .ref L, .none, rawInt L, .none] ++ (if pl.isEmpty then List.replicate 6 Value.none else pl)).toArray.size := by
    simp only [List.size_toArray, List.length_append, List.length_cons, List.length_nil]; omega
  refine wpAny_setField gT2 nod sz3 ?_
  have oth : ∀ b, b ≠ x → b ≠ g.objs.size → (((g.push no).update x (Obj.mapFields (·.setIfInBounds 1 (Value.ref g.objs.size)))).update g.objs.size (Obj.mapFields (·.setIfInBounds 3 ((none : Option Addr).elim Value.none fun f => rawInt f)))).get? b = (g.push no).get? b := fun b b1 b2 => by
    rw [Heap.get?_update_other _ _ (Ne.symm b2), Heap.get?_update_other _ _ (Ne.symm b1)]
  have ne_g : ∀ b o, g.get? b = some o → b ≠ g.objs.size := fun b o e z => absurd (Heap.lt_size e) (by rw [z]; exact Nat.lt_irrefl _)
  have Tn : s.heap.get? g.objs.size = none := Heap.get?_none_of_le (by rw [so.1]; exact Nat.le_refl _)
  refine k _ g.objs.size _ _ (fun b o e b1 b2 => ?_) (fun b o e b2 => ?_) ?_ Tn Tx (Heap.get?_update_self _ gT2 (Obj.isFreed_of_fields (Obj.data_mapFields nod _))) (Obj.data_mapFields nod _) ?_
  · have e1 : g.get? b = some o := (so.2.1 b b2).trans e
    rw [oth b b1 (ne_g b o e1)]; exact Heap.get?_push_of_some no e1
  · obtain ⟨sl, e1⟩ := so.2.2 b o e
    have b1 : b ≠ x := fun z => xnf (z ▸ b2)
    exact ⟨sl, by rw [oth b b1 (ne_g b _ e1)]; exact Heap.get?_push_of_some no e1⟩
  · rw [Heap.get?_update_other _ _ Tx]; exact gx2
  · simp [Array.getElem?_setIfInBounds]
theorem dict_mapFields (o : Obj) (f : Array Value → Array Value) : (o.mapFields f).dict = o.dict := by
  obtain ⟨c, d, dt, sl⟩ := o
  cases dt <;> rfl
theorem note_fly {M : Model} {P : Program} {w : World} {A : Around} {env : Env} {outer : List Env} {base : Heap} {H0 H1 : Hp} {h0 : Heap} {s1 : Shared} {a : Addr} {C : Value} {L : Addr} {Q : Unit → Shared → Prop} {E : Value → Shared → Prop}
    (hfr : A.frames = some (env :: outer)) (hf : env.frame = some L) (FF : s1.heap.FunFrames base (env :: outer)) (ff : ∀ b ∈ frs (env :: outer), H1 b = none) (hok : HOk P w H1 s1.heap)
    (un : Un (frs (env :: outer)) [] H0 H1 h0 s1.heap) (Fl : Flies H1 h0 s1.heap a C)
    (h : ∀ h', Un (frs (env :: outer)) [] H0 H1 h0 h' → HOk P w H1 h' → Flies H1 h0 h' a C → Q () { s1 with heap := h' }) :
    wpAny M A (noteFrame (.ref a) env) (fun _ s' => wpAny M A (setFlight (.ref a) none) Q E s') E s1 := by
  obtain ⟨n0, na, oe, vs, he, hc, hdc, hd, z⟩ := Fl
  have hsz : 1 < vs.size := by
    rcases z with z | ⟨T, oT, ts, h1, _⟩
    · exact (Array.getElem?_eq_some_iff.mp z).1
    · exact (Array.getElem?_eq_some_iff.mp h1).1
  have core : ∀ (hid : List Addr) (h1 : Heap), a ∈ hid → (∀ b ∈ hid, h0.get? b = none ∧ H1 b = none) → (∀ b o, s1.heap.get? b = some o → b ∉ hid → h1.get? b = some o) → (∀ b, h1.get? b = none → s1.heap.get? b = none) →
      ∀ h' T oT ts, (∀ b o, h1.get? b = some o → b ≠ a → b ∉ frs (env :: outer) → h'.get? b = some o) → (∀ b o, h1.get? b = some o → b ∈ frs (env :: outer) → ∃ sl, h'.get? b = some { o with slots := sl }) →
      h'.get? a = some (oe.mapFields (·.setIfInBounds 1 (.ref T))) → h1.get? T = none → T ≠ a → h'.get? T = some oT → oT.data = .fields ts → ts[3]? = some .none → Q () { s1 with heap := h' } := by
    intro hid h1 ha hids hkeep hnone h' T oT ts k1 k2 k3 hTn hTa hT hdT h3
    have keepN : ∀ b o, s1.heap.get? b = some o → b ∉ hid → b ∉ frs (env :: outer) → h'.get? b = some o := fun b o e nb nf => k1 b o (hkeep b o e nb) (fun z => nb (z ▸ ha)) nf
    have frn : ∀ b ∈ frs (env :: outer), ∀ o, h0.get? b = some o → b ∉ hid := fun b _ o e z => by rw [(hids b z).1] at e; cases e
    have hs := hnone T hTn
    refine h h' ⟨fun b o e n hb hx => ?_, fun b o e n hb hx => ?_, un.free, fun b o e hx => ?_, un.tups, un.frzs, un.tbls⟩ (fun b u e => ?_) ?_
    · exact keepN b o (un.keep b o e n hb hx) (fun z => by rw [(hids b z).1] at e; cases e) hb
    · obtain ⟨s2, e2⟩ := un.slot b o e n hb hx
      obtain ⟨s3, e3⟩ := k2 b _ (hkeep b _ e2 (frn b hb o e)) hb
      exact ⟨s3, e3⟩
    · obtain ⟨o', e'⟩ := un.there b o e hx
      have nb : b ∉ hid := fun z => by rw [(hids b z).1] at e; cases e
      by_cases hb : b ∈ frs (env :: outer)
      · obtain ⟨s3, e3⟩ := k2 b o' (hkeep b o' e' nb) hb
        exact ⟨_, e3⟩
      · exact ⟨o', keepN b o' e' nb hb⟩
    · refine (hok b u e).stay (fun c v hc q => ?_) (fun _ q => q) fun _ _ q => q
      have hcn : H1 c ≠ none := by
        rcases hc with z | z
        · rw [z, e]; simp
        · rw [z]; simp
      exact keepN c v q (fun z => hcn (hids c z).2) (fun z => hcn (ff c z))
    · refine ⟨n0, na, _, _, k3, (Obj.cls_mapFields _ _).trans hc, (dict_mapFields _ _).trans hdc, Obj.data_mapFields hd _, .inr ⟨T, oT, ts, by simp [hsz], ?_, ?_, hTa, hT, hdT, h3⟩⟩
      · cases q : h0.get? T with
        | none => rfl
        | some o => obtain ⟨o', e'⟩ := un.there T o q (by simp); rw [hs] at e'; cases e'
      · cases q : H1 T with
        | none => rfl
        | some u => obtain ⟨ob, e'⟩ := ObjOk.at (hok T u q); rw [hs] at e'; cases e'
  rcases z with z | ⟨T, oT, ts, h1, hT0, hTn, hTa, hT, hdT, h3⟩
  ·
    unfold noteFrame
    simp only [hf]
    refine wpAny_bind (wpAny_field he hd z ?_)
    rw [if_neg (by decide)]
    exact entry_made hfr FF hf he hd hsz (core [a] s1.heap (by simp) (fun b hb => by rw [List.mem_singleton.mp hb]; exact ⟨n0, na⟩) (fun b o e _ => e) (fun b e => e))
  ·
    unfold noteFrame
    simp only [hf]
    refine wpAny_bind (wpAny_field he hd h1 ?_)
    rw [if_pos (show (Value.ref T != Value.none) = true from by simp)]
    refine wpAny_bind (wpAny_field hT hdT h3 ?_)
    rw [if_neg (show ¬ ((Value.none == rawInt L) = true) from by simp [rawInt])]
    refine wpAny_bind (wpAny_setField hT hdT (Array.getElem?_eq_some_iff.mp h3).1 ?_)
    have other : ∀ b, b ≠ T → (s1.heap.update T (Obj.mapFields (·.setIfInBounds 3 Value.none))).get? b = s1.heap.get? b := fun b hb => Heap.get?_update_other _ _ (Ne.symm hb)
    have noRec : ∀ b o, s1.heap.get? b = some o → (∀ vs, o.data ≠ .fields vs) → b ≠ T := fun b o hb hnf q => by
      subst q; rw [hT] at hb; cases hb; exact hnf ts hdT
    refine entry_made (s := { s1 with heap := s1.heap.update T (Obj.mapFields (·.setIfInBounds 3 Value.none)) }) hfr (FF.of_keeps fun b o hb hnf => ⟨o, (other b (noRec b o hb hnf)).trans hb, rfl⟩) hf ((other a (Ne.symm hTa)).trans he) hd hsz ?_
    refine core [a, T] _ (by simp) (fun b hb => ?_) (fun b o e nb => ?_) (fun b e => ?_)
    · rcases List.mem_cons.mp hb with z | hb
      · subst z; exact ⟨n0, na⟩
      · rw [List.mem_singleton.mp hb]; exact ⟨hT0, hTn⟩
    · rwa [other b (fun z => nb (by simp [z]))]
    · by_cases z : b = T
      · subst z
        have := Heap.get?_update_self (Obj.mapFields (·.setIfInBounds 3 Value.none)) hT (Obj.isFreed_of_fields (Obj.data_mapFields hdT _))
        rw [this] at e; cases e
      · rwa [other b z] at e
end L2.L3
set_option Elab.async false
set_option linter.all false
set_option maxRecDepth 100000
set_option maxHeartbeats 4000000
namespace L2.L3
open PySem PySem.Spec PyProof.Rows
def Thrown (X : Cx) (pins : List (Addr × Obj)) (σ : St) (H' : Hp) (a : Addr) (C : Value) (s' : Shared) : Prop := ∃ (Hc : Hp) (sc : Shared), Inv X pins σ Hc sc ∧ s'.os = sc.os ∧ AllBare s'.gens ∧ Un (frs X.stack) [] Hc H' sc.heap s'.heap ∧ HOk X.prog X.w H' s'.heap ∧ Flies H' sc.heap s'.heap a C
section
variable {X : Cx} {pins : List (Addr × Obj)} {σ : St} {H H' : Hp} {a : Addr} {C : Value} {s s' : Shared}
theorem Thrown.inv (t : Thrown X pins σ H' a C s') : Inv X pins σ H' s' := by
  obtain ⟨Hc, sc, I, os, bare, un, hok, fl⟩ := t
  exact I.call' os un hok bare fun b z => absurd z (by simp)
theorem Thrown.wish (t : Thrown X pins σ H' a C s') (E : Value → Shared → Prop) : Thrown (X.wish E) pins σ H' a C s' := by
  obtain ⟨Hc, sc, I, r⟩ := t
  exact ⟨Hc, sc, I.wish E, r⟩
theorem Thrown.unwish {E : Value → Shared → Prop} (t : Thrown (X.wish E) pins σ H' a C s') : Thrown X pins σ H' a C s' := by
  obtain ⟨Hc, sc, I, r⟩ := t
  exact ⟨Hc, sc, I.unwish, r⟩
theorem Thrown.made {vs : List Value} {h' : Heap} {e : Addr} (I : Inv X pins σ H s) (m : Heap.MadeExcOf s.heap h' e C vs) : Thrown X pins σ H e C { s with heap := h' } := by
  obtain ⟨t, ht, _⟩ := m.there
  have hn : H e = none := by
    cases q : H e with
    | none => rfl
    | some u => obtain ⟨ob, z⟩ := ObjOk.at (I.hok e u q); rw [m.new] at z; cases z
  exact ⟨H, s, I, rfl, I.bare, Un.kept m.keeps, I.hok.kept m.keeps, m.new, hn, _, _, ht, rfl, rfl, rfl, .inl rfl⟩
theorem Thrown.note {Q : Unit → Shared → Prop} {E : Value → Shared → Prop} (t : Thrown X pins σ H' a C s') (hst : X.stack = X.env :: X.outer) (hf : X.env.frame = some X.env.locals)
    (h : ∀ s'', Thrown X pins σ H' a C s'' → Q () s'') : wpAny (model X.prog X.w) X.A (noteFrame (.ref a) X.env) (fun _ s => wpAny (model X.prog X.w) X.A (setFlight (.ref a) none) Q E s) E s' := by
  have I' := t.inv
  obtain ⟨Hc, sc, I, os, bare, un, hok, fl⟩ := t
  have hfr := I'.ok.frames
  have FF := I'.stack
  have ff := I'.stkFree
  rw [hst] at hfr FF ff un
  refine note_fly hfr hf FF ff hok un fl fun h' un' hok' fl' => h _ ⟨Hc, sc, I, os, bare, by rw [hst]; exact un', hok', fl'⟩
theorem Thrown.leave {P : Program} {w : World} {K : PySem.W.Frag} {mg : Str → Option Value} {base : Heap} {N : List Str} {qual : Str} {scope : Scope} {f : Addr} {cd : Value} {A : Around} {outer : List Env} {s0 : Shared} {H0 : Hp} {E : XK}
    (t : Thrown (cxOf (CXe P w) P w K mg base N qual scope f cd A outer s0 H0 E) pins σ H' a C s') (q : E C none H') : (cxOf (CXe P w) P w K mg base N qual scope f cd A outer s0 H0 E).xe (.ref a) s' := by
  show wpAny (model P w) _ (leaving _ (.ref a)) _ _ s'
  unfold leaving
  refine wpAny_bind (t.note rfl rfl fun s'' t'' => ?_)
  have I := t''.inv
  obtain ⟨Hc, sc, Ic, os, bare, un, hok, fl⟩ := t''
  refine ⟨a, C, H', rfl, I.os, I.bare, I.base, I.hok, fl.older fun b o e => ?_, q⟩
  exact Ic.base.there b o e (by show b ∉ ([] : List Addr); simp)
end
structure Ends4 extends Ends3 where
  xc : Str → Prop
abbrev TS4 := Ends4 → En → Prop
def XZ (X : Cx) (B : Base) (xc : Str → Prop) : Value → Shared → Prop := fun ex s' => ∃ (pins : List (Addr × Obj)) (a : Addr) (c : Str) (C : Value) (σ' : St) (H' F' : Hp) (env' : En), ex = .ref a ∧ Thrown X pins σ' H' a C s' ∧ Rep X.K B F' H' σ' env' ∧ X.mg c = some C ∧ xc c
structure QZ (X : Cx) (st : Stmt) (t : TS4) : Prop where
  of ::
  run : ∀ (B : Base) (σ : St) (F H : Hp) (env : En) (D : Ends4), Rep X.K B F H σ env → t D env → wS (X.wish (XZ X B D.xc)) st (RS X B D.toEnds3) σ H
structure QZs (X : Cx) (st : List Stmt) (t : TS4) : Prop where
  of ::
  run : ∀ (B : Base) (σ : St) (F H : Hp) (env : En) (D : Ends4), Rep X.K B F H σ env → t D env → wSs (X.wish (XZ X B D.xc)) st (RS X B D.toEnds3) σ H
section
variable {X : Cx} {c e : Expr} {es : List Expr} {st : Stmt} {sts xs ys : List Stmt} {t u : TS3} {p q : TS4} {tc : TB} {te : TD} {ts : TDs} {pos : Pos}
theorem SP.rewish {E E' : Value → Shared → Prop} {pins : List (Addr × Obj)} {D : Ends} {f : Flow} {s' : Shared} (h : SP (X.wish E) pins D f s') : SP (X.wish E') pins D f s' := by
  cases f with
  | next => obtain ⟨σ', H', I, q⟩ := h; exact ⟨σ', H', I.unwish.wish _, q⟩
  | brk => obtain ⟨σ', H', I, q⟩ := h; exact ⟨σ', H', I.unwish.wish _, q⟩
  | cont => obtain ⟨σ', H', I, q⟩ := h; exact ⟨σ', H', I.unwish.wish _, q⟩
  | ret u => obtain ⟨v, σ', H', I, r, q⟩ := h; exact ⟨v, σ', H', I.unwish.wish _, r, q⟩
theorem wS_nox {E : Value → Shared → Prop} {D : Ends} {σ : St} {H : Hp} (h : wS X.nox st D σ H) : wS (X.wish E) st D σ H := fun pins s I =>
  wpAny_mono (h pins s (I.unwish.wish _)) (fun _ _ q => SP.rewish q) fun _ _ z => False.elim z
theorem wSs_nox {E : Value → Shared → Prop} {D : Ends} {σ : St} {H : Hp} (h : wSs X.nox sts D σ H) : wSs (X.wish E) sts D σ H := fun pins s I =>
  wpAny_mono (h pins s (I.unwish.wish _)) (fun _ _ q => SP.rewish q) fun _ _ z => False.elim z
theorem wT_nox {E : Value → Shared → Prop} {Q : Bool → Hp → Prop} {σ : St} {H : Hp} (h : wT X.nox c σ H Q) : wT (X.wish E) c σ H Q := fun pins s I =>
  wpAny_mono (h pins s (I.unwish.wish _)) (fun _ _ ⟨H', I', q⟩ => ⟨H', I'.unwish.wish _, q⟩) fun _ _ z => False.elim z
theorem wA_nox {E : Value → Shared → Prop} {Q : List V → Hp → Prop} {σ : St} {H : Hp} (h : wA X.nox es σ H Q) : wA (X.wish E) es σ H Q := fun pos pins s I =>
  wpAny_mono (h pos pins s (I.unwish.wish _)) (fun _ _ ⟨v, H', I', r, q⟩ => ⟨v, H', I'.unwish.wish _, r, q⟩) fun _ _ z => False.elim z
def zUp (t : TS3) : TS4 := fun D env => t D.toEnds3 env
theorem qz_up (h : QS X.nox st t) : QZ X st (zUp t) := ⟨fun B σ F H env D r hq => wS_nox (h B σ F H env D.toEnds3 r hq)⟩
theorem qzs_up (h : QSs X.nox sts t) : QZs X sts (zUp t) := ⟨fun B σ F H env D r hq => wSs_nox (h B σ F H env D.toEnds3 r hq)⟩
def zSeq (t u : TS4) : TS4 := fun D env => t { D with nx := u D } env
theorem qzs_one (h : QZ X st p) : QZs X [st] p := ⟨fun B σ F H env D rp hq => wSs_of (pss_one ps_w) (h.run B σ F H env D rp hq)⟩
theorem qzs_cons (h1 : QZ X st p) (h2 : QZs X sts q) : QZs X (st :: sts) (zSeq p q) := by
  refine ⟨fun B σ F H env D rp h => wSs_of (pss_cons ps_w pss_w) ?_⟩
  exact wS_mono (h1.run B σ F H env { D with nx := q D } rp h) (fun σ' H' ⟨F', env', rp', q⟩ => h2.run B σ' F' H' env' D rp' q) (fun _ _ q => q) (fun _ _ q => q) (fun _ _ q => q)
def zIf (c : TB) (t u : TS4) : TS4 := fun D env => c env fun k => if k = true then t D env else u D env
theorem qz_if (hc : QT X.nox c tc) (ha : QZs X xs p) (hb : QZs X ys q) : QZ X (.If c xs ys pos) (zIf tc p q) := by
  refine ⟨fun B σ F H env D rp h => wS_of (ps_if pt_w pss_w pss_w) ?_⟩
  refine wT_mono (wT_nox (hc B σ F H env _ rp h)) fun k H1 ⟨F1, r1, s1, q1⟩ => ?_
  cases k with
  | true => exact ha.run B σ F1 H1 env D r1 q1
  | false => exact hb.run B σ F1 H1 env D r1 q1
theorem exc_obj {K : PySem.W.Frag} {h : Heap} {C : Addr} {bmB : List Value} {newId : String} (X : K.In h) (q : PySem.W.excIn K C bmB newId = true) :
    ∃ bm N nm qn bs hdct sn sub ab col dd k0 k1 k2 k3 k5 mN, h.get? C = some (excClassObj nm qn C N bs bm hdct sn sub ab col dd k0 k1 k2 k3 k5 newId) ∧ h.Ns N mN ∧ mN "__init__" = none ∧ OwnTail h bmB bm := by
  unfold PySem.W.excIn at q
  split at q
  · rename_i dd cd sl ho
    split at q
    · rename_i C' bm k0 k1 k2 k3 n k5 hm hs
      simp only [Bool.and_eq_true, beq_iff_eq, Bool.not_eq_true'] at q
      obtain ⟨⟨⟨⟨⟨rfl, rfl⟩, hdel⟩, ht⟩, hok⟩, hni⟩ := q
      obtain ⟨nm, bs, mro, ns, qn, hd, sn, sub, ab, col, del⟩ := cd
      dsimp only at hm hdel hok hni
      subst hm hdel
      have hsl : sl = #[k0, k1, k2, k3, some (.builtin n), k5] := by
        obtain ⟨l⟩ := sl
        simp only at hs
        rw [hs]
      subst hsl
      exact ⟨bm, ns, nm, qn, bs, hd, sn, sub, ab, col, dd, k0, k1, k2, k3, k5, _, X _ _ ho, .of_isNs (PySem.W.isNs_of_in X hok), PySem.W.nsMap_none_of_in X hok hni, PySem.W.tail_of_in X ht⟩
    · cases q
  · cases q
abbrev excVE (K : PySem.W.Frag) (C : Addr) : Bool := PySem.W.excIn K C [.type "ValueError", .type "Exception", .type "BaseException", .type "object"] "ValueError.__new__"
def zRaise (cx : Str) (ts : TDs) : TS4 := fun D env => ts env fun xs => xs.length ≤ sizeLine ∧ D.xc cx
theorem qz_raise {cx : Str} {C : Addr} {np cpos : Pos} (hC : X.mg cx = some (.ref C)) (hq : excVE X.K C = true) (hc : X.calm = true) (ha : QA X.nox [e] ts) (hg : Gl X cx := by rfl) (hdb : (cx == ("__debug__" : Str)) = false := by decide)
    (he : starEach [e] X.env = (false, eval e X.env) :: starEach [] X.env := by exact star_of rfl) (hplain : (backTo cpos (starEach ([] : List Expr) X.env)).any (·.1) = false := by rfl) :
    QZ X (.Raise (some (.Call (.Name cx np) [e] [] cpos)) none pos) (zRaise cx ts) := by
  refine ⟨fun B σ F H env D rp h pins s I => ?_⟩
  have I0 := I.unwish
  obtain ⟨bm, N, nm, qn, bs, hdct, sn, sub, ab, col, dd, k0, k1, k2, k3, k5, mN, hCo, hN, hni, T⟩ := exc_obj I0.ok.mod.kin hq
  refine wpAny_Raise_call_subT (C := C) (nm := nm) (q := qn) (N := N) (bs := bs) (bm := bm) (hdct := hdct) (sn := sn) (sub := sub) (ab := ab) (col := col) (dd := dd) (k0 := k0) (k1 := k1) (k2 := k2) (k3 := k3) (k5 := k5)
    PySem.F.excBase_ValueError (mN := mN) (T.hasType (by decide +kernel)) (I0.ok.hd hc) (by rw [he]; show (false || (backTo cpos (starEach [] X.env)).any (·.1)) = false; rw [hplain]; rfl) hni (ld_glob I hg hC ⟨rfl, ?_⟩ hdb)
  have hw := wA_nox (E := XZ X B D.xc) (ha B σ F H env _ rp h) cpos pins s I
  rw [he] at hw ⊢
  refine Calls.evalArgs_plain (wpAny_mono hw (fun us s2 ⟨vs, H2, I2, rv, F2, ds, r2, s2', d2, hl, q2⟩ => ⟨rfl, ?_, ?_, ?_, ?_, fun h' e' m => ?_⟩) fun _ _ y => y)
  · show us.length ≤ sizeLine
    rw [← rv.length, ← d2.length]; exact hl
  · exact I2.bk _ _ hCo
  · exact hN.keeps I2.bk
  · exact T.keeps I2.bk
  · exact ⟨pins, e', cx, .ref C, σ, H2, F2, env, rfl, Thrown.made I2.unwish m, r2, hC, q2⟩
end
end L2.L3
set_option Elab.async false
set_option linter.all false
set_option maxRecDepth 100000
set_option maxHeartbeats 4000000
namespace L2.L3
open PySem PySem.Spec PyProof.Rows
abbrev FwX := List D → (D → Prop) → (Str → Prop) → Prop
def spE (K : PySem.W.Frag) (mg : Str → Option Value) (f : FwX) : Sp := fun vs H Q E => ∃ (F : Hp) (ds : List D) (P : D → Prop) (R : Str → Prop), Same F H ∧ DenL K F ds vs ∧ f ds P R ∧
  (∀ (d : D) (v : V) (F' H' : Hp), Same F F' → Same H H' → Same F' H' → (∀ p, H p ≠ none → F p = none → F' p = none) → Den K F' d v → P d → Q v H') ∧
  ∀ (c : Str) (C : Value) (F' H' : Hp), Same F F' → Same H H' → Same F' H' → (∀ p, H p ≠ none → F p = none → F' p = none) → mg c = some C → R c → E C none H'
structure KnownX (P : Program) (w : World) (K : PySem.W.Frag) (mg : Str → Option Value) (base : Heap) (k : Nat) (x : Str) (f : FwX) : Prop where
  ex : ∃ (fa : Addr) (fd : FuncData) (ps : List Str), FnOk P w K mg base (CXe P w) k fa fd ps (spE K mg f) ∧ mg x = some (.ref fa) ∧ PySem.W.keepIn K (.ref fa) = true ∧ Binds K fd ps []
section
variable {P : Program} {w : World} {K : PySem.W.Frag} {mg : Str → Option Value} {base : Heap}
theorem Fun.knownX {x qual : Str} {st : Stmt} {fa : Addr} {fd : FuncData} {N ps : List Str} {k : Nat} {f : FwX} (F : Fun K x qual st fa fd) (S : FnScope N ps (defScope st)) (hmg : mg x = some (.ref fa)) (hb : Binds K fd ps [])
    (hl : ∀ ds Q R, f ds Q R → ds.length = ps.length)
    (hbody : ∀ (cdv : Value) (A : Around) (outer : List Env) (s : Shared) (H : Hp) (E : XK), Room k (A.deeper (envOfC qual (defScope st) s.heap.objs.size fa cdv)) →
      ∃ t, QZs (cxOf (CXe P w) P w K mg base N qual (defScope st) fa cdv A outer s H E) (defBody st) t ∧ ∀ ds (Q : D → Prop) (R : Str → Prop), f ds Q R → t { nx := fun _ => Q .non, rt := Q, xc := R } (start3 N ds)) :
    KnownX P w K mg base (k + 1) x f := by
  refine ⟨fa, fd, ps, ?_, hmg, F.kp, hb⟩
  obtain ⟨oc, od, kV, doc, pm, an, cdv, ct, osl, rfl, lk, hcd⟩ := F.ex
  refine fn_of lk hcd S (fun vs H Q E h => ?_) fun A outer s H vs Q E hr h => ?_
  · obtain ⟨F0, ds, P, R, _, hd, hf, _⟩ := h
    rw [← hd.length]; exact hl ds _ _ hf
  · obtain ⟨F0, ds, P', R, fh, hd, hf, kk, kx⟩ := h
    obtain ⟨t, ht, hq⟩ := hbody cdv A outer s H E hr
    refine ⟨_, pss_w, ?_⟩
    have core := ht.run _ (start N vs) F0 H (start3 N ds) _ (start3_rep fh hd) (hq ds P' R hf)
    intro pins s1 I
    refine wpAny_mono (core pins s1 (I.wish _)) (fun fl s2 z => ?_) fun ex s2 z => ?_
    · refine SP_mono (SP.unwish z) (fun σ' H' ⟨F', env', r, q⟩ => ?_) (fun v H' ⟨F', d', r, dd, q⟩ => ?_) (fun _ _ ⟨_, _, _, q⟩ => q) (fun _ _ ⟨_, _, _, q⟩ => q)
      · exact kk .non .non F' H' r.f0 r.h0 r.fh (fun p h1 h2 => r.nf p ⟨h1, h2⟩) den_non q
      · exact kk d' v F' H' r.f0 r.h0 r.fh (fun p h1 h2 => r.nf p ⟨h1, h2⟩) dd q
    · obtain ⟨pins', a, c, C, σ', H', F', env', rfl, th, r, hm, hx⟩ := z
      exact th.leave (kx c C F' H' r.f0 r.h0 r.fh (fun p h1 h2 => r.nf p ⟨h1, h2⟩) hm hx)
end
abbrev TX := En → (D → Prop) → (Str → Prop) → Prop
def XX (X : Cx) (pins : List (Addr × Obj)) (σ : St) (B : Base) (env : En) (R : Str → Prop) : Value → Shared → Prop := fun ex s' => ∃ (a : Addr) (c : Str) (C : Value) (H' F' : Hp), ex = .ref a ∧ Thrown X pins σ H' a C s' ∧ Rep X.K B F' H' σ env ∧ X.mg c = some C ∧ R c
structure QX (X : Cx) (e : Expr) (t : TX) : Prop where
  of ::
  run : ∀ (B : Base) (σ : St) (F H : Hp) (env : En) (Q : D → Prop) (R : Str → Prop), Rep X.K B F H σ env → t env Q R → ∀ (pins : List (Addr × Obj)) (s : Shared), Inv X pins σ H s →
    wpAny (model X.prog X.w) X.A (eval e X.env) (EP X pins σ (RV X B σ env F Q)) (XX X pins σ B env R) s
def cCallX (f : FwX) (ts : TDs) : TX := fun env Q R => ts env fun xs => f xs Q R
section
variable {X : Cx} {e : Expr} {es : List Expr} {ts : TDs} {tx : TX} {p pos : Pos} {x : Str} {k : Nat} {f : FwX}
theorem q_callX (h : KnownX X.prog X.w X.K X.mg X.base k x f) (hr : Room k X.A) (ha : QA X.nox (e :: es) ts) (hg : Gl X x := by rfl) (hdb : (x == ("__debug__" : Str)) = false := by decide)
    (he : starEach (e :: es) X.env = (false, eval e X.env) :: starEach es X.env := by exact star_of rfl) (hpl : (backTo pos (starEach es X.env)).any (·.1) = false := by rfl) : QX X (.Call (.Name x p) (e :: es) [] pos) (cCallX f ts) := by
  refine ⟨fun B σ F H env Q R rp hq pins s I => ?_⟩
  obtain ⟨fa, fd, ps, G, hm, hk, hb⟩ := h.ex
  refine wpAny_Call_Name_kw (ld_glob I hg hm ?_ hdb)
  have hw := wA_nox (E := XX X pins σ B env R) (ha B σ F H env _ rp hq) pos pins s (I.wish _)
  refine PySem.W.callWith_K (h₀ := X.base) I.ok.mod.kin hk (thn hw fun us s1 ⟨vs, H1, I1, r, F1, ds, r1, s1', d1, hf⟩ => ⟨I1.kIn, ?_⟩) he hpl
  have I1' := I1.unwish
  have hsp : spE X.K X.mg f (vs ++ []) H1 (RV X B σ env F Q) (fun C _ H' => ∃ (c : Str) (F' : Hp), Rep X.K B F' H' σ env ∧ X.mg c = some C ∧ R c) := by
    rw [List.append_nil]
    exact ⟨F1, ds, Q, R, r1.fh, d1, hf, fun d v F' H' a b c n hd q => ⟨F', d, r1.ext a c b n, s1'.trans a, hd, q⟩, fun c C F' H' a b c' n hm hx => ⟨c, F', r1.ext a c' b n, hm, hx⟩⟩
  have hl : (us ++ []).length = ps.length := by
    have := G.len _ _ _ _ hsp
    rw [List.append_nil] at this ⊢
    rw [← r.length]; exact this
  refine wpAny_call (codeAny_mono (G.run X.A X.stack s1 H1 ⟨us, []⟩ (us ++ []) (vs ++ []) _ _ hr I1'.env0 (hb s1 us I1'.kIn hl) (by simpa using r) hsp) fun rs s' hq' => ?_)
  cases rs with
  | error ex =>
    obtain ⟨a, C, H', rfl, os, bare, un, hok, fl, c, F', r', hm', hx⟩ := hq'
    exact ⟨a, c, C, H', F', rfl, ⟨H1, s1, I1', os, bare, un, hok, fl⟩, r', hm', hx⟩
  | ok fl =>
    cases fl with
    | ret u => exact I1'.after hq'
    | next => exact False.elim hq'
    | brk => exact False.elim hq'
    | cont => exact False.elim hq'
theorem QX.w (h : QX X e tx) {B : Base} {σ : St} {F H : Hp} {env : En} {Q : D → Prop} {R : Str → Prop} (rp : Rep X.K B F H σ env) (hq : tx env Q R) : wE (X.wish (XZ X B R)) e σ H (RV X B σ env F Q) := fun pins s I =>
  wpAny_mono (h.run B σ F H env Q R rp hq pins s I.unwish) (fun _ _ ⟨v, H', I', r, q⟩ => ⟨v, H', I'.wish _, r, q⟩) fun ex s' ⟨a, c, C, H', F', e, t, r, m, x⟩ => ⟨pins, a, c, C, σ, H', F', env, e, t, r, m, x⟩
def zRet (tx : TX) : TS4 := fun D env => tx env D.rt D.xc
def zSet (i : Nat) (tx : TX) : TS4 := fun D env => tx env (fun x => D.nx (env.set i (some (.d x)))) D.xc
def zExpr (tx : TX) : TS4 := fun D env => tx env (fun _ => D.nx env) D.xc
end
section
variable {X : Cx} {pins : List (Addr × Obj)} {σ : St} {H H' : Hp} {a : Addr} {s s' : Shared}
theorem Flies.ext {a C : Addr} {h : Heap} {H : Hp} {h0 : Heap} (f : Flies H h0 h a (.ref C)) : excAt a C h := by
  obtain ⟨_, _, oe, vs, he, hc, hdc, hdt, _⟩ := f
  exact ⟨oe, vs, he, hc, hdc, hdt⟩
end
end L2.L3
set_option Elab.async false
set_option linter.all false
set_option maxRecDepth 100000
set_option maxHeartbeats 4000000
namespace L2.L3
open PySem PySem.Spec PyProof.Rows
section
variable {X : Cx} {pins : List (Addr × Obj)} {σ : St} {H H' : Hp} {a C : Addr} {s s' : Shared}
theorem Thrown.caught (t : Thrown X pins σ H' a (.ref C) s') : H' a = none ∧ Inv X pins σ (upd H' a (.ext (excAt a C))) s' := by
  obtain ⟨Hc, sc, I, os, bare, un, hok, fl⟩ := t
  have x := fl.ext
  obtain ⟨n0, na, _⟩ := fl
  refine ⟨na, I.call' os ⟨un.keep, un.slot, fun b o e n hx => ?_, un.there, fun b xs e => ?_, fun b o u e => ?_, fun b ps e => ?_⟩ (fun b u e => ?_) bare fun b z => absurd z (by simp)⟩
  · have : b ≠ a := fun z => by subst z; rw [n0] at e; cases e
    rw [upd_ne this]; exact un.free b o e n hx
  · have q := un.tups b xs e
    rw [upd_ne (ne_of_none q na)]; exact q
  · have q := un.frzs b o u e
    rw [upd_ne (ne_of_none q na)]; exact q
  · obtain ⟨more, q⟩ := un.tbls b ps e
    exact ⟨more, by rw [upd_ne (ne_of_none q na)]; exact q⟩
  · by_cases z : b = a
    · subst z
      rw [upd_same] at e; cases e
      obtain ⟨o, vs, h1, h2⟩ := x
      exact ⟨⟨o, vs, h1, h2⟩, ⟨o, h1⟩, fun h h' ⟨o, vs, h1, h2⟩ k => ⟨o, vs, k o h1, h2⟩⟩
    · rw [upd_ne z] at e
      exact (hok b u e).stay (fun _ _ _ q => q) (fun c q => by rw [upd_ne (ne_of_none q na)]; exact q) fun c xs q => by rw [upd_ne (ne_of_none q na)]; exact q
theorem Thrown.land {M : Model} {A : Around} {C : Value} {Q : Unit → Shared → Prop} {E : Value → Shared → Prop} (t : Thrown X pins σ H' a C s') (h : ∀ s'', Thrown X pins σ H' a C s'' → Q () s'') : wpAny M A (setFlight (.ref a) none) Q E s' := by
  obtain ⟨Hc, sc, I, os, bare, un, hok, n0, na, oe, vs, he, hc, hdc, hd, z⟩ := t
  rcases z with z | ⟨T, oT, ts, h1, hT0, hTn, hTa, hT, hdT, h3⟩
  · unfold setFlight
    refine wpAny_bind (wpAny_field he hd z ?_)
    rw [if_neg (by decide)]
    exact wpAny_pure (h _ ⟨Hc, sc, I, os, bare, un, hok, n0, na, oe, vs, he, hc, hdc, hd, .inl z⟩)
  · refine wpAny_setFlight_none he hd h1 hT hdT (Array.getElem?_eq_some_iff.mp h3).1 (h _ ?_)
    have other : ∀ b, b ≠ T → (s'.heap.update T (Obj.mapFields (·.setIfInBounds 3 Value.none))).get? b = s'.heap.get? b := fun b hb => Heap.get?_update_other _ _ (Ne.symm hb)
    have old : ∀ b o, sc.heap.get? b = some o → b ≠ T := fun b o e z => by subst z; rw [hT0] at e; cases e
    have trk : ∀ b u, H' b = some u → b ≠ T := fun b u e z => by subst z; rw [hTn] at e; cases e
    refine ⟨Hc, sc, I, os, bare, ⟨fun b o e n hb hx => (other b (old b o e)).trans (un.keep b o e n hb hx), fun b o e n hb hx => ?_, un.free, fun b o e hx => ?_, un.tups, un.frzs, un.tbls⟩, fun b u e => ?_, n0, na, oe, vs, (other a (Ne.symm hTa)).trans he, hc, hdc, hd, .inr ⟨T, _, _, h1, hT0, hTn, hTa, Heap.get?_update_self _ hT (Obj.isFreed_of_fields (Obj.data_mapFields hdT _)), Obj.data_mapFields hdT _, ?_⟩⟩
    · obtain ⟨sl, q⟩ := un.slot b o e n hb hx
      exact ⟨sl, (other b (old b o e)).trans q⟩
    · obtain ⟨o', q⟩ := un.there b o e hx
      exact ⟨o', (other b (old b o e)).trans q⟩
    · refine (hok b u e).stay (fun c v hc q => ?_) (fun _ q => q) fun _ _ q => q
      refine (other c ?_).trans q
      rcases hc with z | z
      · subst z; exact trk c u e
      · exact trk c _ z
    · have := (Array.getElem?_eq_some_iff.mp h3).1
      simp [Array.getElem?_setIfInBounds, this]
theorem Inv.goes {h' : Heap} {m' : Str → Option Value} {t' : Nat} (I : Inv X pins σ H s) (hn : h'.Ns X.env.locals m') (hs : Heap.SameBut X.env.locals s.heap h') : Inv X pins (σ.map fun _ => none) H { s with heap := h', toks := t' } := by
  have lo : ∀ b o, X.s₀.heap.get? b = some o → b ≠ X.env.locals := fun b o e => Nat.ne_of_lt (Nat.lt_of_lt_of_le (Heap.lt_size e) I.ok.above)
  refine ⟨I.ok, I.os, I.bare, ⟨fun b o e n hb hx => (hs.2 b (lo b o e)).trans (I.base.keep b o e n hb hx), fun b o e n hb hx => ?_, I.base.free, fun b o e hx => ?_, I.base.tups, I.base.frzs, I.base.tbls⟩, ⟨m', hn, fun i x v e1 e2 => ?_⟩, fun y c e => ?_, I.free, I.freeC, fun p hp => ?_, fun b ob e => ?_, by simpa using I.len⟩
  · obtain ⟨sl, e1⟩ := I.base.slot b o e n hb hx
    exact ⟨sl, (hs.2 b (lo b o e)).trans e1⟩
  · obtain ⟨o', e1⟩ := I.base.there b o e hx
    exact ⟨o', (hs.2 b (lo b o e)).trans e1⟩
  · rw [List.getElem?_map] at e2
    cases q : σ[i]? with
    | none => rw [q] at e2; cases e2
    | some u => rw [q] at e2; cases e2
  · obtain ⟨w', z⟩ := I.cell y c e
    exact ⟨w', z.sameBut hs (I.cne y c e)⟩
  · obtain ⟨e, n, ne, nf, d⟩ := I.pin p hp
    exact ⟨(hs.2 p.1 ne).trans e, n, ne, nf, d⟩
  · refine (I.hok b ob e).stay (fun c w' hc q => (hs.2 c ?_).trans q) (fun _ q => q) fun _ _ q => q
    have hfree := I.free
    rintro rfl
    rcases hc with z | hc
    · rw [← z, hfree] at e; cases e
    · rw [hfree] at hc; cases hc
end
abbrev Cx.hand (X : Cx) (a : Addr) : Cx := { X with A := X.A.mark (some (.ref a)), calm := false, xe := fun _ _ => False }
theorem Inv.hand {X : Cx} {pins : List (Addr × Obj)} {σ : St} {H : Hp} {s : Shared} (I : Inv X pins σ H s) (a : Addr) : Inv (Cx.hand X a) pins σ H s :=
  ⟨⟨I.ok.mod, I.ok.kind, I.ok.glob, I.ok.blt, I.ok.above, I.ok.inj, I.ok.has, I.ok.cab, (fun z => by cases z), I.ok.frames, I.ok.stk, I.ok.exf, I.ok.bs, I.ok.bsz, I.ok.noex, I.ok.exfs, I.ok.funs, I.ok.frf⟩, I.os, I.bare, I.base, I.loc, I.cell, I.free, I.freeC, I.pin, I.hok, I.len⟩
theorem Inv.unhand {X : Cx} {a : Addr} {pins : List (Addr × Obj)} {σ : St} {H : Hp} {s : Shared} (ok : X.Ok) (I : Inv (Cx.hand X a) pins σ H s) : Inv X pins σ H s :=
  ⟨ok, I.os, I.bare, I.base, I.loc, I.cell, I.free, I.freeC, I.pin, I.hok, I.len⟩
def dTry (i : Nat) (cls : Str) (tx : TX) (tb : TS3) : TS3 := fun D env => tx env (fun _ => D.nx env) fun c => c = cls ∧ tb { nx := fun _ => False, rt := D.rt } (env.set i (some (.d (.exc cls))))
section
variable {X : Cx} {e : Expr} {tx : TX} {cls n : Str} {C : Addr} {np epos hpos pos : Pos} {b0 : Stmt} {body : List Stmt} {tb : TS3}
theorem qs_try (i : Nat) (hN : X.N.Nodup) (hst : X.stack = X.env :: X.outer) (hf : X.env.frame = some X.env.locals) (ac : PySem.W.nsIn X.K mainGlobals cls = some (some (.ref C))) (hq : excVE X.K C = true)
    (h : QX X e tx) (hb : ∀ x, QSs (Cx.hand X x) (b0 :: body) tb) (hg : Gl X cls := by rfl) (hdb : (cls == ("__debug__" : Str)) = false := by decide) (hi : X.N[i]? = some n := by rfl)
    (hx : X.env.scope.names.lookup n = some .local := by rfl) (hs : swapsWith e none epos.line X.env = pure false := by rfl) :
    QS X (.Try [.Expr e epos] [.ExceptHandler (some (.Name cls np)) (some n) (b0 :: body) hpos] [] [] pos) (dTry i cls tx tb) := by
  refine ⟨fun B σ F H env D rp ht pins s I => ?_⟩
  have hcls : (X.env.scope.kind == .class || (X.env.scope.kind == .module && X.env.locals != X.env.globals)) = false := by rw [I.ok.kind]; rfl
  have hmg : X.mg cls = some (.ref C) := PySem.W.mg_of I.ok.mod.kin I.ok.mod.glob ac
  have core := h.run B σ F H env _ _ rp ht pins s I
  refine wpAny_Try_except (wpAny_execs_cons (wpAny_Expr_any (wpAny_mono core (fun v s1 ⟨x, H1, I1, r1, F1, d1, rp1, _, _, q1⟩ => ?_) fun ex s1 z => ?_) I.quiet hs))
  · exact wpAny_execs_nil (wpAny_execs_nil ⟨σ, H1, I1, F1, env, rp1, q1⟩)
  · obtain ⟨a, c, C', H1, F1, rfl, th, r1, hm, hce, hq1⟩ := z
    rw [hce, hmg] at hm
    cases hm
    refine th.note hst hf fun s2 th2 => ?_
    have I2 := Inv.hand th2.inv a
    refine wpAny_handleBy_cons (codeAny_handlers_test (ld_glob (X := Cx.hand X a) I2 hg hmg ?_ hdb)) (by intro q; cases q)
    obtain ⟨bm, N, nm, qn, bs, hdct, sn, sub, ab, col, dd, k0, k1, k2, k3, k5, mN, hC, hNs, hni, TL⟩ := exc_obj I.ok.mod.kin hq
    have flc : ∃ ob, s2.heap.get? a = some ob ∧ ob.cls = .ref C := by
      obtain ⟨_, _, _, _, _, _, _, _, _, oe, vs, he, hc, _⟩ := th2
      exact ⟨oe, he, hc⟩
    obtain ⟨ob, hob, hobc⟩ := flc
    obtain ⟨h2, g2, d2, t2, o2⟩ := s2
    refine wpAny_excMatches_sub_self (I2.bk _ _ hC) hob hobc (TL.hasType (by decide +kernel)) (codeAny_handlers_suite_as ?_)
    refine th2.land fun s3 th3 => ?_
    obtain ⟨na, I3⟩ := th3.caught
    obtain ⟨rp3, sm⟩ := r1.laid (o := .ext (excAt a C)) na
    refine store_ok (X := Cx.hand X a) (i := i) (v := .ref a) (Inv.hand I3 a) hN hi (.inl hx) rfl (fun s4 I4 => ?_) (.inr hx)
    have hden : Den X.K (upd F1 a (.ext (excAt a C))) (.exc cls) (.ref a) := by
      simp only [Den]; exact ⟨a, C, rfl, ac, upd_same⟩
    have run := (hb a).run B _ _ _ _ { nx := fun _ => False, rt := D.rt } (rp3.set hden (by rw [I3.len]; exact (List.getElem?_eq_some_iff.mp hi).1)) hq1 pins s4 I4
    refine wpAny_mono run (fun f s5 z => ?_) fun _ _ z => False.elim z
    cases f with
    | next => obtain ⟨σ', H', _, F', env', _, q⟩ := z; exact q.elim
    | brk => obtain ⟨σ', H', _, F', env', _, q⟩ := z; exact q.elim
    | cont => obtain ⟨σ', H', _, F', env', _, q⟩ := z; exact q.elim
    | ret u =>
      obtain ⟨v, σ', H', I5, rv, q⟩ := z
      have I5' := Inv.unhand I.ok I5
      obtain ⟨m, hn, _⟩ := I5'.loc
      refine wpAny_nameGoes (show X.env.kindOf n = some .local from hx) hn hcls fun h' m' hn' hs' => ?_
      exact ⟨v, _, H', Inv.goes I5' hn' hs', rv, q⟩
end
structure XcOk (K : PySem.W.Frag) (C : Addr) : Prop where
  ga : PySem.W.findIn K (.ref C) "__getattribute__" = some (some (.builtin "BaseException.__getattribute__"))
  hk : PySem.W.findIn K (.ref C) "__getattr__" = some none
  dct : PySem.W.hasDictIn K C = true
  fnd : PySem.W.findIn K (.ref C) "__class__" = some (some (.builtin "object.__class__"))
  gt : PySem.W.specialIn K (.builtin "object.__class__") "__get__" = some (some (.builtin "getset_descriptor.__get__"))
  tk : PySem.W.takesIn K (.builtin "object.__class__") = some true
  mro : PySem.W.mroIn K C (.type "object") = some true
  sub : PySem.W.subIn K (.ref C) (.type "BaseException") = some true
theorem find_none {K : PySem.W.Frag} {C : Addr} {name : Str} {a g : Value} (hc : (PySem.W.clsIn K C).isSome = true) (ha : PySem.W.findIn K (.ref C) name = some (some a)) (hg : PySem.W.specialIn K a "__get__" = some (some g)) (ht : PySem.W.takesIn K a = some true) :
    PySem.W.findObj K C none name = some (.bind g a) := by
  obtain ⟨cd, hc⟩ := Option.isSome_iff_exists.mp hc
  unfold PySem.W.findObj
  rw [hc, Option.bind_some, ha, Option.bind_some]
  simp [hg, ht]
section
variable {prog : Program} {w : World} {A : Around} {E : Value → Shared → Prop} {K : PySem.W.Frag} {x C : Addr} {ox : Obj} {h : Heap} {g : Array GenState} {d : Drawn} {t : Nat} {os : OsState}
theorem exc_find (O : XcOk K C) : PySem.W.findObj K C none "__class__" = some (.bind (.builtin "getset_descriptor.__get__") (.builtin "object.__class__")) :=
  find_none (by obtain ⟨cd, hc, _⟩ := PySem.W.any_some O.dct; rw [hc]; rfl) O.fnd O.gt O.tk
theorem exc_body {tk : Tok} {Q : Fin → Shared → Prop} (O : XcOk K C) (X : K.In h) (I : PySem.W.InstAt h x ox C none) (hq : Q (.done (.ret (.ref C))) ⟨h, g, d, t, os⟩) :
    wpAny (model prog w) A (Builtin.«object.__getattribute__» ⟨[.ref x, .str "__class__" tk], []⟩) Q E ⟨h, g, d, t, os⟩ := by
  have L0 := I.type (M := model prog w)
  have L1 := PySem.W.looks_find (M := model prog w) X I (exc_find O)
  unfold Builtin.«object.__getattribute__»
  refine wpAny_bind (wpAny_pure (wpAny_bind (wpAny_pure (wpAny_bind (L0.at (wpAny_bind (L1.at ?_)))))))
  show wpAny _ _ (Builtin.ObjectAttr.bindTo _ _ _ _) _ _ _
  unfold Builtin.ObjectAttr.bindTo
  refine wpAny_bind (wpAny_holding (wpAny_call (PySem.W.class_get (s := ⟨h, g, d, t, os⟩) (ox := ox) (od := none) X I O.mro ?_)))
  exact wpAny_pure hq
theorem exc_check {nameV : Value} {Q : Unit → Shared → Prop} (O : XcOk K C) (X : K.In h) (I : PySem.W.InstAt h x ox C none) (hq : Q () ⟨h, g, d, t, os⟩) :
    wpAny (model prog w) A (checkBuiltinCall "BaseException.__getattribute__" ⟨[.ref x, nameV], []⟩) Q E ⟨h, g, d, t, os⟩ := by
  have hk : builtinKind "BaseException.__getattribute__" = some .slot := by decide +kernel
  have hsplit : splitId "BaseException.__getattribute__" = some ("BaseException", "__getattribute__") := by decide +kernel
  have ha := F.args_bexc_ga (.ref x) nameV
  have L0 := I.type (M := model prog w)
  have L2 : PySem.W.Looks (model prog w) h (isInstance (.ref x) (.type "BaseException")) true := L0.andThen (PySem.W.looks_subIn X O.sub)
  simp only [checkBuiltinCall, hk, hsplit]
  refine wpAny_bind (L2.at ?_)
  repeat (first | assumption | wp_step)
theorem exc_class {Q : Option Value → Shared → Prop} (O : XcOk K C) (X : K.In h) (I : PySem.W.InstAt h x ox C none) (hq : Q (some (.ref C)) ⟨h, g, d, t + 1, os⟩) : wpAny (model prog w) A (getAttr? (.ref x) "__class__") Q E ⟨h, g, d, t, os⟩ := by
  have L0 := I.type (M := model prog w)
  have L1 := PySem.W.looks_findIn (M := model prog w) X O.ga
  have L2 := PySem.W.looks_findIn (M := model prog w) X O.hk
  have FB := PySem.F.attrBase_ValueError
  unfold getAttr? getAttrBy? getAttrBy
  refine wpAny_bind (wpAny_mkText (wpAny_bind (wpAny_attempt (wpAny_holding (wpAny_bind (L0.at (wpAny_bind (L1.at ?_))))))))
  have hx1 : (onTheHeap (Value.ref C) && Value.builtin "BaseException.__getattribute__" == Value.builtin "object.__getattribute__") = false := by
    rw [show (Value.builtin "BaseException.__getattribute__" == Value.builtin "object.__getattribute__") = false by decide +kernel]; rfl
  show wpAny _ _ (if (onTheHeap (Value.ref C) && Value.builtin "BaseException.__getattribute__" == Value.builtin "object.__getattribute__") = true then _ else _) _ _ _
  rw [hx1, if_neg (by decide)]
  unfold getAttrByItsOwn
  refine wpAny_bind (L2.at (wpAny_bind (wpAny_attempt (wpAny_holding ?_))))
  unfold callGetattribute boundAndCalled
  rw [if_neg (by decide), FB.ga.bind]
  refine wpAny_bind (wpAny_pure ?_)
  refine wpAny_call (codeAny_call_builtin FB.ga.plain F.entry_bexc_ga (exc_check O X I (exc_body O X I ?_)))
  exact PySem.W.handed_on rfl (wpAny_pure hq)
end
theorem exc_cls {K : PySem.W.Frag} {C : Addr} (h : PySem.W.hasDictIn K C = true) : ∃ c d cd sl, K.lookup C = some ⟨c, d, .cls cd, sl⟩ := by
  obtain ⟨_, q, _⟩ := PySem.W.any_some h
  unfold PySem.W.clsIn at q
  split at q
  · exact ⟨_, _, _, _, ‹_›⟩
  · cases q
theorem kitx_exc {K : PySem.W.Frag} {x C : Addr} (O : XcOk K C) : PySem.W.KitX K (.ref x) (.ref C) (fun h => ∃ ox, PySem.W.InstAt h x ox C none) where
  ty := fun _ _ _ ⟨_, I⟩ => I.type
  it := fun _ _ kin _ A Q E s keep q => let ⟨_, _, _, _, e⟩ := exc_cls O.dct; wpAny_bind (wpAny_loadPart (keep _ _ (kin _ _ e)) (wpAny_pure q))
  ne := fun h tp dd its n sl kin e => by
    obtain ⟨_, _, _, _, e1⟩ := exc_cls O.dct
    cases z : (Value.ref C == Value.ref tp) with
    | false => rfl
    | true =>
      cases eq_of_beq z
      cases (kin _ _ e1).symm.trans e
  ca := fun {prog w A E Q s} X p h => by
    obtain ⟨ox, I⟩ := p
    obtain ⟨hh, g, d, t, os⟩ := s
    exact exc_class O X I h
theorem qcls {X : Cx} {c : Str} {p : Pos} {C : Addr} (ac : PySem.W.nsIn X.K mainGlobals c = some (some (.ref C))) (hg : Gl X c := by rfl) (hdb : (c == ("__debug__" : Str)) = false := by decide) : QE X (.Name c p) (cC (.cls c)) := by
  refine ⟨fun B σ F H env Q rp hq pins s I => ?_⟩
  refine ld_glob I hg (PySem.W.mg_of I.ok.mod.kin I.ok.mod.glob ac) ?_ hdb
  exact ⟨.ref C, H, I, rfl, F, .cls c, rp, Same.refl _, by simp only [Den]; exact ⟨C, rfl, ac⟩, hq⟩
inductive ClsL (K : PySem.W.Frag) : List D → List Value → Prop where
  | nil : ClsL K [] []
  | cons {c : Str} {C : Addr} {ds : List D} {vs : List Value} (h : PySem.W.nsIn K mainGlobals c = some (some (.ref C))) (r : ClsL K ds vs) : ClsL K (.cls c :: ds) (.ref C :: vs)
inductive KitD (K : PySem.W.Frag) (C : Addr) : D → Bool → Prop where
  | ty {n : String} {b : Bool} (e : PySem.W.kitOne K (.ref C) (.type n) = some b) : KitD K C (.ty n) b
  | cls {d : Str} {C' : Addr} {b : Bool} (h : PySem.W.nsIn K mainGlobals d = some (some (.ref C'))) (e : PySem.W.kitOne K (.ref C) (.ref C') = some b) : KitD K C (.cls d) b
  | tup {ds : List D} {vs : List Value} {b : Bool} (h : ClsL K ds vs) (e : PySem.W.kitAny K (.ref C) vs = some b) : KitD K C (.tup ds) b
theorem ClsL.vals {K : PySem.W.Frag} {F : Hp} : ∀ {ds : List D} {vs : List Value} {xs : List V} {us : List Value}, ClsL K ds vs → DenL K F ds xs → Vals xs us → us = vs
  | _, _, xs, us, .nil, h, r => by
    simp only [DenL] at h; subst h
    cases r; rfl
  | _, _, xs, us, .cons hc rr, h, r => by
    simp only [DenL] at h
    obtain ⟨v, rs, rfl, hd, hr⟩ := h
    simp only [Den] at hd
    obtain ⟨C', rfl, e⟩ := hd
    rw [hc] at e
    cases e
    cases r with
    | cons q1 q2 =>
      have e1 := (show _ = Value.ref _ from q1)
      rw [e1, ClsL.vals rr hr q2]
def isxF (c : Str) (y : D) (b : Bool) (ds : List D) (Q : D → Prop) : Prop := ds = [.exc c, y] ∧ Q (.bl b)
def rIsx (K : PySem.W.Frag) (C : Addr) (b : Bool) : List V → Hp → VK → Prop := fun xs H Q => ∃ a y, xs = [.ref a, y] ∧ H a = some (.ext (excAt a C)) ∧
  ((∃ n, y = .ty n ∧ PySem.W.kitOne K (.ref C) (.type n) = some b) ∨ (∃ C', y = .ref C' ∧ PySem.W.kitOne K (.ref C) (.ref C') = some b) ∨ ∃ t zs, y = .ref t ∧ SqT K H t zs ∧ ∀ us, Vals zs us → PySem.W.kitAny K (.ref C) us = some b) ∧ Q (.bl b) H
section
variable {X : Cx} {C : Addr} {b : Bool} {c : Str} {y : D} {a e2 : Expr} {ts : TDs} {p pos : Pos}
theorem call_isx (O : XcOk X.K C) : CallR X (.builtin "isinstance") (rIsx X.K C b) := by
  intro pins s σ H xs us Q I r h
  obtain ⟨x, y, rfl, hx, hy, q⟩ := h
  obtain ⟨u, w, rfl, rx, ry⟩ := vals2 r
  cases (show u = Value.ref x from rx)
  have fin : ∀ tk, EP X pins σ Q (.bool b) { s with toks := tk } := fun tk => ⟨.bl b, H, I.tok tk, rfl, q⟩
  have at_ : ∃ ox, PySem.W.InstAt s.heap x ox C none := by
    obtain ⟨⟨o, vs, h1, h2, h3, h4⟩, _⟩ := (show ObjOk X.prog X.w H s.heap x (.ext (excAt x C)) from I.hok x _ hx)
    refine ⟨o, h1, h2, ?_, ?_⟩
    · unfold PySem.W.notCls; rw [h4]
    · rw [h3]; exact True.intro
  rcases hy with ⟨n, rfl, e⟩ | ⟨C', rfl, e⟩ | ⟨t, zs, rfl, hq, e⟩
  · cases (show w = Value.type n from ry)
    exact PySem.W.kia_one (kitx_exc O) I.kIn at_ e (fun z => nomatch z) fin
  · cases (show w = Value.ref C' from ry)
    exact PySem.W.kia_one (kitx_exc O) I.kIn at_ e (fun z => nomatch z) fin
  · cases (show w = Value.ref t from ry)
    obtain ⟨its, vz, ⟨o, h1, h2, n, h3⟩, _⟩ := I.tuple hq
    obtain ⟨oc, od, odt, osl⟩ := o
    cases h2
    cases h3
    exact PySem.W.kia_tup (kitx_exc O) I.kIn at_ h1 (e _ vz) (fun z => nomatch z) fin
theorem c3_isx (ac : PySem.W.nsIn X.K mainGlobals c = some (some (.ref C))) (hk : KitD X.K C y b) : Call3 X (rIsx X.K C b) (isxF c y b) := by
  intro B σ F H env Q ds vs Z rp h hz hf
  obtain ⟨rfl, q⟩ := hf
  simp only [DenL] at h
  obtain ⟨v, r, rfl, hd, v', r', rfl, hd', rfl⟩ := h
  simp only [Den] at hd
  obtain ⟨a, C', rfl, e, hF⟩ := hd
  rw [ac] at e
  cases e
  refine ⟨a, v', rfl, rp.fh _ _ hF, ?_, hz (.bl b) H F (.bl b) rp (Same.refl _) den_bl q⟩
  cases hk with
  | ty e => simp only [Den] at hd'; subst hd'; exact .inl ⟨_, rfl, e⟩
  | cls h e =>
    simp only [Den] at hd'
    obtain ⟨C'', rfl, e'⟩ := hd'
    rw [h] at e'
    cases e'
    exact .inr (.inl ⟨_, rfl, e⟩)
  | tup h e =>
    simp only [Den] at hd'
    obtain ⟨t, zs, rfl, hq, hl⟩ := hd'
    exact .inr (.inr ⟨t, zs, rfl, Same.seqT rp.fh hq, fun us hu => by rw [ClsL.vals h hl hu]; exact e⟩)
theorem q_isx (c : Str) (y : D) (b : Bool) (hm : X.mg "isinstance" = none) (ac : PySem.W.nsIn X.K mainGlobals c = some (some (.ref C))) (O : XcOk X.K C) (hk : KitD X.K C y b) (ha : QA X [a, e2] ts) (hg : Gl X "isinstance" := by rfl)
    (he : starEach [a, e2] X.env = (false, eval a X.env) :: starEach [e2] X.env := by exact star_of rfl) (hpl : (backTo pos (starEach [e2] X.env)).any (·.1) = false := by rfl) : QE X (.Call (.Name "isinstance" p) [a, e2] [] pos) (cCall (isxF c y b) ts) :=
  q_callB (call_isx O) (c3_isx ac hk) hg hm boot_isi' ha (he := he) (hpl := hpl)
end
end L2.L3
set_option Elab.async false
set_option linter.all false
set_option maxRecDepth 100000
set_option maxHeartbeats 4000000
namespace L2.L3
open PySem PySem.Spec PyProof.Rows
def isD (x y : D) (Q : D → Prop) : Prop := match x, y with
  | .bl a, .bl b => Q (.bl (a == b))
  | _, _ => False
def isnD (x y : D) (Q : D → Prop) : Prop := match x, y with
  | .bl a, .bl b => Q (.bl (a != b))
  | _, _ => False
theorem isD_bb {a b : Bool} {Q : D → Prop} : isD (.bl a) (.bl b) Q = Q (.bl (a == b)) := rfl
theorem isnD_bb {a b : Bool} {Q : D → Prop} : isnD (.bl a) (.bl b) Q = Q (.bl (a != b)) := rfl
section
variable {X : Cx} {a b e : Expr} {ta tb : TD} {ts : TDs} {pos : Pos}
theorem op_isnB : OpR X (compareOp .IsNot) (fun x y H Q => ∃ i j, x = .bl i ∧ y = .bl j ∧ Q (.bl (i != j)) H) := by
  intro pins s σ H x y v u Q I rx ry h
  obtain ⟨i, j, rfl, rfl, q⟩ := h
  cases rx; cases ry
  exact isnot_bool (fin_bl I q rfl)
theorem o3_isnB : Op3 X (fun x y H Q => ∃ i j, x = .bl i ∧ y = .bl j ∧ Q (.bl (i != j)) H) isnD := by
  intro B σ F H env Q d d' x y Z rp h1 h2 hz hf
  unfold isnD at hf
  split at hf
  · rename_i i j
    simp only [Den] at h1 h2
    subst h1 h2
    exact ⟨i, j, rfl, rfl, hz _ H F _ rp (Same.refl _) den_bl hf⟩
  · exact hf.elim
theorem t_isn (ha : QE X a ta) (hb : QE X b tb) : QT X (.Compare a [.IsNot] [b] pos) (cTest (cOp isnD ta tb)) := qt_cmp op_isnB o3_isnB ha hb (nomark _)
theorem qz_raiseK {cx : Str} {C : Addr} {np cpos : Pos} (ac : PySem.W.nsIn X.K mainGlobals cx = some (some (.ref C))) (hq : excVE X.K C = true) (ha : QA X.nox [e] ts) (hc : X.calm = true := by rfl) (hg : Gl X cx := by rfl) (hdb : (cx == ("__debug__" : Str)) = false := by decide)
    (he : starEach [e] X.env = (false, eval e X.env) :: starEach [] X.env := by exact star_of rfl) (hplain : (backTo cpos (starEach ([] : List Expr) X.env)).any (·.1) = false := by rfl) :
    QZ X (.Raise (some (.Call (.Name cx np) [e] [] cpos)) none pos) (zRaise cx ts) :=
  ⟨fun B σ F H env D rp h pins s I => (qz_raise (X := X) (pos := pos) (np := np) (cpos := cpos) (PySem.W.mg_of I.ok.mod.kin I.ok.mod.glob ac) hq hc ha hg hdb he hplain).run B σ F H env D rp h pins s I⟩
end
theorem boot_VE : bootBuiltins "ValueError" = some (.type "ValueError") := by decide +kernel
end L2.L3
set_option Elab.async false
set_option linter.all false
set_option maxRecDepth 100000
set_option maxHeartbeats 4000000
namespace L2.L3
open PySem PySem.Spec PyProof.Rows
section
variable {X : Cx} {e : Expr} {ts : TDs} {p pos : Pos}
end
section
variable {X : Cx} {N' : List Str} {ix : List Nat} {scope : Scope} {elt iter : Expr} {ifs : List Expr} {x : Str} {px py pos spos : Pos} {tt : TB} {te ti : TD}
end
section
variable {X : Cx} {es : List Expr} {pos : Pos}
end
end L2.L3
set_option Elab.async false
set_option linter.all false
set_option maxRecDepth 100000
set_option maxHeartbeats 4000000
namespace L2.L3
open PySem PySem.Spec PyProof.Rows
section
variable {X : Cx} {a b c e : Expr} {ta tb tc : TD} {ts : TDs} {pos : Pos}
end
end L2.L3
set_option Elab.async false
set_option linter.all false
set_option maxRecDepth 100000
set_option maxHeartbeats 4000000
namespace L2.L3
open PySem PySem.Spec PyProof.Rows
section
variable {X : Cx} {p pos : Pos}
end
end L2.L3
set_option Elab.async false
set_option linter.all false
set_option maxRecDepth 100000
set_option maxHeartbeats 4000000
namespace L2.L3
open PySem PySem.Spec PyProof.Rows
section
variable {X : Cx} {N' : List Str} {ix : List Nat} {scope : Scope} {elt a : Expr} {ifs : List Expr} {x : Str} {px py pos spos p pos2 : Pos} {tt : TB} {te ta : TD} {ts : TDs}
end
section
variable {X : Cx} {a e : Expr} {ta te : TD} {pos p2 : Pos}
end
end L2.L3
set_option Elab.async false
set_option linter.all false
set_option maxRecDepth 100000
set_option maxHeartbeats 4000000
namespace L2.L3
open PySem PySem.Spec PyProof.Rows
section
variable {X : Cx} {b : Expr} {tb : TD} {x : Str} {tab : List (Str × Str)} {a : Addr} {es : Array DictEntry} {n : Nat} {p pos : Pos}
end
end L2.L3
set_option Elab.async false
set_option linter.all false
set_option maxRecDepth 100000
set_option maxHeartbeats 4000000
namespace L2.L3
open PySem PySem.Spec PyProof.Rows
section
variable {X : Cx} {e : Expr} {ts : TDs} {p pos : Pos}
end
end L2.L3
set_option Elab.async false
set_option linter.all false
set_option maxRecDepth 100000
set_option maxHeartbeats 4000000
namespace L2.L3
open PySem
section
variable {Q : D → Prop} {i j : Int} {xs ys : List D} {z z' : Str} {C : Int → Int → Prop} {g : Int → Int → D} {k : Bool}
theorem ii_eq : iiD C g (.int i) (.int j) Q = (C i j ∧ Q (g i j)) := rfl
theorem addD_ii : addD (.int i) (.int j) Q = Q (.int (i + j)) := rfl
theorem addD_ll : addD (.lst xs) (.lst ys) Q = (xs.length + ys.length ≤ sizeLine ∧ Q (.lst (xs ++ ys))) := rfl
theorem addD_tt : addD (.tup xs) (.tup ys) Q = (xs.length + ys.length ≤ sizeLine ∧ Q (.tup (xs ++ ys))) := rfl
theorem addD_ss : addD (.str z) (.str z') Q = (z.length + z'.length ≤ sizeLine ∧ Q (.str (z ++ z'))) := rfl
theorem negD_i : negD (.int i) Q = Q (.int (-i)) := rfl
theorem eqF_ii : eqF (.int i) (.int j) Q = Q (.bl (decide (i = j))) := by
  unfold eqF DepOk; simp only [dep, eqD, Nat.zero_le, and_self, true_and]; rw [Bool.beq_eq_decide_eq]
theorem neF_ii : neF (.int i) (.int j) Q = Q (.bl (!decide (i = j))) := by
  unfold neF DepOk; simp only [dep, eqD, Nat.zero_le, and_self, true_and]; rw [Bool.beq_eq_decide_eq]
theorem eqF_ss : eqF (.str z) (.str z') Q = Q (.bl (z == z')) := by
  unfold eqF DepOk; simp only [dep, eqD, Nat.zero_le, and_self, true_and]
theorem eqF_bb {k' : Bool} : eqF (.bl k) (.bl k') Q = Q (.bl (k == k')) := by
  unfold eqF DepOk; simp only [dep, eqD, Nat.zero_le, and_self, true_and]
theorem absF_i : absF [.int i] Q = Q (.int i.natAbs) := by
  show Q _ = Q _
  congr 2
  split <;> omega
theorem lenF_l : lenF [.lst xs] Q = Q (.int xs.length) := rfl
theorem lenF_t : lenF [.tup xs] Q = Q (.int xs.length) := rfl
theorem lenF_s : lenF [.str z] Q = (z.length ≤ sizeLine ∧ Q (.int z.length)) := rfl
theorem maxF_ii : maxF [.int i, .int j] Q = Q (.int (max i j)) := by
  show Q _ = Q _
  congr 2
  split <;> omega
theorem minF_ii : minF [.int i, .int j] Q = Q (.int (min i j)) := by
  show Q _ = Q _
  congr 2
  split <;> omega
theorem intF_i : intF [.int i] Q = Q (.int i) := rfl
theorem intF_b : intF [.bl k] Q = Q (.int (if k then 1 else 0)) := rfl
theorem listF_l : listF [.lst xs] Q = Q (.lst xs) := rfl
theorem listF_t : listF [.tup xs] Q = Q (.lst xs) := rfl
theorem tupleF_l : tupleF [.lst xs] Q = Q (.tup xs) := rfl
theorem tupleF_t : tupleF [.tup xs] Q = Q (.tup xs) := rfl
theorem itemsD_l : itemsD (.lst xs) = some xs := rfl
theorem itemsD_t : itemsD (.tup xs) = some xs := rfl
theorem slD_l {lo hi : Option Int} : slD (.lst xs) lo hi Q = Q (.lst (cutD xs lo hi)) := rfl
theorem rng1_i {R : Int → Nat → Prop} : rng1 [.int j] R = ((-(2 ^ 62) ≤ j ∧ j < 2 ^ 62) ∧ R 0 j.toNat) := rfl
theorem rng2_i {R : Int → Nat → Prop} : rng2 [.int i, .int j] R = ((-(2 ^ 62) ≤ i ∧ i < 2 ^ 62 ∧ -(2 ^ 62) ≤ j ∧ j < 2 ^ 62) ∧ R i (j - i).toNat) := rfl
def Pl (x : D) : Prop := kdD x ≠ .oth
def isInt : D → Bool | .int _ => true | .bl _ => true | _ => false
def isBl : D → Bool | .bl _ => true | _ => false
def isTup : D → Bool | .tup _ => true | _ => false
theorem isi_int {x : D} (h : Pl x) (q : Q (.bl (isInt x))) : isiR "int" x Q := by cases x <;> first | exact ⟨_, rfl, q⟩ | exact absurd rfl h
theorem isi_bl {x : D} (h : Pl x) (q : Q (.bl (isBl x))) : isiR "bool" x Q := by cases x <;> first | exact ⟨_, rfl, q⟩ | exact absurd rfl h
theorem isi_tup {x : D} (h : Pl x) (q : Q (.bl (isTup x))) : isiR "tuple" x Q := by cases x <;> first | exact ⟨_, rfl, q⟩ | exact absurd rfl h
end
def two2 (xs : List D) (R : D → D → Prop) : Prop := match xs with | [x, y] => R x y | _ => False
theorem two2_eq {x y : D} {R : D → D → Prop} : two2 [x, y] R = R x y := rfl
theorem dPar_eq (i j : Nat) (ts : TDs) (Z : Ends3) (env : En) : dPar i j ts Z env = ts env fun xs => two2 xs fun x y => Z.nx ((env.set i (some (.d x))).set j (some (.d y))) := by
  unfold dPar two2
  congr 1; funext xs; apply propext
  constructor
  · rintro ⟨x, y, rfl, h⟩; exact h
  · intro h; split at h
    · exact ⟨_, _, rfl, h⟩
    · exact h.elim
def cons1 (xs : List D) (R : D → List D → Prop) : Prop := match xs with | x :: r => R x r | _ => False
theorem cons1_eq {x : D} {r : List D} {R : D → List D → Prop} : cons1 (x :: r) R = R x r := rfl
theorem kCons_eq (g : TG3) (gs : TGs3) (xs : List D) (env : En) (Q : En → Prop) : kCons g gs xs env Q = cons1 xs fun x r => g x env fun env' => gs r env' Q := by
  unfold kCons cons1
  apply propext
  constructor
  · rintro ⟨x, y, rfl, h⟩; exact h
  · intro h; split at h
    · exact ⟨_, _, rfl, h⟩
    · exact h.elim
theorem turns_of {g : TG3} {tb : TS3} {Z : Ends3} {xs : List D} (I : Nat → En → Prop)
    (step : ∀ (i : Nat) (x : D) (env : En) (N : En → Prop), xs[i]? = some x → I i env → (∀ e, I (i + 1) e → N e) → g x env fun e => tb { Z with nx := N, ct := N, bk := Z.nx } e)
    (done : ∀ env, I xs.length env → Z.nx env) {env : En} (h0 : I 0 env) : turns g tb Z xs env := by
  have go : ∀ (n k : Nat) (env : En), k + n = xs.length → I k env → turns g tb Z (xs.drop k) env := by
    intro n
    induction n with
    | zero =>
      intro k env hk h
      rw [List.drop_eq_nil_of_le (by omega)]
      exact done env (by rw [← hk]; exact h)
    | succ n ih =>
      intro k env hk h
      have hx : xs[k]? = some (xs[k]'(by omega)) := by simp
      rw [drop_cons hx]
      exact step k _ env _ hx h fun e he => ih (k + 1) e (by omega) he
  simpa using go xs.length 0 env (by omega) h0
theorem comps_map {te : TD} {env0 : En} {Q : List D → Prop} (f : D → D) : ∀ (xs acc : List D), (∀ x ∈ xs, ∀ N : D → Prop, N (f x) → te (env0.set 0 (some (.d x))) N) → acc.length + xs.length ≤ sizeLine → Q (acc ++ xs.map f) → comps cTrue te env0 Q xs acc
  | [], acc, _, _, q => by simpa [comps] using q
  | x :: xs, acc, h, hl, q => by
    simp only [comps, cTrue, if_true]
    refine h x List.mem_cons_self _ ⟨by simp at hl; omega, comps_map f xs _ (fun y hy => h y (List.mem_cons_of_mem _ hy)) (by simp at hl ⊢; omega) (by simpa using q)⟩
theorem atI_nat {α : Type} {xs : List α} {i : Int} (h0 : 0 ≤ i) (h1 : i < xs.length) : atI xs i = xs[i.toNat]? := by
  unfold L2.atI ixN
  rw [if_pos h0, if_pos h1]; rfl
theorem ix_mem {Q : D → Prop} {xs : List D} {i : Int} (h0 : 0 ≤ i) (h1 : i < xs.length) (q : ∀ v, v ∈ xs → Q v) : ixD (.lst xs) (.int i) Q := by
  have hl : i.toNat < xs.length := by omega
  exact ⟨xs[i.toNat], by rw [atI_nat h0 h1]; simp, q _ (List.getElem_mem hl)⟩
theorem fmod_range {a b : Int} (h : 0 < b) : 0 ≤ a.fmod b ∧ a.fmod b < b := ⟨Int.fmod_nonneg_of_pos a h, Int.fmod_lt_of_pos a h⟩
def Bits (n : Nat) (a : Int) : Prop := a.natAbs < 2 ^ n
theorem bits_le {n m : Nat} {a : Int} (h : Bits n a) (hm : n ≤ m) : Bits m a := Nat.lt_of_lt_of_le h (Nat.pow_le_pow_right (by decide) hm)
theorem intBits_of {n : Nat} {a : Int} (h : Bits n a) : Builtin.Int.intBits a ≤ n := by
  unfold Builtin.Int.intBits
  by_cases e : a = 0
  · subst e; simp
  · rw [if_neg (by simpa using e)]
    have : a.natAbs ≠ 0 := by omega
    exact (Nat.log2_lt this).mpr h
theorem mul_ok {n m : Nat} {a b : Int} (ha : Bits n a) (hb : Bits m b) (h : n + m ≤ 1000000) : IntMulOk a b := by
  have h1 := intBits_of ha
  have h2 := intBits_of hb
  unfold IntMulOk Builtin.Int.intTooBig
  have : ¬ ((Builtin.Int.intBits a : Int) + (Builtin.Int.intBits b : Int) > (bitsLine : Int)) := by
    have : (1000000 : Int) ≤ (bitsLine : Int) := by decide
    omega
  simp only [Bool.and_eq_true, decide_eq_true_eq]
  rintro ⟨_, h3⟩
  exact this h3
theorem bits_mul {n m : Nat} {a b : Int} (ha : Bits n a) (hb : Bits m b) : Bits (n + m) (a * b) := by
  unfold Bits at *
  rw [Int.natAbs_mul, Nat.pow_add]
  exact Nat.mul_lt_mul'' ha hb
theorem bits_neg {n : Nat} {a : Int} (ha : Bits n a) : Bits n (-a) := by unfold Bits at *; rwa [Int.natAbs_neg]
theorem div_ok {n : Nat} {a b : Int} (hb : Bits n b) (h0 : b ≠ 0) (hn : n ≤ 9000) : DivOk a b := by
  refine ⟨h0, ?_⟩
  have : b.natAbs ≠ 0 := by omega
  exact Nat.lt_of_lt_of_le ((Nat.log2_lt this).mpr hb) hn
theorem mul_ok_l {a b : Int} (h1 : -(2 ^ 64) < a) (h2 : a < 2 ^ 64) : IntMulOk a b := .of_left (intBits_le_64 h1 h2)
theorem mul_ok_r {a b : Int} (h1 : -(2 ^ 64) < b) (h2 : b < 2 ^ 64) : IntMulOk a b := .of_right (intBits_le_64 h1 h2)
theorem divL {c : Int} (j : Int) (h : j ≠ 0 ∧ j.natAbs < 2 ^ 256) : DivOk c j := div_ok (n := 256) h.2 h.1 (by decide)
theorem powL (i j : Int) (h : 0 ≤ j ∧ j ≤ 1000000 ∧ i.natAbs < 2 ^ 64) : CPow i j := h
theorem modL {c : Int} (j : Int) (h : j ≠ 0) : ModOk c j := h
theorem bitsL (n : Nat) (a : Int) (h : a.natAbs < 2 ^ n) : Bits n a := h
def Digs (m : Nat) (b : Int) (d : D) : Prop := ∃ xs : List Int, d = .lst (xs.map D.int) ∧ xs.length = m ∧ ∀ x ∈ xs, 0 ≤ x ∧ x < b
theorem dig_at {m : Nat} {b : Int} {d : D} (h : Digs m b d) {i : Int} {Q : D → Prop} (h0 : 0 ≤ i) (h1 : i < m) (q : ∀ x : Int, 0 ≤ x → x < b → Q (.int x)) : ixD d (.int i) Q := by
  obtain ⟨xs, rfl, hl, hb⟩ := h
  refine ix_mem h0 (by simpa [hl] using h1) fun v hv => ?_
  obtain ⟨x, hx, rfl⟩ := List.mem_map.mp hv
  exact q x (hb x hx).1 (hb x hx).2
theorem cutD_len (xs : List D) (lo hi : Option Int) : (cutD xs lo hi).length ≤ xs.length := by
  unfold cutD; rw [List.length_take, List.length_drop]; omega
theorem cutD_mem {xs : List D} {lo hi : Option Int} {v : D} (h : v ∈ cutD xs lo hi) : v ∈ xs := by
  unfold cutD at h; exact List.mem_of_mem_drop (List.mem_of_mem_take h)
end L2.L3
set_option Elab.async false
set_option linter.all false
set_option maxRecDepth 100000
set_option maxHeartbeats 4000000
namespace L2.L3
open PySem
def F1 (P : D → (D → Prop) → Prop) : Fw := fun ds Q => ∃ x, ds = [x] ∧ P x Q
def F2 (P : D → D → (D → Prop) → Prop) : Fw := fun ds Q => ∃ x y, ds = [x, y] ∧ P x y Q
def F3 (P : D → D → D → (D → Prop) → Prop) : Fw := fun ds Q => ∃ x y z, ds = [x, y, z] ∧ P x y z Q
def F4 (P : D → D → D → D → (D → Prop) → Prop) : Fw := fun ds Q => ∃ x y z u, ds = [x, y, z, u] ∧ P x y z u Q
theorem lenF1 {P} : ∀ ds Q, F1 P ds Q → ds.length = 1 := by rintro ds Q ⟨x, rfl, _⟩; rfl
theorem lenF2 {P} : ∀ ds Q, F2 P ds Q → ds.length = 2 := by rintro ds Q ⟨x, y, rfl, _⟩; rfl
theorem lenF3 {P} : ∀ ds Q, F3 P ds Q → ds.length = 3 := by rintro ds Q ⟨x, y, z, rfl, _⟩; rfl
theorem F1_eq {P} {x : D} {Q} : F1 P [x] Q = P x Q := by
  unfold F1; apply propext; constructor
  · rintro ⟨x', e, h⟩; cases e; exact h
  · intro h; exact ⟨_, rfl, h⟩
theorem F2_eq {P} {x y : D} {Q} : F2 P [x, y] Q = P x y Q := by
  unfold F2; apply propext; constructor
  · rintro ⟨x', y', e, h⟩; cases e; exact h
  · intro h; exact ⟨_, _, rfl, h⟩
theorem F3_eq {P} {x y z : D} {Q} : F3 P [x, y, z] Q = P x y z Q := by
  unfold F3; apply propext; constructor
  · rintro ⟨x', y', z', e, h⟩; cases e; exact h
  · intro h; exact ⟨_, _, _, rfl, h⟩
def wholeD : D → Bool | .int _ => true | _ => false
def pWhole (x : D) (Q : D → Prop) : Prop := Pl x ∧ Q (.bl (wholeD x))
def f_is_whole : Fw := F1 pWhole
def t_is_whole : TS3 := (dRet (cAndV (cIsi "int" (cVar 0)) (cNotV (cIsi "bool" (cVar 0)))))
theorem len_is_whole : ∀ ds Q, f_is_whole ds Q → ds.length = 1 := lenF1
theorem ob_is_whole : ∀ ds (Q : D → Prop), f_is_whole ds Q → t_is_whole { nx := fun _ => Q .non, rt := Q } (start3 ["thing"] ds) := by
  rintro ds Q ⟨x, rfl, hx, h⟩
  simp only [t_is_whole, dSeq, dIf, dRet, dRetN, dNext, dBreak, dCont, dNever, dSet, dAsg, dPar_eq, two2_eq, dFor, dForR, dSetOwn, dAppend, dExtend, dFreeze, dPut, cVar, cC, cOp, cUn, cTest, cNot, cAnd, cOr, cAndV, cOrV, cNotV, cIf, cCall, cCons, cNil, cTup, cLst, cIsi, cFresh, cFew, cSl, cPart, cNoPart, cIxOwn, kName, kTup, kCons_eq, cons1_eq, cDisp, kNil, cTrue, start3, List.map_cons, List.map_nil, List.length_cons, List.length_nil, List.cons_append, List.nil_append, List.append_nil, List.getElem?_cons_zero, List.getElem?_cons_succ, List.getElem?_nil, List.set_cons_zero, List.set_cons_succ, Option.some.injEq, Lo.d.injEq, Lo.own.injEq, D.bl.injEq, D.int.injEq, exists_eq_left', exists_eq_left, Nat.reduceAdd, Nat.reduceSub, Nat.sub_self, Nat.add_one_sub_one, List.replicate_succ, List.replicate_zero, D.tup.injEq, List.cons.injEq, and_assoc, cComp, cCompR, ii_eq, addD_ii, addD_ll, addD_tt, addD_ss, negD_i, eqF_ii, neF_ii, eqF_ss, eqF_bb, absF_i, lenF_l, lenF_t, lenF_s, maxF_ii, minF_ii, intF_i, intF_b, listF_l, listF_t, tupleF_l, tupleF_t, itemsD_l, itemsD_t, slD_l, rng1_i, rng2_i, decide_eq_true_eq, true_and, and_true, if_true, if_false, Bool.false_eq_true, Bool.not_eq_true', decide_eq_false_iff_not, PySem.sizeLine_eq, Int.reduceToNat, Int.reducePow, Int.reduceMul, Int.reduceAdd, Int.reduceNeg, Int.reduceSub, Int.reduceLT, Int.reduceLE, Int.reduceEq, Nat.reduceEqDiff, decide_true, decide_false, Nat.reduceLeDiff, Nat.reduceLT, Bool.true_eq_false, Bool.not_true, Bool.not_false, Bool.not_not]
  refine isi_int hx ⟨_, rfl, ?_⟩
  cases x <;> simp only [isInt, if_true, Bool.false_eq_true, if_false] <;> first | exact h | exact isi_bl hx ⟨_, rfl, h⟩
def wholesD (x : D) (n : Int) : Bool := match x with
  | .tup xs => decide ((xs.length : Int) = n) && xs.all wholeD
  | _ => false
def PlL (x : D) : Prop := Pl x ∧ ∀ xs, x = .tup xs → xs.length ≤ 1000 ∧ ∀ y ∈ xs, Pl y
def pWholes (x y : D) (Q : D → Prop) : Prop := ∃ n : Int, y = .int n ∧ PlL x ∧ Q (.bl (wholesD x n))
def f_are_wholes : Fw := F2 pWholes
def t_are_wholes : TS3 := (dSeq (dIf (cOr (cNot (cTest (cIsi "tuple" (cVar 0)))) (cTest (cOp neF (cCall lenF (cCons (cVar 0) cNil)) (cVar 1)))) (dRet (cC (.bl false))) dNext) (dRet (cCall allF (cCons (cFresh (cComp [] (cVar 0) cTrue (cCall f_is_whole (cCons (cVar 0) cNil)))) cNil))))
theorem len_are_wholes : ∀ ds Q, f_are_wholes ds Q → ds.length = 2 := lenF2
theorem ob_are_wholes : ∀ ds (Q : D → Prop), f_are_wholes ds Q → t_are_wholes { nx := fun _ => Q .non, rt := Q } (start3 ["thing", "many"] ds) := by
  rintro ds Q ⟨x, y, rfl, n, rfl, ⟨hx, hxs⟩, h⟩
  simp only [t_are_wholes, dSeq, dIf, dRet, dRetN, dNext, dBreak, dCont, dNever, dSet, dAsg, dPar_eq, two2_eq, dFor, dForR, dSetOwn, dAppend, dExtend, dFreeze, dPut, cVar, cC, cOp, cUn, cTest, cNot, cAnd, cOr, cAndV, cOrV, cNotV, cIf, cCall, cCons, cNil, cTup, cLst, cIsi, cFresh, cFew, cSl, cPart, cNoPart, cIxOwn, kName, kTup, kCons_eq, cons1_eq, cDisp, kNil, cTrue, start3, List.map_cons, List.map_nil, List.length_cons, List.length_nil, List.cons_append, List.nil_append, List.append_nil, List.getElem?_cons_zero, List.getElem?_cons_succ, List.getElem?_nil, List.set_cons_zero, List.set_cons_succ, Option.some.injEq, Lo.d.injEq, Lo.own.injEq, D.bl.injEq, D.int.injEq, exists_eq_left', exists_eq_left, Nat.reduceAdd, Nat.reduceSub, Nat.sub_self, Nat.add_one_sub_one, List.replicate_succ, List.replicate_zero, D.tup.injEq, List.cons.injEq, and_assoc, cComp, cCompR, ii_eq, addD_ii, addD_ll, addD_tt, addD_ss, negD_i, eqF_ii, neF_ii, eqF_ss, eqF_bb, absF_i, lenF_l, lenF_t, lenF_s, maxF_ii, minF_ii, intF_i, intF_b, listF_l, listF_t, tupleF_l, tupleF_t, itemsD_l, itemsD_t, slD_l, rng1_i, rng2_i, decide_eq_true_eq, true_and, and_true, if_true, if_false, Bool.false_eq_true, Bool.not_eq_true', decide_eq_false_iff_not, PySem.sizeLine_eq, Int.reduceToNat, Int.reducePow, Int.reduceMul, Int.reduceAdd, Int.reduceNeg, Int.reduceSub, Int.reduceLT, Int.reduceLE, Int.reduceEq, Nat.reduceEqDiff, decide_true, decide_false, Nat.reduceLeDiff, Nat.reduceLT, Bool.true_eq_false, Bool.not_true, Bool.not_false, Bool.not_not]
  refine isi_tup hx ⟨_, rfl, ?_⟩
  cases x with
  | tup xs =>
    simp only [isTup, dSeq, dIf, dRet, dRetN, dNext, dBreak, dCont, dNever, dSet, dAsg, dPar_eq, two2_eq, dFor, dForR, dSetOwn, dAppend, dExtend, dFreeze, dPut, cVar, cC, cOp, cUn, cTest, cNot, cAnd, cOr, cAndV, cOrV, cNotV, cIf, cCall, cCons, cNil, cTup, cLst, cIsi, cFresh, cFew, cSl, cPart, cNoPart, cIxOwn, kName, kTup, kCons_eq, cons1_eq, cDisp, kNil, cTrue, start3, List.map_cons, List.map_nil, List.length_cons, List.length_nil, List.cons_append, List.nil_append, List.append_nil, List.getElem?_cons_zero, List.getElem?_cons_succ, List.getElem?_nil, List.set_cons_zero, List.set_cons_succ, Option.some.injEq, Lo.d.injEq, Lo.own.injEq, D.bl.injEq, D.int.injEq, exists_eq_left', exists_eq_left, Nat.reduceAdd, Nat.reduceSub, Nat.sub_self, Nat.add_one_sub_one, List.replicate_succ, List.replicate_zero, D.tup.injEq, List.cons.injEq, and_assoc, cComp, cCompR, ii_eq, addD_ii, addD_ll, addD_tt, addD_ss, negD_i, eqF_ii, neF_ii, eqF_ss, eqF_bb, absF_i, lenF_l, lenF_t, lenF_s, maxF_ii, minF_ii, intF_i, intF_b, listF_l, listF_t, tupleF_l, tupleF_t, itemsD_l, itemsD_t, slD_l, rng1_i, rng2_i, decide_eq_true_eq, true_and, and_true, if_true, if_false, Bool.false_eq_true, Bool.not_eq_true', decide_eq_false_iff_not, PySem.sizeLine_eq, Int.reduceToNat, Int.reducePow, Int.reduceMul, Int.reduceAdd, Int.reduceNeg, Int.reduceSub, Int.reduceLT, Int.reduceLE, Int.reduceEq, Nat.reduceEqDiff, decide_true, decide_false, Nat.reduceLeDiff, Nat.reduceLT, Bool.true_eq_false, Bool.not_true, Bool.not_false, Bool.not_not]
    by_cases hn : (xs.length : Int) = n
    · rw [if_neg (by simp [hn])]
      refine comps_map (fun x => .bl (wholeD x)) xs [] (fun x hx N hN => ?_) ?_ ?_
      · simp only [capE, List.replicate_succ, dSeq, dIf, dRet, dRetN, dNext, dBreak, dCont, dNever, dSet, dAsg, dPar_eq, two2_eq, dFor, dForR, dSetOwn, dAppend, dExtend, dFreeze, dPut, cVar, cC, cOp, cUn, cTest, cNot, cAnd, cOr, cAndV, cOrV, cNotV, cIf, cCall, cCons, cNil, cTup, cLst, cIsi, cFresh, cFew, cSl, cPart, cNoPart, cIxOwn, kName, kTup, kCons_eq, cons1_eq, cDisp, kNil, cTrue, start3, List.map_cons, List.map_nil, List.length_cons, List.length_nil, List.cons_append, List.nil_append, List.append_nil, List.getElem?_cons_zero, List.getElem?_cons_succ, List.getElem?_nil, List.set_cons_zero, List.set_cons_succ, Option.some.injEq, Lo.d.injEq, Lo.own.injEq, D.bl.injEq, D.int.injEq, exists_eq_left', exists_eq_left, Nat.reduceAdd, Nat.reduceSub, Nat.sub_self, Nat.add_one_sub_one, List.replicate_succ, List.replicate_zero, D.tup.injEq, List.cons.injEq, and_assoc, cComp, cCompR, ii_eq, addD_ii, addD_ll, addD_tt, addD_ss, negD_i, eqF_ii, neF_ii, eqF_ss, eqF_bb, absF_i, lenF_l, lenF_t, lenF_s, maxF_ii, minF_ii, intF_i, intF_b, listF_l, listF_t, tupleF_l, tupleF_t, itemsD_l, itemsD_t, slD_l, rng1_i, rng2_i, decide_eq_true_eq, true_and, and_true, if_true, if_false, Bool.false_eq_true, Bool.not_eq_true', decide_eq_false_iff_not, PySem.sizeLine_eq, Int.reduceToNat, Int.reducePow, Int.reduceMul, Int.reduceAdd, Int.reduceNeg, Int.reduceSub, Int.reduceLT, Int.reduceLE, Int.reduceEq, Nat.reduceEqDiff, decide_true, decide_false, Nat.reduceLeDiff, Nat.reduceLT, Bool.true_eq_false, Bool.not_true, Bool.not_false, Bool.not_not, f_is_whole, F1_eq]
        exact ⟨(hxs xs rfl).2 x hx, hN⟩
      · have := (hxs xs rfl).1; rw [PySem.sizeLine_eq]; simp; omega
      · refine ⟨_, (by rw [List.nil_append]; exact (by rw [← List.map_map]; exact boolsOf_map _ : boolsOf (xs.map (D.bl ∘ wholeD)) = some _)), ?_⟩
        simp only [wholesD, hn, decide_true, Bool.true_and] at h
        rw [List.all_map]
        exact h
    · rw [if_pos (by simp [hn])]
      simp only [wholesD, hn, decide_false, Bool.false_and] at h
      exact h
  | _ => simp only [isTup, dSeq, dIf, dRet, dRetN, dNext, dBreak, dCont, dNever, dSet, dAsg, dPar_eq, two2_eq, dFor, dForR, dSetOwn, dAppend, dExtend, dFreeze, dPut, cVar, cC, cOp, cUn, cTest, cNot, cAnd, cOr, cAndV, cOrV, cNotV, cIf, cCall, cCons, cNil, cTup, cLst, cIsi, cFresh, cFew, cSl, cPart, cNoPart, cIxOwn, kName, kTup, kCons_eq, cons1_eq, cDisp, kNil, cTrue, start3, List.map_cons, List.map_nil, List.length_cons, List.length_nil, List.cons_append, List.nil_append, List.append_nil, List.getElem?_cons_zero, List.getElem?_cons_succ, List.getElem?_nil, List.set_cons_zero, List.set_cons_succ, Option.some.injEq, Lo.d.injEq, Lo.own.injEq, D.bl.injEq, D.int.injEq, exists_eq_left', exists_eq_left, Nat.reduceAdd, Nat.reduceSub, Nat.sub_self, Nat.add_one_sub_one, List.replicate_succ, List.replicate_zero, D.tup.injEq, List.cons.injEq, and_assoc, cComp, cCompR, ii_eq, addD_ii, addD_ll, addD_tt, addD_ss, negD_i, eqF_ii, neF_ii, eqF_ss, eqF_bb, absF_i, lenF_l, lenF_t, lenF_s, maxF_ii, minF_ii, intF_i, intF_b, listF_l, listF_t, tupleF_l, tupleF_t, itemsD_l, itemsD_t, slD_l, rng1_i, rng2_i, decide_eq_true_eq, true_and, and_true, if_true, if_false, Bool.false_eq_true, Bool.not_eq_true', decide_eq_false_iff_not, PySem.sizeLine_eq, Int.reduceToNat, Int.reducePow, Int.reduceMul, Int.reduceAdd, Int.reduceNeg, Int.reduceSub, Int.reduceLT, Int.reduceLE, Int.reduceEq, Nat.reduceEqDiff, decide_true, decide_false, Nat.reduceLeDiff, Nat.reduceLT, Bool.true_eq_false, Bool.not_true, Bool.not_false, Bool.not_not]; exact h
def pGcd (x y : D) (Q : D → Prop) : Prop := ∃ p q : Int, x = .int p ∧ y = .int q ∧ Q (.int (Int.gcd p q))
theorem gcd_fmod (h l : Int) (h0 : 0 ≤ h) (l0 : 0 < l) : Int.gcd l (h.fmod l) = Int.gcd h l := by
  rw [Int.fmod_eq_emod_of_nonneg h (by omega), Int.gcd_comm l, Int.emod_def, Int.gcd_comm h l]
  rw [Int.gcd_comm]
  exact Int.gcd_sub_mul_left_right ..
def f_common_part : Fw := F2 pGcd
def t_common_part : TS3 := (dSeq (dSet 2 (cCall absF (cCons (cVar 0) cNil))) (dSeq (dSet 3 (cCall absF (cCons (cVar 1) cNil))) (dSeq (dWhile (cTest (cOp neF (cVar 3) (cC (.int 0)))) (dPar 2 3 (cCons (cVar 3) (cCons (cOp modD (cVar 2) (cVar 3)) cNil)))) (dRet (cVar 2)))))
theorem len_common_part : ∀ ds Q, f_common_part ds Q → ds.length = 2 := lenF2
theorem ob_common_part : ∀ ds (Q : D → Prop), f_common_part ds Q → t_common_part { nx := fun _ => Q .non, rt := Q } (start3 ["p", "q", "high", "low"] ds) := by
  rintro ds Q ⟨x, y, rfl, p, q, rfl, rfl, h⟩
  simp only [t_common_part, dSeq, dIf, dRet, dRetN, dNext, dBreak, dCont, dNever, dSet, dAsg, dPar_eq, two2_eq, dFor, dForR, dSetOwn, dAppend, dExtend, dFreeze, dPut, cVar, cC, cOp, cUn, cTest, cNot, cAnd, cOr, cAndV, cOrV, cNotV, cIf, cCall, cCons, cNil, cTup, cLst, cIsi, cFresh, cFew, cSl, cPart, cNoPart, cIxOwn, kName, kTup, kCons_eq, cons1_eq, cDisp, kNil, cTrue, start3, List.map_cons, List.map_nil, List.length_cons, List.length_nil, List.cons_append, List.nil_append, List.append_nil, List.getElem?_cons_zero, List.getElem?_cons_succ, List.getElem?_nil, List.set_cons_zero, List.set_cons_succ, Option.some.injEq, Lo.d.injEq, Lo.own.injEq, D.bl.injEq, D.int.injEq, exists_eq_left', exists_eq_left, Nat.reduceAdd, Nat.reduceSub, Nat.sub_self, Nat.add_one_sub_one, List.replicate_succ, List.replicate_zero, D.tup.injEq, List.cons.injEq, and_assoc, cComp, cCompR, ii_eq, addD_ii, addD_ll, addD_tt, addD_ss, negD_i, eqF_ii, neF_ii, eqF_ss, eqF_bb, absF_i, lenF_l, lenF_t, lenF_s, maxF_ii, minF_ii, intF_i, intF_b, listF_l, listF_t, tupleF_l, tupleF_t, itemsD_l, itemsD_t, slD_l, rng1_i, rng2_i, decide_eq_true_eq, true_and, and_true, if_true, if_false, Bool.false_eq_true, Bool.not_eq_true', decide_eq_false_iff_not, PySem.sizeLine_eq, Int.reduceToNat, Int.reducePow, Int.reduceMul, Int.reduceAdd, Int.reduceNeg, Int.reduceSub, Int.reduceLT, Int.reduceLE, Int.reduceEq, Nat.reduceEqDiff, decide_true, decide_false, Nat.reduceLeDiff, Nat.reduceLT, Bool.true_eq_false, Bool.not_true, Bool.not_false, Bool.not_not, dWhile]
  refine ⟨fun e => ∃ a b : Int, e = [some (.d (.int p)), some (.d (.int q)), some (.d (.int a)), some (.d (.int b))] ∧ 0 ≤ a ∧ 0 ≤ b ∧ Int.gcd a b = Int.gcd p q,
    fun e => match e with | [_, _, _, some (.d (.int b))] => b.toNat | _ => 0, ⟨_, _, rfl, by omega, by omega, by simp [Int.gcd]⟩, ?_⟩
  rintro env ⟨a, b, rfl, ha, hb, hg⟩
  simp only [dSeq, dIf, dRet, dRetN, dNext, dBreak, dCont, dNever, dSet, dAsg, dPar_eq, two2_eq, dFor, dForR, dSetOwn, dAppend, dExtend, dFreeze, dPut, cVar, cC, cOp, cUn, cTest, cNot, cAnd, cOr, cAndV, cOrV, cNotV, cIf, cCall, cCons, cNil, cTup, cLst, cIsi, cFresh, cFew, cSl, cPart, cNoPart, cIxOwn, kName, kTup, kCons_eq, cons1_eq, cDisp, kNil, cTrue, start3, List.map_cons, List.map_nil, List.length_cons, List.length_nil, List.cons_append, List.nil_append, List.append_nil, List.getElem?_cons_zero, List.getElem?_cons_succ, List.getElem?_nil, List.set_cons_zero, List.set_cons_succ, Option.some.injEq, Lo.d.injEq, Lo.own.injEq, D.bl.injEq, D.int.injEq, exists_eq_left', exists_eq_left, Nat.reduceAdd, Nat.reduceSub, Nat.sub_self, Nat.add_one_sub_one, List.replicate_succ, List.replicate_zero, D.tup.injEq, List.cons.injEq, and_assoc, cComp, cCompR, ii_eq, addD_ii, addD_ll, addD_tt, addD_ss, negD_i, eqF_ii, neF_ii, eqF_ss, eqF_bb, absF_i, lenF_l, lenF_t, lenF_s, maxF_ii, minF_ii, intF_i, intF_b, listF_l, listF_t, tupleF_l, tupleF_t, itemsD_l, itemsD_t, slD_l, rng1_i, rng2_i, decide_eq_true_eq, true_and, and_true, if_true, if_false, Bool.false_eq_true, Bool.not_eq_true', decide_eq_false_iff_not, PySem.sizeLine_eq, Int.reduceToNat, Int.reducePow, Int.reduceMul, Int.reduceAdd, Int.reduceNeg, Int.reduceSub, Int.reduceLT, Int.reduceLE, Int.reduceEq, Nat.reduceEqDiff, decide_true, decide_false, Nat.reduceLeDiff, Nat.reduceLT, Bool.true_eq_false, Bool.not_true, Bool.not_false, Bool.not_not]
  by_cases hz : b = 0
  · subst hz
    simp only [dSeq, dIf, dRet, dRetN, dNext, dBreak, dCont, dNever, dSet, dAsg, dPar_eq, two2_eq, dFor, dForR, dSetOwn, dAppend, dExtend, dFreeze, dPut, cVar, cC, cOp, cUn, cTest, cNot, cAnd, cOr, cAndV, cOrV, cNotV, cIf, cCall, cCons, cNil, cTup, cLst, cIsi, cFresh, cFew, cSl, cPart, cNoPart, cIxOwn, kName, kTup, kCons_eq, cons1_eq, cDisp, kNil, cTrue, start3, List.map_cons, List.map_nil, List.length_cons, List.length_nil, List.cons_append, List.nil_append, List.append_nil, List.getElem?_cons_zero, List.getElem?_cons_succ, List.getElem?_nil, List.set_cons_zero, List.set_cons_succ, Option.some.injEq, Lo.d.injEq, Lo.own.injEq, D.bl.injEq, D.int.injEq, exists_eq_left', exists_eq_left, Nat.reduceAdd, Nat.reduceSub, Nat.sub_self, Nat.add_one_sub_one, List.replicate_succ, List.replicate_zero, D.tup.injEq, List.cons.injEq, and_assoc, cComp, cCompR, ii_eq, addD_ii, addD_ll, addD_tt, addD_ss, negD_i, eqF_ii, neF_ii, eqF_ss, eqF_bb, absF_i, lenF_l, lenF_t, lenF_s, maxF_ii, minF_ii, intF_i, intF_b, listF_l, listF_t, tupleF_l, tupleF_t, itemsD_l, itemsD_t, slD_l, rng1_i, rng2_i, decide_eq_true_eq, true_and, and_true, if_true, if_false, Bool.false_eq_true, Bool.not_eq_true', decide_eq_false_iff_not, PySem.sizeLine_eq, Int.reduceToNat, Int.reducePow, Int.reduceMul, Int.reduceAdd, Int.reduceNeg, Int.reduceSub, Int.reduceLT, Int.reduceLE, Int.reduceEq, Nat.reduceEqDiff, decide_true, decide_false, Nat.reduceLeDiff, Nat.reduceLT, Bool.true_eq_false, Bool.not_true, Bool.not_false, Bool.not_not, not_true, decide_true]
    have : ((Int.gcd p q : Nat) : Int) = a := by rw [← hg]; simp; omega
    rw [this] at h; exact h
  · have f := fmod_range (a := a) (b := b) (by omega)
    simp only [dSeq, dIf, dRet, dRetN, dNext, dBreak, dCont, dNever, dSet, dAsg, dPar_eq, two2_eq, dFor, dForR, dSetOwn, dAppend, dExtend, dFreeze, dPut, cVar, cC, cOp, cUn, cTest, cNot, cAnd, cOr, cAndV, cOrV, cNotV, cIf, cCall, cCons, cNil, cTup, cLst, cIsi, cFresh, cFew, cSl, cPart, cNoPart, cIxOwn, kName, kTup, kCons_eq, cons1_eq, cDisp, kNil, cTrue, start3, List.map_cons, List.map_nil, List.length_cons, List.length_nil, List.cons_append, List.nil_append, List.append_nil, List.getElem?_cons_zero, List.getElem?_cons_succ, List.getElem?_nil, List.set_cons_zero, List.set_cons_succ, Option.some.injEq, Lo.d.injEq, Lo.own.injEq, D.bl.injEq, D.int.injEq, exists_eq_left', exists_eq_left, Nat.reduceAdd, Nat.reduceSub, Nat.sub_self, Nat.add_one_sub_one, List.replicate_succ, List.replicate_zero, D.tup.injEq, List.cons.injEq, and_assoc, cComp, cCompR, ii_eq, addD_ii, addD_ll, addD_tt, addD_ss, negD_i, eqF_ii, neF_ii, eqF_ss, eqF_bb, absF_i, lenF_l, lenF_t, lenF_s, maxF_ii, minF_ii, intF_i, intF_b, listF_l, listF_t, tupleF_l, tupleF_t, itemsD_l, itemsD_t, slD_l, rng1_i, rng2_i, decide_eq_true_eq, true_and, and_true, if_true, if_false, Bool.false_eq_true, Bool.not_eq_true', decide_eq_false_iff_not, PySem.sizeLine_eq, Int.reduceToNat, Int.reducePow, Int.reduceMul, Int.reduceAdd, Int.reduceNeg, Int.reduceSub, Int.reduceLT, Int.reduceLE, Int.reduceEq, Nat.reduceEqDiff, decide_true, decide_false, Nat.reduceLeDiff, Nat.reduceLT, Bool.true_eq_false, Bool.not_true, Bool.not_false, Bool.not_not, hz, not_false_eq_true, ModOk, ne_eq]
    refine ⟨⟨_, _, rfl, rfl, hb, f.1, ?_⟩, by show (a.fmod b).toNat < b.toNat; omega⟩
    rw [← hg]; exact gcd_fmod a b ha (by omega)
def upD (p q : Int) : D := if q < 0 ∨ (q = 0 ∧ p < 0) then .tup [.int (-p), .int (-q)] else .tup [.int p, .int q]
def pUp (x y : D) (Q : D → Prop) : Prop := ∃ p q : Int, x = .int p ∧ y = .int q ∧ Q (upD p q)
def f_upright : Fw := F2 pUp
def t_upright : TS3 := (dSeq (dIf (cOr (cTest (cOp ltD (cVar 1) (cC (.int 0)))) (cAnd (cTest (cOp eqF (cVar 1) (cC (.int 0)))) (cTest (cOp ltD (cVar 0) (cC (.int 0)))))) (dRet (cTup (cCons (cUn negD (cVar 0)) (cCons (cUn negD (cVar 1)) cNil)))) dNext) (dRet (cTup (cCons (cVar 0) (cCons (cVar 1) cNil)))))
theorem len_upright : ∀ ds Q, f_upright ds Q → ds.length = 2 := lenF2
theorem ob_upright : ∀ ds (Q : D → Prop), f_upright ds Q → t_upright { nx := fun _ => Q .non, rt := Q } (start3 ["p", "q"] ds) := by
  rintro ds Q ⟨x, y, rfl, p, q, rfl, rfl, h⟩
  simp only [t_upright, dSeq, dIf, dRet, dRetN, dNext, dBreak, dCont, dNever, dSet, dAsg, dPar_eq, two2_eq, dFor, dForR, dSetOwn, dAppend, dExtend, dFreeze, dPut, cVar, cC, cOp, cUn, cTest, cNot, cAnd, cOr, cAndV, cOrV, cNotV, cIf, cCall, cCons, cNil, cTup, cLst, cIsi, cFresh, cFew, cSl, cPart, cNoPart, cIxOwn, kName, kTup, kCons_eq, cons1_eq, cDisp, kNil, cTrue, start3, List.map_cons, List.map_nil, List.length_cons, List.length_nil, List.cons_append, List.nil_append, List.append_nil, List.getElem?_cons_zero, List.getElem?_cons_succ, List.getElem?_nil, List.set_cons_zero, List.set_cons_succ, Option.some.injEq, Lo.d.injEq, Lo.own.injEq, D.bl.injEq, D.int.injEq, exists_eq_left', exists_eq_left, Nat.reduceAdd, Nat.reduceSub, Nat.sub_self, Nat.add_one_sub_one, List.replicate_succ, List.replicate_zero, D.tup.injEq, List.cons.injEq, and_assoc, cComp, cCompR, ii_eq, addD_ii, addD_ll, addD_tt, addD_ss, negD_i, eqF_ii, neF_ii, eqF_ss, eqF_bb, absF_i, lenF_l, lenF_t, lenF_s, maxF_ii, minF_ii, intF_i, intF_b, listF_l, listF_t, tupleF_l, tupleF_t, itemsD_l, itemsD_t, slD_l, rng1_i, rng2_i, decide_eq_true_eq, true_and, and_true, if_true, if_false, Bool.false_eq_true, Bool.not_eq_true', decide_eq_false_iff_not, PySem.sizeLine_eq, Int.reduceToNat, Int.reducePow, Int.reduceMul, Int.reduceAdd, Int.reduceNeg, Int.reduceSub, Int.reduceLT, Int.reduceLE, Int.reduceEq, Nat.reduceEqDiff, decide_true, decide_false, Nat.reduceLeDiff, Nat.reduceLT, Bool.true_eq_false, Bool.not_true, Bool.not_false, Bool.not_not]
  unfold upD at h
  by_cases h1 : q < 0
  · rw [if_pos (.inl h1)] at h; simp only [h1, if_true]; exact h
  · by_cases h2 : q = 0
    · by_cases h3 : p < 0
      · rw [if_pos (.inr ⟨h2, h3⟩)] at h; simp only [h1, h2, h3, if_true, if_false]; subst h2; exact h
      · rw [if_neg (by omega)] at h; simp only [h1, h2, h3, if_true, if_false]; subst h2; exact h
    · rw [if_neg (by omega)] at h; simp only [h1, h2, if_true, if_false]; exact h
def fracD (x : D) : Bool := match x with
  | .tup [.int p, .int q] => decide (Int.gcd p q = 1) && (decide (0 < q) || (decide (q = 0) && decide (p = 1)))
  | _ => false
def pFrac (x : D) (Q : D → Prop) : Prop := PlL x ∧ Q (.bl (fracD x))
theorem wholes2 {x : D} (h : wholesD x 2 = true) : ∃ p q : Int, x = .tup [.int p, .int q] := by
  unfold wholesD at h
  split at h
  · rename_i xs
    simp only [Bool.and_eq_true, decide_eq_true_eq] at h
    obtain ⟨h1, h2⟩ := h
    match xs, h1, h2 with
    | [a, b], _, h2 =>
      simp only [List.all_cons, List.all_nil, Bool.and_true, Bool.and_eq_true] at h2
      cases a <;> simp only [wholeD, Bool.false_eq_true, false_and] at h2
      cases b <;> simp only [wholeD, Bool.false_eq_true, and_false] at h2
      exact ⟨_, _, rfl⟩
  · cases h
theorem frac_not {x : D} (h : wholesD x 2 = false) : fracD x = false := by
  unfold fracD
  split
  · simp [wholesD, wholeD] at h
  · rfl
def f_is_fraction : Fw := F1 pFrac
def t_is_fraction : TS3 := (dSeq (dIf (cNot (cTest (cCall f_are_wholes (cCons (cVar 0) (cCons (cC (.int 2)) cNil))))) (dRet (cC (.bl false))) dNext) (dSeq (dAsg (cVar 0) (kTup 2 (kCons (kName 1) (kCons (kName 2) kNil)))) (dRet (cAndV (cOp eqF (cCall f_common_part (cCons (cVar 1) (cCons (cVar 2) cNil))) (cC (.int 1))) (cOp eqF (cCall f_upright (cCons (cVar 1) (cCons (cVar 2) cNil))) (cTup (cCons (cVar 1) (cCons (cVar 2) cNil))))))))
theorem len_is_fraction : ∀ ds Q, f_is_fraction ds Q → ds.length = 1 := lenF1
theorem ob_is_fraction : ∀ ds (Q : D → Prop), f_is_fraction ds Q → t_is_fraction { nx := fun _ => Q .non, rt := Q } (start3 ["thing", "p", "q"] ds) := by
  rintro ds Q ⟨x, rfl, hx, h⟩
  simp only [t_is_fraction, dSeq, dIf, dRet, dRetN, dNext, dBreak, dCont, dNever, dSet, dAsg, dPar_eq, two2_eq, dFor, dForR, dSetOwn, dAppend, dExtend, dFreeze, dPut, cVar, cC, cOp, cUn, cTest, cNot, cAnd, cOr, cAndV, cOrV, cNotV, cIf, cCall, cCons, cNil, cTup, cLst, cIsi, cFresh, cFew, cSl, cPart, cNoPart, cIxOwn, kName, kTup, kCons_eq, cons1_eq, cDisp, kNil, cTrue, start3, List.map_cons, List.map_nil, List.length_cons, List.length_nil, List.cons_append, List.nil_append, List.append_nil, List.getElem?_cons_zero, List.getElem?_cons_succ, List.getElem?_nil, List.set_cons_zero, List.set_cons_succ, Option.some.injEq, Lo.d.injEq, Lo.own.injEq, D.bl.injEq, D.int.injEq, exists_eq_left', exists_eq_left, Nat.reduceAdd, Nat.reduceSub, Nat.sub_self, Nat.add_one_sub_one, List.replicate_succ, List.replicate_zero, D.tup.injEq, List.cons.injEq, and_assoc, cComp, cCompR, ii_eq, addD_ii, addD_ll, addD_tt, addD_ss, negD_i, eqF_ii, neF_ii, eqF_ss, eqF_bb, absF_i, lenF_l, lenF_t, lenF_s, maxF_ii, minF_ii, intF_i, intF_b, listF_l, listF_t, tupleF_l, tupleF_t, itemsD_l, itemsD_t, slD_l, rng1_i, rng2_i, decide_eq_true_eq, true_and, and_true, if_true, if_false, Bool.false_eq_true, Bool.not_eq_true', decide_eq_false_iff_not, PySem.sizeLine_eq, Int.reduceToNat, Int.reducePow, Int.reduceMul, Int.reduceAdd, Int.reduceNeg, Int.reduceSub, Int.reduceLT, Int.reduceLE, Int.reduceEq, Nat.reduceEqDiff, decide_true, decide_false, Nat.reduceLeDiff, Nat.reduceLT, Bool.true_eq_false, Bool.not_true, Bool.not_false, Bool.not_not, f_are_wholes, F2_eq, pWholes, f_common_part, pGcd, f_upright, pUp]
  refine ⟨hx, ?_⟩
  cases hw : wholesD x 2 with
  | false =>
    rw [frac_not hw] at h
    simp only [dSeq, dIf, dRet, dRetN, dNext, dBreak, dCont, dNever, dSet, dAsg, dPar_eq, two2_eq, dFor, dForR, dSetOwn, dAppend, dExtend, dFreeze, dPut, cVar, cC, cOp, cUn, cTest, cNot, cAnd, cOr, cAndV, cOrV, cNotV, cIf, cCall, cCons, cNil, cTup, cLst, cIsi, cFresh, cFew, cSl, cPart, cNoPart, cIxOwn, kName, kTup, kCons_eq, cons1_eq, cDisp, kNil, cTrue, start3, List.map_cons, List.map_nil, List.length_cons, List.length_nil, List.cons_append, List.nil_append, List.append_nil, List.getElem?_cons_zero, List.getElem?_cons_succ, List.getElem?_nil, List.set_cons_zero, List.set_cons_succ, Option.some.injEq, Lo.d.injEq, Lo.own.injEq, D.bl.injEq, D.int.injEq, exists_eq_left', exists_eq_left, Nat.reduceAdd, Nat.reduceSub, Nat.sub_self, Nat.add_one_sub_one, List.replicate_succ, List.replicate_zero, D.tup.injEq, List.cons.injEq, and_assoc, cComp, cCompR, ii_eq, addD_ii, addD_ll, addD_tt, addD_ss, negD_i, eqF_ii, neF_ii, eqF_ss, eqF_bb, absF_i, lenF_l, lenF_t, lenF_s, maxF_ii, minF_ii, intF_i, intF_b, listF_l, listF_t, tupleF_l, tupleF_t, itemsD_l, itemsD_t, slD_l, rng1_i, rng2_i, decide_eq_true_eq, true_and, and_true, if_true, if_false, Bool.false_eq_true, Bool.not_eq_true', decide_eq_false_iff_not, PySem.sizeLine_eq, Int.reduceToNat, Int.reducePow, Int.reduceMul, Int.reduceAdd, Int.reduceNeg, Int.reduceSub, Int.reduceLT, Int.reduceLE, Int.reduceEq, Nat.reduceEqDiff, decide_true, decide_false, Nat.reduceLeDiff, Nat.reduceLT, Bool.true_eq_false, Bool.not_true, Bool.not_false, Bool.not_not]; exact h
  | true =>
    obtain ⟨p, q, rfl⟩ := wholes2 hw
    simp only [dSeq, dIf, dRet, dRetN, dNext, dBreak, dCont, dNever, dSet, dAsg, dPar_eq, two2_eq, dFor, dForR, dSetOwn, dAppend, dExtend, dFreeze, dPut, cVar, cC, cOp, cUn, cTest, cNot, cAnd, cOr, cAndV, cOrV, cNotV, cIf, cCall, cCons, cNil, cTup, cLst, cIsi, cFresh, cFew, cSl, cPart, cNoPart, cIxOwn, kName, kTup, kCons_eq, cons1_eq, cDisp, kNil, cTrue, start3, List.map_cons, List.map_nil, List.length_cons, List.length_nil, List.cons_append, List.nil_append, List.append_nil, List.getElem?_cons_zero, List.getElem?_cons_succ, List.getElem?_nil, List.set_cons_zero, List.set_cons_succ, Option.some.injEq, Lo.d.injEq, Lo.own.injEq, D.bl.injEq, D.int.injEq, exists_eq_left', exists_eq_left, Nat.reduceAdd, Nat.reduceSub, Nat.sub_self, Nat.add_one_sub_one, List.replicate_succ, List.replicate_zero, D.tup.injEq, List.cons.injEq, and_assoc, cComp, cCompR, ii_eq, addD_ii, addD_ll, addD_tt, addD_ss, negD_i, eqF_ii, neF_ii, eqF_ss, eqF_bb, absF_i, lenF_l, lenF_t, lenF_s, maxF_ii, minF_ii, intF_i, intF_b, listF_l, listF_t, tupleF_l, tupleF_t, itemsD_l, itemsD_t, slD_l, rng1_i, rng2_i, decide_eq_true_eq, true_and, and_true, if_true, if_false, Bool.false_eq_true, Bool.not_eq_true', decide_eq_false_iff_not, PySem.sizeLine_eq, Int.reduceToNat, Int.reducePow, Int.reduceMul, Int.reduceAdd, Int.reduceNeg, Int.reduceSub, Int.reduceLT, Int.reduceLE, Int.reduceEq, Nat.reduceEqDiff, decide_true, decide_false, Nat.reduceLeDiff, Nat.reduceLT, Bool.true_eq_false, Bool.not_true, Bool.not_false, Bool.not_not]
    refine ⟨p, q, rfl, rfl, ?_⟩
    simp only [fracD] at h
    by_cases hg : (Int.gcd p q : Int) = 1
    · have hg' : Int.gcd p q = 1 := by omega
      simp only [hg, dSeq, dIf, dRet, dRetN, dNext, dBreak, dCont, dNever, dSet, dAsg, dPar_eq, two2_eq, dFor, dForR, dSetOwn, dAppend, dExtend, dFreeze, dPut, cVar, cC, cOp, cUn, cTest, cNot, cAnd, cOr, cAndV, cOrV, cNotV, cIf, cCall, cCons, cNil, cTup, cLst, cIsi, cFresh, cFew, cSl, cPart, cNoPart, cIxOwn, kName, kTup, kCons_eq, cons1_eq, cDisp, kNil, cTrue, start3, List.map_cons, List.map_nil, List.length_cons, List.length_nil, List.cons_append, List.nil_append, List.append_nil, List.getElem?_cons_zero, List.getElem?_cons_succ, List.getElem?_nil, List.set_cons_zero, List.set_cons_succ, Option.some.injEq, Lo.d.injEq, Lo.own.injEq, D.bl.injEq, D.int.injEq, exists_eq_left', exists_eq_left, Nat.reduceAdd, Nat.reduceSub, Nat.sub_self, Nat.add_one_sub_one, List.replicate_succ, List.replicate_zero, D.tup.injEq, List.cons.injEq, and_assoc, cComp, cCompR, ii_eq, addD_ii, addD_ll, addD_tt, addD_ss, negD_i, eqF_ii, neF_ii, eqF_ss, eqF_bb, absF_i, lenF_l, lenF_t, lenF_s, maxF_ii, minF_ii, intF_i, intF_b, listF_l, listF_t, tupleF_l, tupleF_t, itemsD_l, itemsD_t, slD_l, rng1_i, rng2_i, decide_eq_true_eq, true_and, and_true, if_true, if_false, Bool.false_eq_true, Bool.not_eq_true', decide_eq_false_iff_not, PySem.sizeLine_eq, Int.reduceToNat, Int.reducePow, Int.reduceMul, Int.reduceAdd, Int.reduceNeg, Int.reduceSub, Int.reduceLT, Int.reduceLE, Int.reduceEq, Nat.reduceEqDiff, decide_true, decide_false, Nat.reduceLeDiff, Nat.reduceLT, Bool.true_eq_false, Bool.not_true, Bool.not_false, Bool.not_not, decide_true]
      refine ⟨p, q, rfl, rfl, ?_⟩
      simp only [hg', decide_true, Bool.true_and] at h
      refine ⟨?_, ?_⟩
      · unfold DepOk upD; split <;> simp [dep, depL]
      · have e : eqD (upD p q) (.tup [.int p, .int q]) = (decide (0 < q) || (decide (q = 0) && decide (p = 1))) := by
          unfold upD
          by_cases h1 : q < 0
          · rw [if_pos (.inl h1)]
            simp only [eqD, eqDs, Bool.and_true]
            rw [Bool.eq_iff_iff]; simp; omega
          · by_cases h2 : q = 0
            · subst h2
              have hp : p.natAbs = 1 := by simpa [Int.gcd] using hg'
              by_cases h3 : p < 0
              · rw [if_pos (.inr ⟨rfl, h3⟩)]
                simp only [eqD, eqDs, Bool.and_true]
                rw [Bool.eq_iff_iff]; simp; omega
              · rw [if_neg (by omega)]
                simp only [eqD, eqDs, Bool.and_true]
                rw [Bool.eq_iff_iff]; simp; omega
            · rw [if_neg (by omega)]
              simp only [eqD, eqDs, Bool.and_true]
              rw [Bool.eq_iff_iff]; simp; omega
        rw [e]; exact h
    · have hg' : ¬ Int.gcd p q = 1 := by omega
      simp only [hg, dSeq, dIf, dRet, dRetN, dNext, dBreak, dCont, dNever, dSet, dAsg, dPar_eq, two2_eq, dFor, dForR, dSetOwn, dAppend, dExtend, dFreeze, dPut, cVar, cC, cOp, cUn, cTest, cNot, cAnd, cOr, cAndV, cOrV, cNotV, cIf, cCall, cCons, cNil, cTup, cLst, cIsi, cFresh, cFew, cSl, cPart, cNoPart, cIxOwn, kName, kTup, kCons_eq, cons1_eq, cDisp, kNil, cTrue, start3, List.map_cons, List.map_nil, List.length_cons, List.length_nil, List.cons_append, List.nil_append, List.append_nil, List.getElem?_cons_zero, List.getElem?_cons_succ, List.getElem?_nil, List.set_cons_zero, List.set_cons_succ, Option.some.injEq, Lo.d.injEq, Lo.own.injEq, D.bl.injEq, D.int.injEq, exists_eq_left', exists_eq_left, Nat.reduceAdd, Nat.reduceSub, Nat.sub_self, Nat.add_one_sub_one, List.replicate_succ, List.replicate_zero, D.tup.injEq, List.cons.injEq, and_assoc, cComp, cCompR, ii_eq, addD_ii, addD_ll, addD_tt, addD_ss, negD_i, eqF_ii, neF_ii, eqF_ss, eqF_bb, absF_i, lenF_l, lenF_t, lenF_s, maxF_ii, minF_ii, intF_i, intF_b, listF_l, listF_t, tupleF_l, tupleF_t, itemsD_l, itemsD_t, slD_l, rng1_i, rng2_i, decide_eq_true_eq, true_and, and_true, if_true, if_false, Bool.false_eq_true, Bool.not_eq_true', decide_eq_false_iff_not, PySem.sizeLine_eq, Int.reduceToNat, Int.reducePow, Int.reduceMul, Int.reduceAdd, Int.reduceNeg, Int.reduceSub, Int.reduceLT, Int.reduceLE, Int.reduceEq, Nat.reduceEqDiff, decide_true, decide_false, Nat.reduceLeDiff, Nat.reduceLT, Bool.true_eq_false, Bool.not_true, Bool.not_false, Bool.not_not, decide_false]
      simp only [hg', decide_false, Bool.false_and] at h
      exact h
end L2.L3
set_option Elab.async false
set_option linter.all false
set_option maxRecDepth 100000
set_option maxHeartbeats 4000000
namespace L2.L3
open PySem
def cellZ (ns : List Int) (k : Int) : Int := if k < ns.length then ns.getD k.toNat 0 else 0
def pCell (x y : D) (Q : D → Prop) : Prop := ∃ (ns : List Int) (k : Int), x = .lst (ns.map D.int) ∧ y = .int k ∧ 0 ≤ k ∧ Q (.int (cellZ ns k))
def f_law_cell : Fw := F2 pCell
def t_law_cell : TS3 := (dSeq (dIf (cTest (cOp ltD (cVar 1) (cCall lenF (cCons (cVar 0) cNil)))) (dRet (cOp ixD (cVar 0) (cVar 1))) dNext) (dRet (cC (.int 0))))
theorem len_law_cell : ∀ ds Q, f_law_cell ds Q → ds.length = 2 := lenF2
theorem ob_law_cell : ∀ ds (Q : D → Prop), f_law_cell ds Q → t_law_cell { nx := fun _ => Q .non, rt := Q } (start3 ["_law_script", "_law_k"] ds) := by
  rintro ds Q ⟨x, y, rfl, ns, k, rfl, rfl, hk, h⟩
  simp only [t_law_cell, dSeq, dIf, dRet, dRetN, dNext, dBreak, dCont, dNever, dSet, dAsg, dPar_eq, two2_eq, dFor, dForR, dSetOwn, dAppend, dExtend, dFreeze, dPut, cVar, cC, cOp, cUn, cTest, cNot, cAnd, cOr, cAndV, cOrV, cNotV, cIf, cCall, cCons, cNil, cTup, cLst, cIsi, cFresh, cFew, cSl, cPart, cNoPart, cIxOwn, kName, kTup, kCons_eq, cons1_eq, cDisp, kNil, cTrue, start3, List.map_cons, List.map_nil, List.length_cons, List.length_nil, List.cons_append, List.nil_append, List.append_nil, List.getElem?_cons_zero, List.getElem?_cons_succ, List.getElem?_nil, List.set_cons_zero, List.set_cons_succ, Option.some.injEq, Lo.d.injEq, Lo.own.injEq, D.bl.injEq, D.int.injEq, exists_eq_left', exists_eq_left, Nat.reduceAdd, Nat.reduceSub, Nat.sub_self, Nat.add_one_sub_one, List.replicate_succ, List.replicate_zero, D.tup.injEq, List.cons.injEq, and_assoc, cComp, cCompR, ii_eq, addD_ii, addD_ll, addD_tt, addD_ss, negD_i, eqF_ii, neF_ii, eqF_ss, eqF_bb, absF_i, lenF_l, lenF_t, lenF_s, maxF_ii, minF_ii, intF_i, intF_b, listF_l, listF_t, tupleF_l, tupleF_t, itemsD_l, itemsD_t, slD_l, rng1_i, rng2_i, decide_eq_true_eq, true_and, and_true, if_true, if_false, Bool.false_eq_true, Bool.not_eq_true', decide_eq_false_iff_not, PySem.sizeLine_eq, Int.reduceToNat, Int.reducePow, Int.reduceMul, Int.reduceAdd, Int.reduceNeg, Int.reduceSub, Int.reduceLT, Int.reduceLE, Int.reduceEq, Nat.reduceEqDiff, decide_true, decide_false, Nat.reduceLeDiff, Nat.reduceLT, Bool.true_eq_false, Bool.not_true, Bool.not_false, Bool.not_not, List.length_map]
  unfold cellZ at h
  by_cases hl : k < ns.length
  · rw [if_pos hl] at h ⊢
    have hn : k.toNat < ns.length := by omega
    refine ⟨.int (ns.getD k.toNat 0), ?_, h⟩
    rw [atI_nat hk (by simpa using hl)]
    simp [hn]
  · rw [if_neg hl] at h ⊢; exact h
def pDigs (x y z : D) (Q : D → Prop) : Prop := ∃ (c b : Int) (m : Nat), x = .int c ∧ y = .int b ∧ z = .int m ∧ 0 < b ∧ Bits 9000 b ∧ m ≤ 100000 ∧ ∀ d, Digs m b d → Q d
def f_law_digits : Fw := F3 pDigs
def t_law_digits : TS3 := (dSeq (dSetOwn 3 (cFew cNil)) (dSeq (dForR rng1 (cCons (cVar 2) cNil) (kName 4) (dSeq (dAppend 3 (cOp modD (cVar 0) (cVar 1))) (dSet 0 (cOp fdivD (cVar 0) (cVar 1))))) (dFreeze 3 (dRet (cVar 3)))))
theorem len_law_digits : ∀ ds Q, f_law_digits ds Q → ds.length = 3 := lenF3
theorem ob_law_digits : ∀ ds (Q : D → Prop), f_law_digits ds Q → t_law_digits { nx := fun _ => Q .non, rt := Q } (start3 ["_law_cell_here", "_law_base", "_law_many", "_law_row_here", "_law_k"] ds) := by
  rintro ds Q ⟨x, y, z, rfl, c, b, m, rfl, rfl, rfl, hb, hbb, hm, h⟩
  simp only [t_law_digits, dSeq, dIf, dRet, dRetN, dNext, dBreak, dCont, dNever, dSet, dAsg, dPar_eq, two2_eq, dFor, dForR, dSetOwn, dAppend, dExtend, dFreeze, dPut, cVar, cC, cOp, cUn, cTest, cNot, cAnd, cOr, cAndV, cOrV, cNotV, cIf, cCall, cCons, cNil, cTup, cLst, cIsi, cFresh, cFew, cSl, cPart, cNoPart, cIxOwn, kName, kTup, kCons_eq, cons1_eq, cDisp, kNil, cTrue, start3, List.map_cons, List.map_nil, List.length_cons, List.length_nil, List.cons_append, List.nil_append, List.append_nil, List.getElem?_cons_zero, List.getElem?_cons_succ, List.getElem?_nil, List.set_cons_zero, List.set_cons_succ, Option.some.injEq, Lo.d.injEq, Lo.own.injEq, D.bl.injEq, D.int.injEq, exists_eq_left', exists_eq_left, Nat.reduceAdd, Nat.reduceSub, Nat.sub_self, Nat.add_one_sub_one, List.replicate_succ, List.replicate_zero, D.tup.injEq, List.cons.injEq, and_assoc, cComp, cCompR, ii_eq, addD_ii, addD_ll, addD_tt, addD_ss, negD_i, eqF_ii, neF_ii, eqF_ss, eqF_bb, absF_i, lenF_l, lenF_t, lenF_s, maxF_ii, minF_ii, intF_i, intF_b, listF_l, listF_t, tupleF_l, tupleF_t, itemsD_l, itemsD_t, slD_l, rng1_i, rng2_i, decide_eq_true_eq, true_and, and_true, if_true, if_false, Bool.false_eq_true, Bool.not_eq_true', decide_eq_false_iff_not, PySem.sizeLine_eq, Int.reduceToNat, Int.reducePow, Int.reduceMul, Int.reduceAdd, Int.reduceNeg, Int.reduceSub, Int.reduceLT, Int.reduceLE, Int.reduceEq, Nat.reduceEqDiff, decide_true, decide_false, Nat.reduceLeDiff, Nat.reduceLT, Bool.true_eq_false, Bool.not_true, Bool.not_false, Bool.not_not]
  refine ⟨by omega, by omega, ?_⟩
  refine turns_of (fun i e => ∃ (c' : Int) (xs : List Int) (k : Option Lo), e = [some (.d (.int c')), some (.d (.int b)), some (.d (.int m)), some (.own (xs.map D.int)), k] ∧ xs.length = i ∧ ∀ x ∈ xs, 0 ≤ x ∧ x < b) ?_ ?_ ⟨c, [], none, rfl, rfl, by simp⟩
  · rintro i x env N hx ⟨c', xs, k, rfl, hl, hxs⟩ hN
    have hi : i < m := by have := (List.getElem?_eq_some_iff.mp hx).1; simpa [intsD] using this
    simp only [dSeq, dIf, dRet, dRetN, dNext, dBreak, dCont, dNever, dSet, dAsg, dPar_eq, two2_eq, dFor, dForR, dSetOwn, dAppend, dExtend, dFreeze, dPut, cVar, cC, cOp, cUn, cTest, cNot, cAnd, cOr, cAndV, cOrV, cNotV, cIf, cCall, cCons, cNil, cTup, cLst, cIsi, cFresh, cFew, cSl, cPart, cNoPart, cIxOwn, kName, kTup, kCons_eq, cons1_eq, cDisp, kNil, cTrue, start3, List.map_cons, List.map_nil, List.length_cons, List.length_nil, List.cons_append, List.nil_append, List.append_nil, List.getElem?_cons_zero, List.getElem?_cons_succ, List.getElem?_nil, List.set_cons_zero, List.set_cons_succ, Option.some.injEq, Lo.d.injEq, Lo.own.injEq, D.bl.injEq, D.int.injEq, exists_eq_left', exists_eq_left, Nat.reduceAdd, Nat.reduceSub, Nat.sub_self, Nat.add_one_sub_one, List.replicate_succ, List.replicate_zero, D.tup.injEq, List.cons.injEq, and_assoc, cComp, cCompR, ii_eq, addD_ii, addD_ll, addD_tt, addD_ss, negD_i, eqF_ii, neF_ii, eqF_ss, eqF_bb, absF_i, lenF_l, lenF_t, lenF_s, maxF_ii, minF_ii, intF_i, intF_b, listF_l, listF_t, tupleF_l, tupleF_t, itemsD_l, itemsD_t, slD_l, rng1_i, rng2_i, decide_eq_true_eq, true_and, and_true, if_true, if_false, Bool.false_eq_true, Bool.not_eq_true', decide_eq_false_iff_not, PySem.sizeLine_eq, Int.reduceToNat, Int.reducePow, Int.reduceMul, Int.reduceAdd, Int.reduceNeg, Int.reduceSub, Int.reduceLT, Int.reduceLE, Int.reduceEq, Nat.reduceEqDiff, decide_true, decide_false, Nat.reduceLeDiff, Nat.reduceLT, Bool.true_eq_false, Bool.not_true, Bool.not_false, Bool.not_not, List.length_map]
    refine ⟨by omega, ?_, div_ok hbb (by omega) (by omega), ?_⟩
    · show b ≠ 0; omega
    · refine hN _ ⟨c'.fdiv b, xs ++ [c'.fmod b], some (.d x), by simp, by simp [hl], ?_⟩
      intro y hy
      rcases List.mem_append.mp hy with hy | hy
      · exact hxs y hy
      · rw [List.mem_singleton.mp hy]; exact fmod_range hb
  · rintro env ⟨c', xs, k, rfl, hl, hxs⟩
    simp only [dSeq, dIf, dRet, dRetN, dNext, dBreak, dCont, dNever, dSet, dAsg, dPar_eq, two2_eq, dFor, dForR, dSetOwn, dAppend, dExtend, dFreeze, dPut, cVar, cC, cOp, cUn, cTest, cNot, cAnd, cOr, cAndV, cOrV, cNotV, cIf, cCall, cCons, cNil, cTup, cLst, cIsi, cFresh, cFew, cSl, cPart, cNoPart, cIxOwn, kName, kTup, kCons_eq, cons1_eq, cDisp, kNil, cTrue, start3, List.map_cons, List.map_nil, List.length_cons, List.length_nil, List.cons_append, List.nil_append, List.append_nil, List.getElem?_cons_zero, List.getElem?_cons_succ, List.getElem?_nil, List.set_cons_zero, List.set_cons_succ, Option.some.injEq, Lo.d.injEq, Lo.own.injEq, D.bl.injEq, D.int.injEq, exists_eq_left', exists_eq_left, Nat.reduceAdd, Nat.reduceSub, Nat.sub_self, Nat.add_one_sub_one, List.replicate_succ, List.replicate_zero, D.tup.injEq, List.cons.injEq, and_assoc, cComp, cCompR, ii_eq, addD_ii, addD_ll, addD_tt, addD_ss, negD_i, eqF_ii, neF_ii, eqF_ss, eqF_bb, absF_i, lenF_l, lenF_t, lenF_s, maxF_ii, minF_ii, intF_i, intF_b, listF_l, listF_t, tupleF_l, tupleF_t, itemsD_l, itemsD_t, slD_l, rng1_i, rng2_i, decide_eq_true_eq, true_and, and_true, if_true, if_false, Bool.false_eq_true, Bool.not_eq_true', decide_eq_false_iff_not, PySem.sizeLine_eq, Int.reduceToNat, Int.reducePow, Int.reduceMul, Int.reduceAdd, Int.reduceNeg, Int.reduceSub, Int.reduceLT, Int.reduceLE, Int.reduceEq, Nat.reduceEqDiff, decide_true, decide_false, Nat.reduceLeDiff, Nat.reduceLT, Bool.true_eq_false, Bool.not_true, Bool.not_false, Bool.not_not]
    exact h _ ⟨xs, rfl, by simpa [intsD] using hl, hxs⟩
def f_law_mixed : Fw := F3 pDigs
def t_law_mixed : TS3 := (dSeq (dSetOwn 3 (cFew cNil)) (dSeq (dForR rng1 (cCons (cVar 2) cNil) (kName 4) (dSeq (dSet 5 (cOp modD (cOp mulD (cOp addD (cOp addD (cOp addD (cOp modD (cVar 0) (cC (.int 998244353))) (cOp mulD (cOp mulD (cC (.int 31)) (cVar 4)) (cVar 4))) (cOp mulD (cC (.int 1013)) (cVar 4))) (cC (.int 1))) (cC (.int 48271))) (cC (.int 2147483647)))) (dSeq (dSet 6 (cOp modD (cOp mulD (cOp addD (cOp addD (cOp fdivD (cVar 5) (cC (.int 7))) (cOp mulD (cOp modD (cOp fdivD (cVar 0) (cC (.int 1009))) (cC (.int 10007))) (cC (.int 17)))) (cVar 4)) (cC (.int 69621))) (cC (.int 2147483629)))) (dAppend 3 (cOp modD (cOp fdivD (cVar 6) (cC (.int 11))) (cVar 1)))))) (dFreeze 3 (dRet (cVar 3)))))
theorem len_law_mixed : ∀ ds Q, f_law_mixed ds Q → ds.length = 3 := lenF3
theorem ob_law_mixed : ∀ ds (Q : D → Prop), f_law_mixed ds Q → t_law_mixed { nx := fun _ => Q .non, rt := Q } (start3 ["_law_cell_here", "_law_base", "_law_many", "_law_row_here", "_law_k", "_law_one", "_law_two"] ds) := by
  rintro ds Q ⟨x, y, z, rfl, c, b, m, rfl, rfl, rfl, hb, hbb, hm, h⟩
  simp only [t_law_mixed, dSeq, dIf, dRet, dRetN, dNext, dBreak, dCont, dNever, dSet, dAsg, dPar_eq, two2_eq, dFor, dForR, dSetOwn, dAppend, dExtend, dFreeze, dPut, cVar, cC, cOp, cUn, cTest, cNot, cAnd, cOr, cAndV, cOrV, cNotV, cIf, cCall, cCons, cNil, cTup, cLst, cIsi, cFresh, cFew, cSl, cPart, cNoPart, cIxOwn, kName, kTup, kCons_eq, cons1_eq, cDisp, kNil, cTrue, start3, List.map_cons, List.map_nil, List.length_cons, List.length_nil, List.cons_append, List.nil_append, List.append_nil, List.getElem?_cons_zero, List.getElem?_cons_succ, List.getElem?_nil, List.set_cons_zero, List.set_cons_succ, Option.some.injEq, Lo.d.injEq, Lo.own.injEq, D.bl.injEq, D.int.injEq, exists_eq_left', exists_eq_left, Nat.reduceAdd, Nat.reduceSub, Nat.sub_self, Nat.add_one_sub_one, List.replicate_succ, List.replicate_zero, D.tup.injEq, List.cons.injEq, and_assoc, cComp, cCompR, ii_eq, addD_ii, addD_ll, addD_tt, addD_ss, negD_i, eqF_ii, neF_ii, eqF_ss, eqF_bb, absF_i, lenF_l, lenF_t, lenF_s, maxF_ii, minF_ii, intF_i, intF_b, listF_l, listF_t, tupleF_l, tupleF_t, itemsD_l, itemsD_t, slD_l, rng1_i, rng2_i, decide_eq_true_eq, true_and, and_true, if_true, if_false, Bool.false_eq_true, Bool.not_eq_true', decide_eq_false_iff_not, PySem.sizeLine_eq, Int.reduceToNat, Int.reducePow, Int.reduceMul, Int.reduceAdd, Int.reduceNeg, Int.reduceSub, Int.reduceLT, Int.reduceLE, Int.reduceEq, Nat.reduceEqDiff, decide_true, decide_false, Nat.reduceLeDiff, Nat.reduceLT, Bool.true_eq_false, Bool.not_true, Bool.not_false, Bool.not_not]
  refine ⟨by omega, by omega, ?_⟩
  refine turns_of (fun i e => ∃ (xs : List Int) (k1 k2 k3 : Option Lo), e = [some (.d (.int c)), some (.d (.int b)), some (.d (.int m)), some (.own (xs.map D.int)), k1, k2, k3] ∧ xs.length = i ∧ ∀ x ∈ xs, 0 ≤ x ∧ x < b) ?_ ?_ ⟨[], none, none, none, rfl, rfl, by simp⟩
  · rintro i x env N hx ⟨xs, k1, k2, k3, rfl, hl, hxs⟩ hN
    have hi : i < m := by have := (List.getElem?_eq_some_iff.mp hx).1; simpa [intsD] using this
    have hxe : x = .int (i : Int) := by
      have : (intsD 0 m)[i]? = some (.int (0 + (i : Int))) := by simp [intsD, hi]
      rw [show ((m : Int).toNat) = m by omega] at hx
      rw [this] at hx; cases hx; simp
    subst hxe
    have r1 := fmod_range (a := c) (b := 998244353) (by decide)
    have r2 := fmod_range (a := c.fdiv 1009) (b := 10007) (by decide)
    simp only [dSeq, dIf, dRet, dRetN, dNext, dBreak, dCont, dNever, dSet, dAsg, dPar_eq, two2_eq, dFor, dForR, dSetOwn, dAppend, dExtend, dFreeze, dPut, cVar, cC, cOp, cUn, cTest, cNot, cAnd, cOr, cAndV, cOrV, cNotV, cIf, cCall, cCons, cNil, cTup, cLst, cIsi, cFresh, cFew, cSl, cPart, cNoPart, cIxOwn, kName, kTup, kCons_eq, cons1_eq, cDisp, kNil, cTrue, start3, List.map_cons, List.map_nil, List.length_cons, List.length_nil, List.cons_append, List.nil_append, List.append_nil, List.getElem?_cons_zero, List.getElem?_cons_succ, List.getElem?_nil, List.set_cons_zero, List.set_cons_succ, Option.some.injEq, Lo.d.injEq, Lo.own.injEq, D.bl.injEq, D.int.injEq, exists_eq_left', exists_eq_left, Nat.reduceAdd, Nat.reduceSub, Nat.sub_self, Nat.add_one_sub_one, List.replicate_succ, List.replicate_zero, D.tup.injEq, List.cons.injEq, and_assoc, cComp, cCompR, ii_eq, addD_ii, addD_ll, addD_tt, addD_ss, negD_i, eqF_ii, neF_ii, eqF_ss, eqF_bb, absF_i, lenF_l, lenF_t, lenF_s, maxF_ii, minF_ii, intF_i, intF_b, listF_l, listF_t, tupleF_l, tupleF_t, itemsD_l, itemsD_t, slD_l, rng1_i, rng2_i, decide_eq_true_eq, true_and, and_true, if_true, if_false, Bool.false_eq_true, Bool.not_eq_true', decide_eq_false_iff_not, PySem.sizeLine_eq, Int.reduceToNat, Int.reducePow, Int.reduceMul, Int.reduceAdd, Int.reduceNeg, Int.reduceSub, Int.reduceLT, Int.reduceLE, Int.reduceEq, Nat.reduceEqDiff, decide_true, decide_false, Nat.reduceLeDiff, Nat.reduceLT, Bool.true_eq_false, Bool.not_true, Bool.not_false, Bool.not_not, List.length_map, ModOk]
    and_intros
    all_goals first
      | decide
      | omega
      | exact mul_ok_l (by decide) (by decide)
      | exact mul_ok_r (by decide) (by decide)
      | exact mul_ok_r (by omega) (by omega)
      | skip
    refine hN _ ⟨xs ++ [_], _, _, _, by rw [List.map_append]; rfl, by simp [hl], ?_⟩
    intro y hy
    rcases List.mem_append.mp hy with hy | hy
    · exact hxs y hy
    · rw [List.mem_singleton.mp hy]; exact fmod_range hb
  · rintro env ⟨xs, k1, k2, k3, rfl, hl, hxs⟩
    simp only [dSeq, dIf, dRet, dRetN, dNext, dBreak, dCont, dNever, dSet, dAsg, dPar_eq, two2_eq, dFor, dForR, dSetOwn, dAppend, dExtend, dFreeze, dPut, cVar, cC, cOp, cUn, cTest, cNot, cAnd, cOr, cAndV, cOrV, cNotV, cIf, cCall, cCons, cNil, cTup, cLst, cIsi, cFresh, cFew, cSl, cPart, cNoPart, cIxOwn, kName, kTup, kCons_eq, cons1_eq, cDisp, kNil, cTrue, start3, List.map_cons, List.map_nil, List.length_cons, List.length_nil, List.cons_append, List.nil_append, List.append_nil, List.getElem?_cons_zero, List.getElem?_cons_succ, List.getElem?_nil, List.set_cons_zero, List.set_cons_succ, Option.some.injEq, Lo.d.injEq, Lo.own.injEq, D.bl.injEq, D.int.injEq, exists_eq_left', exists_eq_left, Nat.reduceAdd, Nat.reduceSub, Nat.sub_self, Nat.add_one_sub_one, List.replicate_succ, List.replicate_zero, D.tup.injEq, List.cons.injEq, and_assoc, cComp, cCompR, ii_eq, addD_ii, addD_ll, addD_tt, addD_ss, negD_i, eqF_ii, neF_ii, eqF_ss, eqF_bb, absF_i, lenF_l, lenF_t, lenF_s, maxF_ii, minF_ii, intF_i, intF_b, listF_l, listF_t, tupleF_l, tupleF_t, itemsD_l, itemsD_t, slD_l, rng1_i, rng2_i, decide_eq_true_eq, true_and, and_true, if_true, if_false, Bool.false_eq_true, Bool.not_eq_true', decide_eq_false_iff_not, PySem.sizeLine_eq, Int.reduceToNat, Int.reducePow, Int.reduceMul, Int.reduceAdd, Int.reduceNeg, Int.reduceSub, Int.reduceLT, Int.reduceLE, Int.reduceEq, Nat.reduceEqDiff, decide_true, decide_false, Nat.reduceLeDiff, Nat.reduceLT, Bool.true_eq_false, Bool.not_true, Bool.not_false, Bool.not_not]
    exact h _ ⟨xs, rfl, by simpa [intsD] using hl, hxs⟩
def f_law_row : Fw := F3 pDigs
def t_law_row : TS3 := (dSeq (dIf (cTest (cOp geD (cCall absF (cCons (cVar 0) cNil)) (cOp powD (cC (.int 10)) (cC (.int 18))))) (dRet (cCall f_law_digits (cCons (cVar 0) (cCons (cVar 1) (cCons (cVar 2) cNil))))) dNext) (dRet (cCall f_law_mixed (cCons (cVar 0) (cCons (cVar 1) (cCons (cVar 2) cNil))))))
theorem len_law_row : ∀ ds Q, f_law_row ds Q → ds.length = 3 := lenF3
theorem ob_law_row : ∀ ds (Q : D → Prop), f_law_row ds Q → t_law_row { nx := fun _ => Q .non, rt := Q } (start3 ["_law_cell_here", "_law_base", "_law_many"] ds) := by
  rintro ds Q ⟨x, y, z, rfl, c, b, m, rfl, rfl, rfl, hb, hbb, hm, h⟩
  simp only [t_law_row, dSeq, dIf, dRet, dRetN, dNext, dBreak, dCont, dNever, dSet, dAsg, dPar_eq, two2_eq, dFor, dForR, dSetOwn, dAppend, dExtend, dFreeze, dPut, cVar, cC, cOp, cUn, cTest, cNot, cAnd, cOr, cAndV, cOrV, cNotV, cIf, cCall, cCons, cNil, cTup, cLst, cIsi, cFresh, cFew, cSl, cPart, cNoPart, cIxOwn, kName, kTup, kCons_eq, cons1_eq, cDisp, kNil, cTrue, start3, List.map_cons, List.map_nil, List.length_cons, List.length_nil, List.cons_append, List.nil_append, List.append_nil, List.getElem?_cons_zero, List.getElem?_cons_succ, List.getElem?_nil, List.set_cons_zero, List.set_cons_succ, Option.some.injEq, Lo.d.injEq, Lo.own.injEq, D.bl.injEq, D.int.injEq, exists_eq_left', exists_eq_left, Nat.reduceAdd, Nat.reduceSub, Nat.sub_self, Nat.add_one_sub_one, List.replicate_succ, List.replicate_zero, D.tup.injEq, List.cons.injEq, and_assoc, cComp, cCompR, ii_eq, addD_ii, addD_ll, addD_tt, addD_ss, negD_i, eqF_ii, neF_ii, eqF_ss, eqF_bb, absF_i, lenF_l, lenF_t, lenF_s, maxF_ii, minF_ii, intF_i, intF_b, listF_l, listF_t, tupleF_l, tupleF_t, itemsD_l, itemsD_t, slD_l, rng1_i, rng2_i, decide_eq_true_eq, true_and, and_true, if_true, if_false, Bool.false_eq_true, Bool.not_eq_true', decide_eq_false_iff_not, PySem.sizeLine_eq, Int.reduceToNat, Int.reducePow, Int.reduceMul, Int.reduceAdd, Int.reduceNeg, Int.reduceSub, Int.reduceLT, Int.reduceLE, Int.reduceEq, Nat.reduceEqDiff, decide_true, decide_false, Nat.reduceLeDiff, Nat.reduceLT, Bool.true_eq_false, Bool.not_true, Bool.not_false, Bool.not_not, f_law_digits, f_law_mixed, F3_eq]
  refine ⟨by (first | exact divL _ (by decide) | exact powL _ _ (by decide) | exact modL _ (by first | decide | omega) | exact mul_ok_l (by decide) (by decide) | exact mul_ok_r (by decide) (by decide) | omega | decide), ?_⟩
  split <;> exact ⟨c, b, m, rfl, rfl, rfl, hb, hbb, hm, h⟩
end L2.L3
set_option Elab.async false
set_option linter.all false
set_option maxRecDepth 100000
set_option maxHeartbeats 4000000
namespace L2.L3
open PySem
structure M4 where
  a : Int
  b : Int
  c : Int
  d : Int
  deriving DecidableEq
namespace M4
def neg (m : M4) : M4 := ⟨-m.a, -m.b, -m.c, -m.d⟩
def det (m : M4) : Int := m.a * m.d - m.b * m.c
def Low (m : M4) : Prop := m.c < 0 ∨ (m.c = 0 ∧ m.d < 0)
instance (m : M4) : Decidable m.Low := inferInstanceAs (Decidable (_ ∨ _))
def B (n : Nat) (m : M4) : Prop := Bits n m.a ∧ Bits n m.b ∧ Bits n m.c ∧ Bits n m.d
def T (m : M4) : Prop := m.det = 1 ∧ (0 < m.c ∨ (m.c = 0 ∧ m.d = 1))
def one : M4 := ⟨1, 0, 0, 1⟩
theorem B.neg {n : Nat} {m : M4} (h : m.B n) : m.neg.B n := ⟨bits_neg h.1, bits_neg h.2.1, bits_neg h.2.2.1, bits_neg h.2.2.2⟩
end M4
end L2.L3
set_option Elab.async false
set_option linter.all false
set_option maxRecDepth 100000
set_option maxHeartbeats 4000000
namespace L2.L3
open PySem
end L2.L3
set_option Elab.async false
set_option linter.all false
set_option maxRecDepth 100000
set_option maxHeartbeats 4000000
namespace L2.L3
open PySem
abbrev Z2 := Int × Int
def frD (x : Z2) : D := .tup [.int x.1, .int x.2]
def negP (x : Z2) : Z2 := (-x.1, -x.2)
def LowP (x : Z2) : Prop := x.2 < 0 ∨ (x.2 = 0 ∧ x.1 < 0)
instance (x : Z2) : Decidable (LowP x) := inferInstanceAs (Decidable (_ ∨ _))
def upP (x : Z2) : Z2 := if LowP x then negP x else x
theorem upP_low {x : Z2} (h : LowP x) : upP x = negP x := if_pos h
theorem upP_not {x : Z2} (h : ¬ LowP x) : upP x = x := if_neg h
def Fr (x : Z2) : Prop := Int.gcd x.1 x.2 = 1 ∧ (0 < x.2 ∨ (x.2 = 0 ∧ x.1 = 1))
theorem upD_eq (p q : Int) : upD p q = frD (upP (p, q)) := by
  unfold upD
  split
  · rename_i h; rw [upP_low (show LowP (p, q) from h)]; rfl
  · rename_i h; rw [upP_not (show ¬ LowP (p, q) from h)]; rfl
theorem upP_fr {x : Z2} (h : Fr x) : upP x = x := by
  refine upP_not ?_
  unfold LowP
  rcases h.2 with z | ⟨z, y⟩ <;> omega
theorem fr_ne {x : Z2} (h : Fr x) : ¬ (x.1 = 0 ∧ x.2 = 0) := by rcases h.2 with z | ⟨z, y⟩ <;> omega
end L2.L3
set_option Elab.async false
set_option linter.all false
set_option maxRecDepth 100000
set_option maxHeartbeats 4000000
namespace L2.L3
open PySem
def B2 (n : Nat) (x : Z2) : Prop := Bits n x.1 ∧ Bits n x.2
theorem b2_le {n m : Nat} {x : Z2} (h : B2 n x) (hm : n ≤ m) : B2 m x := ⟨bits_le h.1 hm, bits_le h.2 hm⟩
theorem b2_10 : B2 1 ((1, 0) : Z2) := ⟨bitsL _ _ (by decide), bitsL _ _ (by decide)⟩
end L2.L3
set_option Elab.async false
set_option linter.all false
set_option maxRecDepth 100000
set_option maxHeartbeats 4000000
namespace L2.L3
open PySem
def sgnG (p q : Int) : Int := if q < 0 then -(Int.gcd p q : Int) else Int.gcd p q
def mkP (p q : Int) : Z2 := if q = 0 then (1, 0) else (p.fdiv (sgnG p q), q.fdiv (sgnG p q))
theorem gcd_pos {p q : Int} (h : ¬ (p = 0 ∧ q = 0)) : 0 < Int.gcd p q := by
  rcases Nat.eq_zero_or_pos (Int.gcd p q) with z | z
  · exact absurd (Int.gcd_eq_zero_iff.mp z) h
  · exact z
theorem sgnG_ne {p q : Int} (h : ¬ (p = 0 ∧ q = 0)) : sgnG p q ≠ 0 := by
  have := gcd_pos h
  unfold sgnG; split <;> omega
theorem sgnG_abs (p q : Int) : (sgnG p q).natAbs = Int.gcd p q := by
  unfold sgnG; split
  · rw [Int.natAbs_neg]; rfl
  · rfl
theorem sgnG_dvd_l (p q : Int) : sgnG p q ∣ p := by
  unfold sgnG; split
  · exact Int.neg_dvd.mpr (Int.gcd_dvd_left ..)
  · exact Int.gcd_dvd_left ..
theorem sgnG_dvd_r (p q : Int) : sgnG p q ∣ q := by
  unfold sgnG; split
  · exact Int.neg_dvd.mpr (Int.gcd_dvd_right ..)
  · exact Int.gcd_dvd_right ..
theorem fdiv_dvd {a g : Int} (h : g ∣ a) (hg : g ≠ 0) : a.fdiv g * g = a := by
  obtain ⟨k, rfl⟩ := h
  rw [Int.mul_comm g k, Int.mul_fdiv_cancel _ hg]
theorem mkP_Fr {p q : Int} (h : ¬ (p = 0 ∧ q = 0)) : Fr (mkP p q) := by
  unfold mkP
  by_cases hq : q = 0
  · rw [if_pos hq]; exact ⟨by decide, .inr ⟨rfl, rfl⟩⟩
  · rw [if_neg hq]
    have hg := sgnG_ne h
    have e1 := fdiv_dvd (sgnG_dvd_l p q) hg
    have e2 := fdiv_dvd (sgnG_dvd_r p q) hg
    have hp := gcd_pos h
    have hs := sgnG_abs p q
    have hsg : (q < 0 ∧ sgnG p q < 0) ∨ (0 < q ∧ 0 < sgnG p q) := by
      unfold sgnG
      by_cases z : q < 0
      · rw [if_pos z]; omega
      · rw [if_neg z]; omega
    generalize sgnG p q = g at *
    generalize p.fdiv g = x at *
    generalize q.fdiv g = y at *
    refine ⟨?_, .inl ?_⟩
    · show Int.gcd x y = 1
      have e3 : Int.gcd p q = Int.gcd x y * g.natAbs := by rw [← e1, ← e2]; exact Int.gcd_mul_right ..
      rw [hs] at e3
      have : Int.gcd x y * Int.gcd p q = 1 * Int.gcd p q := by omega
      exact Nat.eq_of_mul_eq_mul_right hp this
    · show 0 < y
      rcases hsg with ⟨z1, z2⟩ | ⟨z1, z2⟩
      · rcases Int.lt_trichotomy y 0 with w | w | w
        · exact absurd (Int.mul_pos_of_neg_of_neg w z2) (by omega)
        · subst w; omega
        · exact w
      · rcases Int.lt_trichotomy y 0 with w | w | w
        · exact absurd (Int.mul_neg_of_neg_of_pos w z2) (by omega)
        · subst w; omega
        · exact w
theorem fdiv_abs {a g : Int} (h : g ∣ a) (hg : g ≠ 0) : (a.fdiv g).natAbs ≤ a.natAbs := by
  have e := fdiv_dvd h hg
  have : (a.fdiv g).natAbs * g.natAbs = a.natAbs := by rw [← Int.natAbs_mul, e]
  have h1 : 1 ≤ g.natAbs := by omega
  calc (a.fdiv g).natAbs = (a.fdiv g).natAbs * 1 := by omega
    _ ≤ (a.fdiv g).natAbs * g.natAbs := Nat.mul_le_mul_left _ h1
    _ = a.natAbs := this
theorem mkP_B {p q : Int} {n : Nat} (h : ¬ (p = 0 ∧ q = 0)) (hB : B2 n (p, q)) (hn : 1 ≤ n) : B2 n (mkP p q) := by
  unfold mkP
  split
  · exact b2_le b2_10 hn
  · exact ⟨Nat.lt_of_le_of_lt (fdiv_abs (sgnG_dvd_l p q) (sgnG_ne h)) hB.1, Nat.lt_of_le_of_lt (fdiv_abs (sgnG_dvd_r p q) (sgnG_ne h)) hB.2⟩
theorem mkP_up {p q : Int} (h : Int.gcd p q = 1) : mkP p q = upP (p, q) := by
  unfold mkP
  by_cases hq : q = 0
  · subst hq
    have : p.natAbs = 1 := by simpa [Int.gcd] using h
    rw [if_pos rfl]
    by_cases hp : p < 0
    · rw [upP_low (x := (p, 0)) (.inr ⟨rfl, hp⟩)]
      show (1, 0) = (-p, -0)
      rw [show -p = 1 by omega]; rfl
    · rw [upP_not (x := (p, 0)) (by unfold LowP; omega)]
      rw [show p = 1 by omega]
  · rw [if_neg hq]
    unfold sgnG
    rw [h]
    by_cases hn : q < 0
    · rw [if_pos hn, upP_low (x := (p, q)) (.inl hn)]
      show (p.fdiv (-1), q.fdiv (-1)) = (-p, -q)
      have e : ∀ a : Int, a.fdiv (-1) = -a := fun a => by
        have := fdiv_dvd (a := a) (g := -1) ⟨-a, by omega⟩ (by decide)
        omega
      rw [e, e]
    · rw [if_neg hn, upP_not (x := (p, q)) (by unfold LowP; omega)]
      show (p.fdiv 1, q.fdiv 1) = (p, q)
      rw [Int.fdiv_one, Int.fdiv_one]
def pMade (x y : D) (Q : D → Prop) : Prop := ∃ p q : Int, x = .int p ∧ y = .int q ∧ ¬ (p = 0 ∧ q = 0) ∧ B2 9000 (p, q) ∧ Q (frD (mkP p q))
end L2.L3
set_option Elab.async false
set_option linter.all false
set_option maxRecDepth 100000
set_option maxHeartbeats 4000000
namespace L2.L3
open PySem
theorem eqD_fr (x y : Z2) : eqD (frD x) (frD y) = decide (x = y) := by
  simp only [frD, eqD, eqDs, Bool.and_true]
  rw [Bool.eq_iff_iff]; simp [Prod.ext_iff]
theorem dep_fr (x : Z2) : dep (frD x) = 1 := by simp [frD, dep, depL]
theorem eqF_fr {x y : Z2} {Q : D → Prop} : eqF (frD x) (frD y) Q = Q (.bl (decide (x = y))) := by
  unfold eqF DepOk; rw [dep_fr, dep_fr, eqD_fr]; simp
end L2.L3
set_option Elab.async false
set_option linter.all false
set_option maxRecDepth 100000
set_option maxHeartbeats 4000000
namespace L2.L3
open PySem
def G2 (P : D → D → (D → Prop) → (Str → Prop) → Prop) : FwX := fun ds Q R => ∃ x y, ds = [x, y] ∧ P x y Q R
theorem lenG2 {P} : ∀ ds (Q : D → Prop) (R : Str → Prop), G2 P ds Q R → ds.length = 2 := by rintro ds Q R ⟨x, y, rfl, _⟩; rfl
theorem G2_eq {P} {x y : D} {Q R} : G2 P [x, y] Q R = P x y Q R := by
  unfold G2; apply propext; constructor
  · rintro ⟨x', y', e, h⟩; cases e; exact h
  · intro h; exact ⟨_, _, rfl, h⟩
theorem ix_fr0 {x : Z2} {Q : D → Prop} : ixD (frD x) (.int 0) Q = Q (.int x.1) := by
  apply propext; constructor
  · rintro ⟨v, e, h⟩; cases e; exact h
  · intro h; exact ⟨_, rfl, h⟩
theorem ix_fr1 {x : Z2} {Q : D → Prop} : ixD (frD x) (.int 1) Q = Q (.int x.2) := by
  apply propext; constructor
  · rintro ⟨v, e, h⟩; cases e; exact h
  · intro h; exact ⟨_, rfl, h⟩
theorem mkP_idem {x : Z2} (h : Fr x) : mkP x.1 x.2 = x := by
  rw [mkP_up h.1]; exact upP_fr h
end L2.L3
set_option Elab.async false
set_option linter.all false
set_option maxRecDepth 100000
set_option maxHeartbeats 4000000
namespace K02
open PySem L2 L2.L3
theorem gcd_of_mul {p q x y g : Int} (h1 : x * g = p) (h2 : y * g = q) : Int.gcd p q = Int.gcd x y * g.natAbs := by subst h1 h2; exact Int.gcd_mul_right ..
theorem fraction_eq {p q : Int} (h : ¬ (p = 0 ∧ q = 0)) : upP (p.fdiv (Int.gcd p q), q.fdiv (Int.gcd p q)) = mkP p q := by
  have hg := gcd_pos h
  have d1 : (Int.gcd p q : Int) ∣ p := Int.gcd_dvd_left ..
  have d2 : (Int.gcd p q : Int) ∣ q := Int.gcd_dvd_right ..
  have e1 := fdiv_dvd d1 (by omega)
  have e2 := fdiv_dvd d2 (by omega)
  have hfr := mkP_Fr h
  have gq : Int.gcd (p.fdiv (Int.gcd p q)) (q.fdiv (Int.gcd p q)) = 1 := by
    have e3 : Int.gcd p q = Int.gcd (p.fdiv (Int.gcd p q)) (q.fdiv (Int.gcd p q)) * (Int.gcd p q : Int).natAbs := gcd_of_mul e1 e2
    have : (Int.gcd p q : Int).natAbs = Int.gcd p q := rfl
    rw [this] at e3
    have e4 : Int.gcd (p.fdiv (Int.gcd p q)) (q.fdiv (Int.gcd p q)) * Int.gcd p q = 1 * Int.gcd p q := by omega
    exact Nat.eq_of_mul_eq_mul_right hg e4
  rw [← mkP_up gq]
  unfold mkP
  by_cases hq : q = 0
  · have : q.fdiv (Int.gcd p q) = 0 := by rw [hq]; exact Int.zero_fdiv _
    rw [if_pos hq, if_pos this]
  · have hq2 : q.fdiv (Int.gcd p q) ≠ 0 := fun z => by rw [z] at e2; omega
    rw [if_neg hq, if_neg hq2]
    unfold sgnG
    rw [gq]
    have sg : (q.fdiv (Int.gcd p q) < 0) ↔ q < 0 := by
      constructor
      · intro z
        have := Int.mul_neg_of_neg_of_pos z (show (0:Int) < (Int.gcd p q : Int) by omega)
        omega
      · intro z
        rcases Int.lt_trichotomy (q.fdiv (Int.gcd p q)) 0 with w | w | w
        · exact w
        · exact absurd w hq2
        · have := Int.mul_pos w (show (0:Int) < (Int.gcd p q : Int) by omega)
          omega
    by_cases hn : q < 0
    · rw [if_pos hn, if_pos (sg.mpr hn)]
      have nn : ∀ a : Int, (Int.gcd p q : Int) ∣ a → (a.fdiv (Int.gcd p q)).fdiv (-((1 : Nat) : Int)) = a.fdiv (-(Int.gcd p q : Int)) := fun a ha => by
        obtain ⟨k, rfl⟩ := ha
        have h1 : ((Int.gcd p q : Int) * k).fdiv (Int.gcd p q) = k := by rw [Int.mul_comm, Int.mul_fdiv_cancel _ (by omega)]
        have h2 : ((Int.gcd p q : Int) * k).fdiv (-(Int.gcd p q : Int)) = -k := by
          rw [show (Int.gcd p q : Int) * k = -k * -(Int.gcd p q : Int) by grind, Int.mul_fdiv_cancel _ (by omega)]
        rw [h1, h2]
        rw [show k = -k * -((1 : Nat) : Int) by grind, Int.mul_fdiv_cancel _ (by decide)]
        simp
      rw [nn p d1, nn q d2]
    · rw [if_neg hn, if_neg (fun z => hn (sg.mp z))]
      show (_, _) = (_, _)
      rw [show ((1 : Nat) : Int) = 1 from rfl, Int.fdiv_one, Int.fdiv_one]
def f_fraction : Fw := F2 pMade
def t_fraction : TS3 := (dSeq (dIf (cAnd (cTest (cOp eqF (cVar 0) (cC (.int 0)))) (cTest (cOp eqF (cVar 1) (cC (.int 0))))) dNever dNext) (dSeq (dSet 2 (cCall f_common_part (cCons (cVar 0) (cCons (cVar 1) cNil)))) (dRet (cCall f_upright (cCons (cOp fdivD (cVar 0) (cVar 2)) (cCons (cOp fdivD (cVar 1) (cVar 2)) cNil))))))
theorem len_fraction : ∀ ds Q, f_fraction ds Q → ds.length = 2 := lenF2
theorem ob_fraction : ∀ ds (Q : D → Prop), f_fraction ds Q → t_fraction { nx := fun _ => Q .non, rt := Q } (start3 ["p", "q", "part"] ds) := by
  rintro ds Q ⟨x, y, rfl, p, q, rfl, rfl, hne, hB, h⟩
  simp only [t_fraction, dSeq, dIf, dRet, dRetN, dNext, dBreak, dCont, dNever, dSet, dAsg, dPar_eq, two2_eq, dFor, dForR, dSetOwn, dAppend, dExtend, dFreeze, dPut, cVar, cC, cOp, cUn, cTest, cNot, cAnd, cOr, cAndV, cOrV, cNotV, cIf, cCall, cCons, cNil, cTup, cLst, cIsi, cFresh, cFew, cSl, cPart, cNoPart, cIxOwn, kName, kTup, kCons_eq, cons1_eq, cDisp, kNil, cTrue, start3, List.map_cons, List.map_nil, List.length_cons, List.length_nil, List.cons_append, List.nil_append, List.append_nil, List.getElem?_cons_zero, List.getElem?_cons_succ, List.getElem?_nil, List.set_cons_zero, List.set_cons_succ, Option.some.injEq, Lo.d.injEq, Lo.own.injEq, D.bl.injEq, D.int.injEq, exists_eq_left', exists_eq_left, Nat.reduceAdd, Nat.reduceSub, Nat.sub_self, Nat.add_one_sub_one, List.replicate_succ, List.replicate_zero, D.tup.injEq, List.cons.injEq, and_assoc, cComp, cCompR, ii_eq, addD_ii, addD_ll, addD_tt, addD_ss, negD_i, eqF_ii, neF_ii, eqF_ss, eqF_bb, absF_i, lenF_l, lenF_t, lenF_s, maxF_ii, minF_ii, intF_i, intF_b, listF_l, listF_t, tupleF_l, tupleF_t, itemsD_l, itemsD_t, slD_l, rng1_i, rng2_i, decide_eq_true_eq, true_and, and_true, if_true, if_false, Bool.false_eq_true, Bool.not_eq_true', decide_eq_false_iff_not, PySem.sizeLine_eq, Int.reduceToNat, Int.reducePow, Int.reduceMul, Int.reduceAdd, Int.reduceNeg, Int.reduceSub, Int.reduceLT, Int.reduceLE, Int.reduceEq, Nat.reduceEqDiff, decide_true, decide_false, Nat.reduceLeDiff, Nat.reduceLT, Bool.true_eq_false, Bool.not_true, Bool.not_false, Bool.not_not, f_common_part, f_upright, F2_eq, pGcd, pUp]
  have hgp := gcd_pos hne
  have hgB : Bits 9000 (Int.gcd p q : Int) := by
    show Int.gcd p q < _
    by_cases hp : p = 0
    · have hq : q ≠ 0 := fun z => hne ⟨hp, z⟩
      exact Nat.lt_of_le_of_lt (Nat.le_of_dvd (by omega) (Int.natAbs_dvd_natAbs.mpr (Int.gcd_dvd_right ..))) hB.2
    · exact Nat.lt_of_le_of_lt (Nat.le_of_dvd (by omega) (Int.natAbs_dvd_natAbs.mpr (Int.gcd_dvd_left ..))) hB.1
  have fin : ∃ p' q' : Int, p = p' ∧ q = q' ∧ DivOk p (Int.gcd p' q') ∧ DivOk q (Int.gcd p' q') ∧ ∃ p_1 q_1 : Int, p.fdiv (Int.gcd p' q') = p_1 ∧ q.fdiv (Int.gcd p' q') = q_1 ∧ Q (upD p_1 q_1) := by
    refine ⟨p, q, rfl, rfl, div_ok hgB (by omega) (by decide), div_ok hgB (by omega) (by decide), _, _, rfl, rfl, ?_⟩
    rw [upD_eq, fraction_eq hne]; exact h
  by_cases hp : p = 0
  · rw [if_pos hp, if_neg (fun z => hne ⟨hp, z⟩)]; exact fin
  · rw [if_neg hp]; exact fin
def pXFr (x y : D) (Q : D → Prop) (R : Str → Prop) : Prop := x = .int 0 ∧ y = .int 0 ∧ R "NoFraction"
def fx_fraction : FwX := G2 pXFr
def tx_fraction : TS4 := (zSeq (zIf (cAnd (cTest (cOp eqF (cVar 0) (cC (.int 0)))) (cTest (cOp eqF (cVar 1) (cC (.int 0))))) (zRaise "NoFraction" (cCons (cC (.str "0 over 0 is no fraction")) cNil)) (zUp dNext)) (zSeq (zUp (dSet 2 (cCall f_common_part (cCons (cVar 0) (cCons (cVar 1) cNil))))) (zUp (dRet (cCall f_upright (cCons (cOp fdivD (cVar 0) (cVar 2)) (cCons (cOp fdivD (cVar 1) (cVar 2)) cNil)))))))
theorem lenx_fraction : ∀ ds (Q : D → Prop) (R : Str → Prop), fx_fraction ds Q R → ds.length = 2 := lenG2
theorem obx_fraction : ∀ ds (Q : D → Prop) (R : Str → Prop), fx_fraction ds Q R → tx_fraction { nx := fun _ => Q .non, rt := Q, xc := R } (start3 ["p", "q", "part"] ds) := by
  rintro ds Q R ⟨x, y, rfl, rfl, rfl, h⟩
  simp only [tx_fraction, dSeq, dIf, dRet, dRetN, dNext, dBreak, dCont, dNever, dSet, dAsg, dPar_eq, two2_eq, dFor, dForR, dSetOwn, dAppend, dExtend, dFreeze, dPut, cVar, cC, cOp, cUn, cTest, cNot, cAnd, cOr, cAndV, cOrV, cNotV, cIf, cCall, cCons, cNil, cTup, cLst, cIsi, cFresh, cFew, cSl, cPart, cNoPart, cIxOwn, kName, kTup, kCons_eq, cons1_eq, cDisp, kNil, cTrue, start3, List.map_cons, List.map_nil, List.length_cons, List.length_nil, List.cons_append, List.nil_append, List.append_nil, List.getElem?_cons_zero, List.getElem?_cons_succ, List.getElem?_nil, List.set_cons_zero, List.set_cons_succ, Option.some.injEq, Lo.d.injEq, Lo.own.injEq, D.bl.injEq, D.int.injEq, exists_eq_left', exists_eq_left, Nat.reduceAdd, Nat.reduceSub, Nat.sub_self, Nat.add_one_sub_one, List.replicate_succ, List.replicate_zero, D.tup.injEq, List.cons.injEq, and_assoc, cComp, cCompR, ii_eq, addD_ii, addD_ll, addD_tt, addD_ss, negD_i, eqF_ii, neF_ii, eqF_ss, eqF_bb, absF_i, lenF_l, lenF_t, lenF_s, maxF_ii, minF_ii, intF_i, intF_b, listF_l, listF_t, tupleF_l, tupleF_t, itemsD_l, itemsD_t, slD_l, rng1_i, rng2_i, decide_eq_true_eq, true_and, and_true, if_true, if_false, Bool.false_eq_true, Bool.not_eq_true', decide_eq_false_iff_not, PySem.sizeLine_eq, Int.reduceToNat, Int.reducePow, Int.reduceMul, Int.reduceAdd, Int.reduceNeg, Int.reduceSub, Int.reduceLT, Int.reduceLE, Int.reduceEq, Nat.reduceEqDiff, decide_true, decide_false, Nat.reduceLeDiff, Nat.reduceLT, Bool.true_eq_false, Bool.not_true, Bool.not_false, Bool.not_not, dTry, cCallX, zRaise, zIf, zUp, zSeq, zRet, zSet, zExpr, isxF, isD_bb, isnD_bb]
  exact h
def pRef (x y : D) (Q : D → Prop) : Prop := x = .int 0 ∧ y = .int 0 ∧ Q (.bl true)
def f_law_refused : Fw := F2 pRef
def t_law_refused : TS3 := (dSeq (dTry 2 "NoFraction" (cCallX fx_fraction (cCons (cVar 0) (cCons (cVar 1) cNil))) (dSeq (dSet 3 (cCall (isxF "NoFraction" (.tup [.cls "Full", .cls "NoFan", .cls "NoName", .cls "NoPaper", .cls "NoRoot", .cls "NoRow", .cls "NoTable"]) false) (cCons (cVar 2) (cCons (cTup (cCons (cC (.cls "Full")) (cCons (cC (.cls "NoFan")) (cCons (cC (.cls "NoName")) (cCons (cC (.cls "NoPaper")) (cCons (cC (.cls "NoRoot")) (cCons (cC (.cls "NoRow")) (cCons (cC (.cls "NoTable")) cNil)))))))) cNil)))) (dSeq (dSet 3 (cOrV (cVar 3) (cCall (isxF "NoFraction" (.tup [.cls "NoText", .cls "NoTurning", .cls "NotIn", .cls "Open", .cls "TooLong", .cls "TooMany"]) false) (cCons (cVar 2) (cCons (cTup (cCons (cC (.cls "NoText")) (cCons (cC (.cls "NoTurning")) (cCons (cC (.cls "NotIn")) (cCons (cC (.cls "Open")) (cCons (cC (.cls "TooLong")) (cCons (cC (.cls "TooMany")) cNil))))))) cNil))))) (dRet (cAndV (cCall (isxF "NoFraction" (.cls "FanError") true) (cCons (cVar 2) (cCons (cC (.cls "FanError")) cNil))) (cAndV (cCall (isxF "NoFraction" (.ty "ValueError") true) (cCons (cVar 2) (cCons (cC (.ty "ValueError")) cNil))) (cNotV (cVar 3)))))))) (dRet (cC (.bl false))))
theorem len_law_refused : ∀ ds Q, f_law_refused ds Q → ds.length = 2 := lenF2
theorem ob_law_refused : ∀ ds (Q : D → Prop), f_law_refused ds Q → t_law_refused { nx := fun _ => Q .non, rt := Q } (start3 ["_law_p", "_law_q", "e", "_law_others"] ds) := by
  rintro ds Q ⟨x, y, rfl, rfl, rfl, h⟩
  simp only [t_law_refused, dSeq, dIf, dRet, dRetN, dNext, dBreak, dCont, dNever, dSet, dAsg, dPar_eq, two2_eq, dFor, dForR, dSetOwn, dAppend, dExtend, dFreeze, dPut, cVar, cC, cOp, cUn, cTest, cNot, cAnd, cOr, cAndV, cOrV, cNotV, cIf, cCall, cCons, cNil, cTup, cLst, cIsi, cFresh, cFew, cSl, cPart, cNoPart, cIxOwn, kName, kTup, kCons_eq, cons1_eq, cDisp, kNil, cTrue, start3, List.map_cons, List.map_nil, List.length_cons, List.length_nil, List.cons_append, List.nil_append, List.append_nil, List.getElem?_cons_zero, List.getElem?_cons_succ, List.getElem?_nil, List.set_cons_zero, List.set_cons_succ, Option.some.injEq, Lo.d.injEq, Lo.own.injEq, D.bl.injEq, D.int.injEq, exists_eq_left', exists_eq_left, Nat.reduceAdd, Nat.reduceSub, Nat.sub_self, Nat.add_one_sub_one, List.replicate_succ, List.replicate_zero, D.tup.injEq, List.cons.injEq, and_assoc, cComp, cCompR, ii_eq, addD_ii, addD_ll, addD_tt, addD_ss, negD_i, eqF_ii, neF_ii, eqF_ss, eqF_bb, absF_i, lenF_l, lenF_t, lenF_s, maxF_ii, minF_ii, intF_i, intF_b, listF_l, listF_t, tupleF_l, tupleF_t, itemsD_l, itemsD_t, slD_l, rng1_i, rng2_i, decide_eq_true_eq, true_and, and_true, if_true, if_false, Bool.false_eq_true, Bool.not_eq_true', decide_eq_false_iff_not, PySem.sizeLine_eq, Int.reduceToNat, Int.reducePow, Int.reduceMul, Int.reduceAdd, Int.reduceNeg, Int.reduceSub, Int.reduceLT, Int.reduceLE, Int.reduceEq, Nat.reduceEqDiff, decide_true, decide_false, Nat.reduceLeDiff, Nat.reduceLT, Bool.true_eq_false, Bool.not_true, Bool.not_false, Bool.not_not, dTry, cCallX, zRaise, zIf, zUp, zSeq, zRet, zSet, zExpr, isxF, isD_bb, isnD_bb, fx_fraction, G2_eq, pXFr]
  exact h
theorem mkP_neg (p q : Int) : mkP (0 - p) (0 - q) = mkP p q := by
  unfold mkP
  by_cases hq : q = 0
  · rw [if_pos hq, if_pos (by omega)]
  · rw [if_neg hq, if_neg (by omega)]
    have e : sgnG (0 - p) (0 - q) = - sgnG p q := by
      unfold sgnG
      have : Int.gcd (0 - p) (0 - q) = Int.gcd p q := by rw [Int.zero_sub, Int.zero_sub]; simp [Int.gcd]
      rw [this]
      by_cases h : q < 0
      · rw [if_pos h, if_neg (by omega)]; omega
      · rw [if_neg h, if_pos (by omega)]
    rw [e, Int.zero_sub, Int.zero_sub, Int.neg_fdiv_neg, Int.neg_fdiv_neg]
theorem mkP_cross {p q : Int} (h : ¬ (p = 0 ∧ q = 0)) : (mkP p q).1 * q = (mkP p q).2 * p := by
  unfold mkP
  by_cases hq : q = 0
  · rw [if_pos hq, hq]; simp
  · rw [if_neg hq]
    have hg := sgnG_ne h
    have e1 := fdiv_dvd (sgnG_dvd_l p q) hg
    have e2 := fdiv_dvd (sgnG_dvd_r p q) hg
    show p.fdiv (sgnG p q) * q = q.fdiv (sgnG p q) * p
    generalize sgnG p q = g at *
    generalize p.fdiv g = x at *
    generalize q.fdiv g = y at *
    subst e1 e2
    grind
theorem frac_Fr {x : Z2} (h : Fr x) : fracD (frD x) = true := by
  obtain ⟨h1, h2⟩ := h
  simp only [fracD, frD, h1, decide_true, Bool.true_and]
  rcases h2 with h | ⟨h, h'⟩ <;> simp [h, *]
theorem pl_fr (x : Z2) : PlL (frD x) := by simp [PlL, frD, Pl, kdD]
def pGood (x y : D) (Q : D → Prop) : Prop := ∃ p q : Int, x = .int p ∧ y = .int q ∧ B2 60 (p, q) ∧ Q (.bl true)
def f_law_good : Fw := F2 pGood
def t_law_good_1 : TS3 := (dSeq (dSet 2 (cCall f_fraction (cCons (cVar 0) (cCons (cVar 1) cNil)))) (dSeq (dIf (cOr (cTest (cOp isnD (cCall f_is_fraction (cCons (cVar 2) cNil)) (cC (.bl true)))) (cTest (cOp neF (cOp mulD (cOp ixD (cVar 2) (cC (.int 0))) (cVar 1)) (cOp mulD (cOp ixD (cVar 2) (cC (.int 1))) (cVar 0))))) (dRet (cC (.bl false))) dNext) (dRet (cAndV (cOp eqF (cCall f_fraction (cCons (cOp ixD (cVar 2) (cC (.int 0))) (cCons (cOp ixD (cVar 2) (cC (.int 1))) cNil))) (cVar 2)) (cOp eqF (cCall f_fraction (cCons (cOp subD (cC (.int 0)) (cVar 0)) (cCons (cOp subD (cC (.int 0)) (cVar 1)) cNil))) (cVar 2))))))
def t_law_good : TS3 := (dSeq (dIf (cAnd (cTest (cOp eqF (cVar 0) (cC (.int 0)))) (cTest (cOp eqF (cVar 1) (cC (.int 0))))) (dRet (cCall f_law_refused (cCons (cVar 0) (cCons (cVar 1) cNil)))) dNext) t_law_good_1)
theorem len_law_good : ∀ ds Q, f_law_good ds Q → ds.length = 2 := lenF2
theorem ob_law_good : ∀ ds (Q : D → Prop), f_law_good ds Q → t_law_good { nx := fun _ => Q .non, rt := Q } (start3 ["_law_p", "_law_q", "_law_told"] ds) := by
  rintro ds Q ⟨x, y, rfl, p, q, rfl, rfl, hB, h⟩
  simp only [t_law_good, dSeq, dIf, dRet, dRetN, dNext, dBreak, dCont, dNever, dSet, dAsg, dPar_eq, two2_eq, dFor, dForR, dSetOwn, dAppend, dExtend, dFreeze, dPut, cVar, cC, cOp, cUn, cTest, cNot, cAnd, cOr, cAndV, cOrV, cNotV, cIf, cCall, cCons, cNil, cTup, cLst, cIsi, cFresh, cFew, cSl, cPart, cNoPart, cIxOwn, kName, kTup, kCons_eq, cons1_eq, cDisp, kNil, cTrue, start3, List.map_cons, List.map_nil, List.length_cons, List.length_nil, List.cons_append, List.nil_append, List.append_nil, List.getElem?_cons_zero, List.getElem?_cons_succ, List.getElem?_nil, List.set_cons_zero, List.set_cons_succ, Option.some.injEq, Lo.d.injEq, Lo.own.injEq, D.bl.injEq, D.int.injEq, exists_eq_left', exists_eq_left, Nat.reduceAdd, Nat.reduceSub, Nat.sub_self, Nat.add_one_sub_one, List.replicate_succ, List.replicate_zero, D.tup.injEq, List.cons.injEq, and_assoc, cComp, cCompR, ii_eq, addD_ii, addD_ll, addD_tt, addD_ss, negD_i, eqF_ii, neF_ii, eqF_ss, eqF_bb, absF_i, lenF_l, lenF_t, lenF_s, maxF_ii, minF_ii, intF_i, intF_b, listF_l, listF_t, tupleF_l, tupleF_t, itemsD_l, itemsD_t, slD_l, rng1_i, rng2_i, decide_eq_true_eq, true_and, and_true, if_true, if_false, Bool.false_eq_true, Bool.not_eq_true', decide_eq_false_iff_not, PySem.sizeLine_eq, Int.reduceToNat, Int.reducePow, Int.reduceMul, Int.reduceAdd, Int.reduceNeg, Int.reduceSub, Int.reduceLT, Int.reduceLE, Int.reduceEq, Nat.reduceEqDiff, decide_true, decide_false, Nat.reduceLeDiff, Nat.reduceLT, Bool.true_eq_false, Bool.not_true, Bool.not_false, Bool.not_not, dTry, cCallX, zRaise, zIf, zUp, zSeq, zRet, zSet, zExpr, isxF, isD_bb, isnD_bb, f_law_refused, F2_eq, pRef]
  have rest : ¬ (p = 0 ∧ q = 0) → t_law_good_1 { nx := fun _ => Q .non, rt := Q } [some (.d (.int p)), some (.d (.int q)), none] := by
    intro hne
    simp only [t_law_good_1, dSeq, dIf, dRet, dRetN, dNext, dBreak, dCont, dNever, dSet, dAsg, dPar_eq, two2_eq, dFor, dForR, dSetOwn, dAppend, dExtend, dFreeze, dPut, cVar, cC, cOp, cUn, cTest, cNot, cAnd, cOr, cAndV, cOrV, cNotV, cIf, cCall, cCons, cNil, cTup, cLst, cIsi, cFresh, cFew, cSl, cPart, cNoPart, cIxOwn, kName, kTup, kCons_eq, cons1_eq, cDisp, kNil, cTrue, start3, List.map_cons, List.map_nil, List.length_cons, List.length_nil, List.cons_append, List.nil_append, List.append_nil, List.getElem?_cons_zero, List.getElem?_cons_succ, List.getElem?_nil, List.set_cons_zero, List.set_cons_succ, Option.some.injEq, Lo.d.injEq, Lo.own.injEq, D.bl.injEq, D.int.injEq, exists_eq_left', exists_eq_left, Nat.reduceAdd, Nat.reduceSub, Nat.sub_self, Nat.add_one_sub_one, List.replicate_succ, List.replicate_zero, D.tup.injEq, List.cons.injEq, and_assoc, cComp, cCompR, ii_eq, addD_ii, addD_ll, addD_tt, addD_ss, negD_i, eqF_ii, neF_ii, eqF_ss, eqF_bb, absF_i, lenF_l, lenF_t, lenF_s, maxF_ii, minF_ii, intF_i, intF_b, listF_l, listF_t, tupleF_l, tupleF_t, itemsD_l, itemsD_t, slD_l, rng1_i, rng2_i, decide_eq_true_eq, true_and, and_true, if_true, if_false, Bool.false_eq_true, Bool.not_eq_true', decide_eq_false_iff_not, PySem.sizeLine_eq, Int.reduceToNat, Int.reducePow, Int.reduceMul, Int.reduceAdd, Int.reduceNeg, Int.reduceSub, Int.reduceLT, Int.reduceLE, Int.reduceEq, Nat.reduceEqDiff, decide_true, decide_false, Nat.reduceLeDiff, Nat.reduceLT, Bool.true_eq_false, Bool.not_true, Bool.not_false, Bool.not_not, dTry, cCallX, zRaise, zIf, zUp, zSeq, zRet, zSet, zExpr, isxF, isD_bb, isnD_bb, f_fraction, F2_eq]
    refine ⟨p, q, rfl, rfl, hne, b2_le hB (by decide), ?_⟩
    have hfr := mkP_Fr hne
    have hb := mkP_B hne hB (by decide)
    simp only [f_is_fraction, F1_eq, pFrac, frac_Fr hfr, isnD_bb, dSeq, dIf, dRet, dRetN, dNext, dBreak, dCont, dNever, dSet, dAsg, dPar_eq, two2_eq, dFor, dForR, dSetOwn, dAppend, dExtend, dFreeze, dPut, cVar, cC, cOp, cUn, cTest, cNot, cAnd, cOr, cAndV, cOrV, cNotV, cIf, cCall, cCons, cNil, cTup, cLst, cIsi, cFresh, cFew, cSl, cPart, cNoPart, cIxOwn, kName, kTup, kCons_eq, cons1_eq, cDisp, kNil, cTrue, start3, List.map_cons, List.map_nil, List.length_cons, List.length_nil, List.cons_append, List.nil_append, List.append_nil, List.getElem?_cons_zero, List.getElem?_cons_succ, List.getElem?_nil, List.set_cons_zero, List.set_cons_succ, Option.some.injEq, Lo.d.injEq, Lo.own.injEq, D.bl.injEq, D.int.injEq, exists_eq_left', exists_eq_left, Nat.reduceAdd, Nat.reduceSub, Nat.sub_self, Nat.add_one_sub_one, List.replicate_succ, List.replicate_zero, D.tup.injEq, List.cons.injEq, and_assoc, cComp, cCompR, ii_eq, addD_ii, addD_ll, addD_tt, addD_ss, negD_i, eqF_ii, neF_ii, eqF_ss, eqF_bb, absF_i, lenF_l, lenF_t, lenF_s, maxF_ii, minF_ii, intF_i, intF_b, listF_l, listF_t, tupleF_l, tupleF_t, itemsD_l, itemsD_t, slD_l, rng1_i, rng2_i, decide_eq_true_eq, true_and, and_true, if_true, if_false, Bool.false_eq_true, Bool.not_eq_true', decide_eq_false_iff_not, PySem.sizeLine_eq, Int.reduceToNat, Int.reducePow, Int.reduceMul, Int.reduceAdd, Int.reduceNeg, Int.reduceSub, Int.reduceLT, Int.reduceLE, Int.reduceEq, Nat.reduceEqDiff, decide_true, decide_false, Nat.reduceLeDiff, Nat.reduceLT, Bool.true_eq_false, Bool.not_true, Bool.not_false, Bool.not_not, dTry, cCallX, zRaise, zIf, zUp, zSeq, zRet, zSet, zExpr, isxF, isD_bb, isnD_bb]
    refine ⟨pl_fr _, ?_⟩
    have hx := mkP_cross hne
    have hid := mkP_idem hfr
    have hng := mkP_neg p q
    generalize mkP p q = m at *
    simp only [bne_self_eq_false, ix_fr0, ix_fr1, dSeq, dIf, dRet, dRetN, dNext, dBreak, dCont, dNever, dSet, dAsg, dPar_eq, two2_eq, dFor, dForR, dSetOwn, dAppend, dExtend, dFreeze, dPut, cVar, cC, cOp, cUn, cTest, cNot, cAnd, cOr, cAndV, cOrV, cNotV, cIf, cCall, cCons, cNil, cTup, cLst, cIsi, cFresh, cFew, cSl, cPart, cNoPart, cIxOwn, kName, kTup, kCons_eq, cons1_eq, cDisp, kNil, cTrue, start3, List.map_cons, List.map_nil, List.length_cons, List.length_nil, List.cons_append, List.nil_append, List.append_nil, List.getElem?_cons_zero, List.getElem?_cons_succ, List.getElem?_nil, List.set_cons_zero, List.set_cons_succ, Option.some.injEq, Lo.d.injEq, Lo.own.injEq, D.bl.injEq, D.int.injEq, exists_eq_left', exists_eq_left, Nat.reduceAdd, Nat.reduceSub, Nat.sub_self, Nat.add_one_sub_one, List.replicate_succ, List.replicate_zero, D.tup.injEq, List.cons.injEq, and_assoc, cComp, cCompR, ii_eq, addD_ii, addD_ll, addD_tt, addD_ss, negD_i, eqF_ii, neF_ii, eqF_ss, eqF_bb, absF_i, lenF_l, lenF_t, lenF_s, maxF_ii, minF_ii, intF_i, intF_b, listF_l, listF_t, tupleF_l, tupleF_t, itemsD_l, itemsD_t, slD_l, rng1_i, rng2_i, decide_eq_true_eq, true_and, and_true, if_true, if_false, Bool.false_eq_true, Bool.not_eq_true', decide_eq_false_iff_not, PySem.sizeLine_eq, Int.reduceToNat, Int.reducePow, Int.reduceMul, Int.reduceAdd, Int.reduceNeg, Int.reduceSub, Int.reduceLT, Int.reduceLE, Int.reduceEq, Nat.reduceEqDiff, decide_true, decide_false, Nat.reduceLeDiff, Nat.reduceLT, Bool.true_eq_false, Bool.not_true, Bool.not_false, Bool.not_not, dTry, cCallX, zRaise, zIf, zUp, zSeq, zRet, zSet, zExpr, isxF, isD_bb, isnD_bb]
    refine ⟨mul_ok hb.1 hB.2 (by decide), mul_ok hb.2 hB.1 (by decide), ?_⟩
    simp only [hx, dSeq, dIf, dRet, dRetN, dNext, dBreak, dCont, dNever, dSet, dAsg, dPar_eq, two2_eq, dFor, dForR, dSetOwn, dAppend, dExtend, dFreeze, dPut, cVar, cC, cOp, cUn, cTest, cNot, cAnd, cOr, cAndV, cOrV, cNotV, cIf, cCall, cCons, cNil, cTup, cLst, cIsi, cFresh, cFew, cSl, cPart, cNoPart, cIxOwn, kName, kTup, kCons_eq, cons1_eq, cDisp, kNil, cTrue, start3, List.map_cons, List.map_nil, List.length_cons, List.length_nil, List.cons_append, List.nil_append, List.append_nil, List.getElem?_cons_zero, List.getElem?_cons_succ, List.getElem?_nil, List.set_cons_zero, List.set_cons_succ, Option.some.injEq, Lo.d.injEq, Lo.own.injEq, D.bl.injEq, D.int.injEq, exists_eq_left', exists_eq_left, Nat.reduceAdd, Nat.reduceSub, Nat.sub_self, Nat.add_one_sub_one, List.replicate_succ, List.replicate_zero, D.tup.injEq, List.cons.injEq, and_assoc, cComp, cCompR, ii_eq, addD_ii, addD_ll, addD_tt, addD_ss, negD_i, eqF_ii, neF_ii, eqF_ss, eqF_bb, absF_i, lenF_l, lenF_t, lenF_s, maxF_ii, minF_ii, intF_i, intF_b, listF_l, listF_t, tupleF_l, tupleF_t, itemsD_l, itemsD_t, slD_l, rng1_i, rng2_i, decide_eq_true_eq, true_and, and_true, if_true, if_false, Bool.false_eq_true, Bool.not_eq_true', decide_eq_false_iff_not, PySem.sizeLine_eq, Int.reduceToNat, Int.reducePow, Int.reduceMul, Int.reduceAdd, Int.reduceNeg, Int.reduceSub, Int.reduceLT, Int.reduceLE, Int.reduceEq, Nat.reduceEqDiff, decide_true, decide_false, Nat.reduceLeDiff, Nat.reduceLT, Bool.true_eq_false, Bool.not_true, Bool.not_false, Bool.not_not, dTry, cCallX, zRaise, zIf, zUp, zSeq, zRet, zSet, zExpr, isxF, isD_bb, isnD_bb, not_true]
    refine ⟨_, _, rfl, rfl, fr_ne hfr, b2_le hb (by decide), ?_⟩
    rw [hid]
    simp only [eqF_fr, dSeq, dIf, dRet, dRetN, dNext, dBreak, dCont, dNever, dSet, dAsg, dPar_eq, two2_eq, dFor, dForR, dSetOwn, dAppend, dExtend, dFreeze, dPut, cVar, cC, cOp, cUn, cTest, cNot, cAnd, cOr, cAndV, cOrV, cNotV, cIf, cCall, cCons, cNil, cTup, cLst, cIsi, cFresh, cFew, cSl, cPart, cNoPart, cIxOwn, kName, kTup, kCons_eq, cons1_eq, cDisp, kNil, cTrue, start3, List.map_cons, List.map_nil, List.length_cons, List.length_nil, List.cons_append, List.nil_append, List.append_nil, List.getElem?_cons_zero, List.getElem?_cons_succ, List.getElem?_nil, List.set_cons_zero, List.set_cons_succ, Option.some.injEq, Lo.d.injEq, Lo.own.injEq, D.bl.injEq, D.int.injEq, exists_eq_left', exists_eq_left, Nat.reduceAdd, Nat.reduceSub, Nat.sub_self, Nat.add_one_sub_one, List.replicate_succ, List.replicate_zero, D.tup.injEq, List.cons.injEq, and_assoc, cComp, cCompR, ii_eq, addD_ii, addD_ll, addD_tt, addD_ss, negD_i, eqF_ii, neF_ii, eqF_ss, eqF_bb, absF_i, lenF_l, lenF_t, lenF_s, maxF_ii, minF_ii, intF_i, intF_b, listF_l, listF_t, tupleF_l, tupleF_t, itemsD_l, itemsD_t, slD_l, rng1_i, rng2_i, decide_eq_true_eq, true_and, and_true, if_true, if_false, Bool.false_eq_true, Bool.not_eq_true', decide_eq_false_iff_not, PySem.sizeLine_eq, Int.reduceToNat, Int.reducePow, Int.reduceMul, Int.reduceAdd, Int.reduceNeg, Int.reduceSub, Int.reduceLT, Int.reduceLE, Int.reduceEq, Nat.reduceEqDiff, decide_true, decide_false, Nat.reduceLeDiff, Nat.reduceLT, Bool.true_eq_false, Bool.not_true, Bool.not_false, Bool.not_not, dTry, cCallX, zRaise, zIf, zUp, zSeq, zRet, zSet, zExpr, isxF, isD_bb, isnD_bb]
    refine ⟨_, _, rfl, rfl, by omega, b2_le (x := (0 - p, 0 - q)) (n := 60) ⟨?_, ?_⟩ (by decide), ?_⟩
    · show Bits 60 (0 - p); rw [Int.zero_sub]; exact bits_neg hB.1
    · show Bits 60 (0 - q); rw [Int.zero_sub]; exact bits_neg hB.2
    · rw [hng]; simp only [eqF_fr, decide_true]; exact h
  by_cases hp : p = 0
  · by_cases hq : q = 0
    · rw [if_pos hp, if_pos hq, hp, hq]; exact ⟨rfl, rfl, h⟩
    · rw [if_pos hp, if_neg hq]; exact rest fun z => hq z.2
  · rw [if_neg hp]; exact rest fun z => hp z.1
def pNum (x : D) (Q : D → Prop) : Prop := ∃ c : Int, x = .int c ∧ ∀ p q : Int, B2 60 (p, q) → Q (frD (p, q))
def f_law_numbers : Fw := F1 pNum
theorem ix4 {a b c d : D} {i : Int} {Q : D → Prop} (hi : 0 ≤ i ∧ i < 4) (q : ∀ x ∈ [a, b, c, d], Q x) : ixD (.lst [a, b, c, d]) (.int i) Q := ix_mem hi.1 hi.2 q
theorem ix4i {a b c d : Int} (lo hi : Int) {i : Int} {Q : D → Prop} (h : 0 ≤ i ∧ i < 4) (ha : lo ≤ a ∧ a ≤ hi ∧ lo ≤ b ∧ b ≤ hi ∧ lo ≤ c ∧ c ≤ hi ∧ lo ≤ d ∧ d ≤ hi) (q : ∀ x : Int, lo ≤ x → x ≤ hi → Q (.int x)) : ixD (.lst [.int a, .int b, .int c, .int d]) (.int i) Q := by
  refine ix4 h fun x hx => ?_
  simp only [List.mem_cons, List.not_mem_nil, or_false] at hx
  rcases hx with rfl | rfl | rfl | rfl <;> apply q <;> omega
theorem q4 (c : Int) : 0 ≤ c.fmod 4 ∧ c.fmod 4 < 4 := fmod_range (by decide)
def t_law_numbers_4 : TS3 := (dSeq (dIf (cOr (cTest (cOp geD (cCall absF (cCons (cOp mulD (cVar 2) (cVar 4)) cNil)) (cOp powD (cC (.int 10)) (cC (.int 12))))) (cTest (cOp geD (cCall absF (cCons (cOp mulD (cVar 3) (cVar 4)) cNil)) (cOp powD (cC (.int 10)) (cC (.int 12)))))) (dSet 4 (cC (.int 1))) dNext) (dRet (cTup (cCons (cOp mulD (cVar 2) (cVar 4)) (cCons (cOp mulD (cVar 3) (cVar 4)) cNil)))))
def t_law_numbers : TS3 := (dSeq (dSet 1 (cCall f_law_row (cCons (cOp fdivD (cVar 0) (cC (.int 4096))) (cCons (cOp powD (cC (.int 10)) (cC (.int 12))) (cCons (cC (.int 3)) cNil))))) (dSeq (dSet 2 (cOp subD (cOp modD (cOp ixD (cVar 1) (cC (.int 0))) (cOp ixD (cLst (cCons (cC (.int 3)) (cCons (cC (.int 40)) (cCons (cOp powD (cC (.int 10)) (cC (.int 6))) (cCons (cOp powD (cC (.int 10)) (cC (.int 12))) cNil))))) (cOp modD (cVar 0) (cC (.int 4))))) (cOp ixD (cLst (cCons (cC (.int 0)) (cCons (cC (.int 20)) (cCons (cOp powD (cC (.int 10)) (cC (.int 5))) (cCons (cOp powD (cC (.int 10)) (cC (.int 11))) cNil))))) (cOp modD (cOp fdivD (cVar 0) (cC (.int 4))) (cC (.int 4)))))) (dSeq (dSet 3 (cOp subD (cOp modD (cOp ixD (cVar 1) (cC (.int 1))) (cOp ixD (cLst (cCons (cC (.int 3)) (cCons (cC (.int 40)) (cCons (cOp powD (cC (.int 10)) (cC (.int 6))) (cCons (cOp powD (cC (.int 10)) (cC (.int 12))) cNil))))) (cOp modD (cOp fdivD (cVar 0) (cC (.int 16))) (cC (.int 4))))) (cOp ixD (cLst (cCons (cC (.int 1)) (cCons (cC (.int 20)) (cCons (cOp powD (cC (.int 10)) (cC (.int 5))) (cCons (cOp powD (cC (.int 10)) (cC (.int 11))) cNil))))) (cOp modD (cOp fdivD (cVar 0) (cC (.int 64))) (cC (.int 4)))))) (dSeq (dSet 4 (cOp ixD (cLst (cCons (cC (.int 1)) (cCons (cC (.int 1)) (cCons (cC (.int 0)) (cCons (cOp addD (cC (.int 1)) (cOp modD (cOp ixD (cVar 1) (cC (.int 2))) (cC (.int 12)))) cNil))))) (cOp modD (cOp fdivD (cVar 0) (cC (.int 256))) (cC (.int 4))))) t_law_numbers_4))))
theorem len_law_numbers : ∀ ds Q, f_law_numbers ds Q → ds.length = 1 := lenF1
theorem ob_law_numbers : ∀ ds (Q : D → Prop), f_law_numbers ds Q → t_law_numbers { nx := fun _ => Q .non, rt := Q } (start3 ["_law_cell_here", "_law_digits_here", "_law_p", "_law_q", "_law_part"] ds) := by
  rintro ds Q ⟨x, rfl, c, rfl, h⟩
  have last : ∀ (d : D) (p q k : Int), Bits 41 p → Bits 41 q → Bits 4 k → t_law_numbers_4 { nx := fun x => Q D.non, rt := Q } [some (.d (.int c)), some (.d d), some (.d (.int p)), some (.d (.int q)), some (.d (.int k))] := by
    intro d p q k hp hq hk
    simp only [t_law_numbers_4, dSeq, dIf, dRet, dRetN, dNext, dBreak, dCont, dNever, dSet, dAsg, dPar_eq, two2_eq, dFor, dForR, dSetOwn, dAppend, dExtend, dFreeze, dPut, cVar, cC, cOp, cUn, cTest, cNot, cAnd, cOr, cAndV, cOrV, cNotV, cIf, cCall, cCons, cNil, cTup, cLst, cIsi, cFresh, cFew, cSl, cPart, cNoPart, cIxOwn, kName, kTup, kCons_eq, cons1_eq, cDisp, kNil, cTrue, start3, List.map_cons, List.map_nil, List.length_cons, List.length_nil, List.cons_append, List.nil_append, List.append_nil, List.getElem?_cons_zero, List.getElem?_cons_succ, List.getElem?_nil, List.set_cons_zero, List.set_cons_succ, Option.some.injEq, Lo.d.injEq, Lo.own.injEq, D.bl.injEq, D.int.injEq, exists_eq_left', exists_eq_left, Nat.reduceAdd, Nat.reduceSub, Nat.sub_self, Nat.add_one_sub_one, List.replicate_succ, List.replicate_zero, D.tup.injEq, List.cons.injEq, and_assoc, cComp, cCompR, ii_eq, addD_ii, addD_ll, addD_tt, addD_ss, negD_i, eqF_ii, neF_ii, eqF_ss, eqF_bb, absF_i, lenF_l, lenF_t, lenF_s, maxF_ii, minF_ii, intF_i, intF_b, listF_l, listF_t, tupleF_l, tupleF_t, itemsD_l, itemsD_t, slD_l, rng1_i, rng2_i, decide_eq_true_eq, true_and, and_true, if_true, if_false, Bool.false_eq_true, Bool.not_eq_true', decide_eq_false_iff_not, PySem.sizeLine_eq, Int.reduceToNat, Int.reducePow, Int.reduceMul, Int.reduceAdd, Int.reduceNeg, Int.reduceSub, Int.reduceLT, Int.reduceLE, Int.reduceEq, Nat.reduceEqDiff, decide_true, decide_false, Nat.reduceLeDiff, Nat.reduceLT, Bool.true_eq_false, Bool.not_true, Bool.not_false, Bool.not_not]
    have fin : ∀ k : Int, Bits 4 k → IntMulOk p k ∧ IntMulOk q k ∧ Q (.tup [.int (p * k), .int (q * k)]) := fun k hk =>
      ⟨mul_ok hp hk (by decide), mul_ok hq hk (by decide), h _ _ ⟨bits_le (bits_mul hp hk) (by decide), bits_le (bits_mul hq hk) (by decide)⟩⟩
    refine ⟨mul_ok hp hk (by decide), by (first | exact divL _ (by decide) | exact powL _ _ (by decide) | exact modL _ (by first | decide | omega) | exact mul_ok_l (by decide) (by decide) | exact mul_ok_r (by decide) (by decide) | omega | decide), ?_⟩
    split
    · exact fin 1 (bitsL _ _ (by decide))
    · refine ⟨mul_ok hq hk (by decide), by (first | exact divL _ (by decide) | exact powL _ _ (by decide) | exact modL _ (by first | decide | omega) | exact mul_ok_l (by decide) (by decide) | exact mul_ok_r (by decide) (by decide) | omega | decide), ?_⟩
      split
      · exact fin 1 (bitsL _ _ (by decide))
      · exact fin k hk
  simp only [t_law_numbers, dSeq, dIf, dRet, dRetN, dNext, dBreak, dCont, dNever, dSet, dAsg, dPar_eq, two2_eq, dFor, dForR, dSetOwn, dAppend, dExtend, dFreeze, dPut, cVar, cC, cOp, cUn, cTest, cNot, cAnd, cOr, cAndV, cOrV, cNotV, cIf, cCall, cCons, cNil, cTup, cLst, cIsi, cFresh, cFew, cSl, cPart, cNoPart, cIxOwn, kName, kTup, kCons_eq, cons1_eq, cDisp, kNil, cTrue, start3, List.map_cons, List.map_nil, List.length_cons, List.length_nil, List.cons_append, List.nil_append, List.append_nil, List.getElem?_cons_zero, List.getElem?_cons_succ, List.getElem?_nil, List.set_cons_zero, List.set_cons_succ, Option.some.injEq, Lo.d.injEq, Lo.own.injEq, D.bl.injEq, D.int.injEq, exists_eq_left', exists_eq_left, Nat.reduceAdd, Nat.reduceSub, Nat.sub_self, Nat.add_one_sub_one, List.replicate_succ, List.replicate_zero, D.tup.injEq, List.cons.injEq, and_assoc, cComp, cCompR, ii_eq, addD_ii, addD_ll, addD_tt, addD_ss, negD_i, eqF_ii, neF_ii, eqF_ss, eqF_bb, absF_i, lenF_l, lenF_t, lenF_s, maxF_ii, minF_ii, intF_i, intF_b, listF_l, listF_t, tupleF_l, tupleF_t, itemsD_l, itemsD_t, slD_l, rng1_i, rng2_i, decide_eq_true_eq, true_and, and_true, if_true, if_false, Bool.false_eq_true, Bool.not_eq_true', decide_eq_false_iff_not, PySem.sizeLine_eq, Int.reduceToNat, Int.reducePow, Int.reduceMul, Int.reduceAdd, Int.reduceNeg, Int.reduceSub, Int.reduceLT, Int.reduceLE, Int.reduceEq, Nat.reduceEqDiff, decide_true, decide_false, Nat.reduceLeDiff, Nat.reduceLT, Bool.true_eq_false, Bool.not_true, Bool.not_false, Bool.not_not, f_law_row, F3_eq]
  refine ⟨by (first | exact divL _ (by decide) | exact powL _ _ (by decide) | exact modL _ (by first | decide | omega) | exact mul_ok_l (by decide) (by decide) | exact mul_ok_r (by decide) (by decide) | omega | decide), by (first | exact divL _ (by decide) | exact powL _ _ (by decide) | exact modL _ (by first | decide | omega) | exact mul_ok_l (by decide) (by decide) | exact mul_ok_r (by decide) (by decide) | omega | decide), _, _, 3, rfl, rfl, rfl, by decide, bits_le (n := 100) (by unfold Bits; decide) (by decide), by decide, fun d hd => ?_⟩
  refine dig_at hd (by decide) (by decide) fun x0 h0 h0' => ⟨by (first | exact divL _ (by decide) | exact powL _ _ (by decide) | exact modL _ (by first | decide | omega) | exact mul_ok_l (by decide) (by decide) | exact mul_ok_r (by decide) (by decide) | omega | decide), by (first | exact divL _ (by decide) | exact powL _ _ (by decide) | exact modL _ (by first | decide | omega) | exact mul_ok_l (by decide) (by decide) | exact mul_ok_r (by decide) (by decide) | omega | decide), by (first | exact divL _ (by decide) | exact powL _ _ (by decide) | exact modL _ (by first | decide | omega) | exact mul_ok_l (by decide) (by decide) | exact mul_ok_r (by decide) (by decide) | omega | decide), ?_⟩
  refine ix4i 3 1000000000000 (q4 _) (by decide) fun m hm hm' => ?_
  have f0 := fmod_range (a := x0) (b := m) (by omega)
  simp only [dSeq, dIf, dRet, dRetN, dNext, dBreak, dCont, dNever, dSet, dAsg, dPar_eq, two2_eq, dFor, dForR, dSetOwn, dAppend, dExtend, dFreeze, dPut, cVar, cC, cOp, cUn, cTest, cNot, cAnd, cOr, cAndV, cOrV, cNotV, cIf, cCall, cCons, cNil, cTup, cLst, cIsi, cFresh, cFew, cSl, cPart, cNoPart, cIxOwn, kName, kTup, kCons_eq, cons1_eq, cDisp, kNil, cTrue, start3, List.map_cons, List.map_nil, List.length_cons, List.length_nil, List.cons_append, List.nil_append, List.append_nil, List.getElem?_cons_zero, List.getElem?_cons_succ, List.getElem?_nil, List.set_cons_zero, List.set_cons_succ, Option.some.injEq, Lo.d.injEq, Lo.own.injEq, D.bl.injEq, D.int.injEq, exists_eq_left', exists_eq_left, Nat.reduceAdd, Nat.reduceSub, Nat.sub_self, Nat.add_one_sub_one, List.replicate_succ, List.replicate_zero, D.tup.injEq, List.cons.injEq, and_assoc, cComp, cCompR, ii_eq, addD_ii, addD_ll, addD_tt, addD_ss, negD_i, eqF_ii, neF_ii, eqF_ss, eqF_bb, absF_i, lenF_l, lenF_t, lenF_s, maxF_ii, minF_ii, intF_i, intF_b, listF_l, listF_t, tupleF_l, tupleF_t, itemsD_l, itemsD_t, slD_l, rng1_i, rng2_i, decide_eq_true_eq, true_and, and_true, if_true, if_false, Bool.false_eq_true, Bool.not_eq_true', decide_eq_false_iff_not, PySem.sizeLine_eq, Int.reduceToNat, Int.reducePow, Int.reduceMul, Int.reduceAdd, Int.reduceNeg, Int.reduceSub, Int.reduceLT, Int.reduceLE, Int.reduceEq, Nat.reduceEqDiff, decide_true, decide_false, Nat.reduceLeDiff, Nat.reduceLT, Bool.true_eq_false, Bool.not_true, Bool.not_false, Bool.not_not]
  refine ⟨by show m ≠ 0; omega, by (first | exact divL _ (by decide) | exact powL _ _ (by decide) | exact modL _ (by first | decide | omega) | exact mul_ok_l (by decide) (by decide) | exact mul_ok_r (by decide) (by decide) | omega | decide), by (first | exact divL _ (by decide) | exact powL _ _ (by decide) | exact modL _ (by first | decide | omega) | exact mul_ok_l (by decide) (by decide) | exact mul_ok_r (by decide) (by decide) | omega | decide), by (first | exact divL _ (by decide) | exact powL _ _ (by decide) | exact modL _ (by first | decide | omega) | exact mul_ok_l (by decide) (by decide) | exact mul_ok_r (by decide) (by decide) | omega | decide), by (first | exact divL _ (by decide) | exact powL _ _ (by decide) | exact modL _ (by first | decide | omega) | exact mul_ok_l (by decide) (by decide) | exact mul_ok_r (by decide) (by decide) | omega | decide), ?_⟩
  refine ix4i 0 100000000000 (q4 _) (by decide) fun s hs hs' => ?_
  simp only [dSeq, dIf, dRet, dRetN, dNext, dBreak, dCont, dNever, dSet, dAsg, dPar_eq, two2_eq, dFor, dForR, dSetOwn, dAppend, dExtend, dFreeze, dPut, cVar, cC, cOp, cUn, cTest, cNot, cAnd, cOr, cAndV, cOrV, cNotV, cIf, cCall, cCons, cNil, cTup, cLst, cIsi, cFresh, cFew, cSl, cPart, cNoPart, cIxOwn, kName, kTup, kCons_eq, cons1_eq, cDisp, kNil, cTrue, start3, List.map_cons, List.map_nil, List.length_cons, List.length_nil, List.cons_append, List.nil_append, List.append_nil, List.getElem?_cons_zero, List.getElem?_cons_succ, List.getElem?_nil, List.set_cons_zero, List.set_cons_succ, Option.some.injEq, Lo.d.injEq, Lo.own.injEq, D.bl.injEq, D.int.injEq, exists_eq_left', exists_eq_left, Nat.reduceAdd, Nat.reduceSub, Nat.sub_self, Nat.add_one_sub_one, List.replicate_succ, List.replicate_zero, D.tup.injEq, List.cons.injEq, and_assoc, cComp, cCompR, ii_eq, addD_ii, addD_ll, addD_tt, addD_ss, negD_i, eqF_ii, neF_ii, eqF_ss, eqF_bb, absF_i, lenF_l, lenF_t, lenF_s, maxF_ii, minF_ii, intF_i, intF_b, listF_l, listF_t, tupleF_l, tupleF_t, itemsD_l, itemsD_t, slD_l, rng1_i, rng2_i, decide_eq_true_eq, true_and, and_true, if_true, if_false, Bool.false_eq_true, Bool.not_eq_true', decide_eq_false_iff_not, PySem.sizeLine_eq, Int.reduceToNat, Int.reducePow, Int.reduceMul, Int.reduceAdd, Int.reduceNeg, Int.reduceSub, Int.reduceLT, Int.reduceLE, Int.reduceEq, Nat.reduceEqDiff, decide_true, decide_false, Nat.reduceLeDiff, Nat.reduceLT, Bool.true_eq_false, Bool.not_true, Bool.not_false, Bool.not_not]
  refine dig_at hd (by decide) (by decide) fun x1 h1 h1' => ⟨by (first | exact divL _ (by decide) | exact powL _ _ (by decide) | exact modL _ (by first | decide | omega) | exact mul_ok_l (by decide) (by decide) | exact mul_ok_r (by decide) (by decide) | omega | decide), by (first | exact divL _ (by decide) | exact powL _ _ (by decide) | exact modL _ (by first | decide | omega) | exact mul_ok_l (by decide) (by decide) | exact mul_ok_r (by decide) (by decide) | omega | decide), by (first | exact divL _ (by decide) | exact powL _ _ (by decide) | exact modL _ (by first | decide | omega) | exact mul_ok_l (by decide) (by decide) | exact mul_ok_r (by decide) (by decide) | omega | decide), by (first | exact divL _ (by decide) | exact powL _ _ (by decide) | exact modL _ (by first | decide | omega) | exact mul_ok_l (by decide) (by decide) | exact mul_ok_r (by decide) (by decide) | omega | decide), ?_⟩
  refine ix4i 3 1000000000000 (q4 _) (by decide) fun m2 hm2 hm2' => ?_
  have f1 := fmod_range (a := x1) (b := m2) (by omega)
  simp only [dSeq, dIf, dRet, dRetN, dNext, dBreak, dCont, dNever, dSet, dAsg, dPar_eq, two2_eq, dFor, dForR, dSetOwn, dAppend, dExtend, dFreeze, dPut, cVar, cC, cOp, cUn, cTest, cNot, cAnd, cOr, cAndV, cOrV, cNotV, cIf, cCall, cCons, cNil, cTup, cLst, cIsi, cFresh, cFew, cSl, cPart, cNoPart, cIxOwn, kName, kTup, kCons_eq, cons1_eq, cDisp, kNil, cTrue, start3, List.map_cons, List.map_nil, List.length_cons, List.length_nil, List.cons_append, List.nil_append, List.append_nil, List.getElem?_cons_zero, List.getElem?_cons_succ, List.getElem?_nil, List.set_cons_zero, List.set_cons_succ, Option.some.injEq, Lo.d.injEq, Lo.own.injEq, D.bl.injEq, D.int.injEq, exists_eq_left', exists_eq_left, Nat.reduceAdd, Nat.reduceSub, Nat.sub_self, Nat.add_one_sub_one, List.replicate_succ, List.replicate_zero, D.tup.injEq, List.cons.injEq, and_assoc, cComp, cCompR, ii_eq, addD_ii, addD_ll, addD_tt, addD_ss, negD_i, eqF_ii, neF_ii, eqF_ss, eqF_bb, absF_i, lenF_l, lenF_t, lenF_s, maxF_ii, minF_ii, intF_i, intF_b, listF_l, listF_t, tupleF_l, tupleF_t, itemsD_l, itemsD_t, slD_l, rng1_i, rng2_i, decide_eq_true_eq, true_and, and_true, if_true, if_false, Bool.false_eq_true, Bool.not_eq_true', decide_eq_false_iff_not, PySem.sizeLine_eq, Int.reduceToNat, Int.reducePow, Int.reduceMul, Int.reduceAdd, Int.reduceNeg, Int.reduceSub, Int.reduceLT, Int.reduceLE, Int.reduceEq, Nat.reduceEqDiff, decide_true, decide_false, Nat.reduceLeDiff, Nat.reduceLT, Bool.true_eq_false, Bool.not_true, Bool.not_false, Bool.not_not]
  refine ⟨by show m2 ≠ 0; omega, by (first | exact divL _ (by decide) | exact powL _ _ (by decide) | exact modL _ (by first | decide | omega) | exact mul_ok_l (by decide) (by decide) | exact mul_ok_r (by decide) (by decide) | omega | decide), by (first | exact divL _ (by decide) | exact powL _ _ (by decide) | exact modL _ (by first | decide | omega) | exact mul_ok_l (by decide) (by decide) | exact mul_ok_r (by decide) (by decide) | omega | decide), by (first | exact divL _ (by decide) | exact powL _ _ (by decide) | exact modL _ (by first | decide | omega) | exact mul_ok_l (by decide) (by decide) | exact mul_ok_r (by decide) (by decide) | omega | decide), by (first | exact divL _ (by decide) | exact powL _ _ (by decide) | exact modL _ (by first | decide | omega) | exact mul_ok_l (by decide) (by decide) | exact mul_ok_r (by decide) (by decide) | omega | decide), ?_⟩
  refine ix4i 1 100000000000 (q4 _) (by decide) fun s2 hs2 hs2' => ?_
  simp only [dSeq, dIf, dRet, dRetN, dNext, dBreak, dCont, dNever, dSet, dAsg, dPar_eq, two2_eq, dFor, dForR, dSetOwn, dAppend, dExtend, dFreeze, dPut, cVar, cC, cOp, cUn, cTest, cNot, cAnd, cOr, cAndV, cOrV, cNotV, cIf, cCall, cCons, cNil, cTup, cLst, cIsi, cFresh, cFew, cSl, cPart, cNoPart, cIxOwn, kName, kTup, kCons_eq, cons1_eq, cDisp, kNil, cTrue, start3, List.map_cons, List.map_nil, List.length_cons, List.length_nil, List.cons_append, List.nil_append, List.append_nil, List.getElem?_cons_zero, List.getElem?_cons_succ, List.getElem?_nil, List.set_cons_zero, List.set_cons_succ, Option.some.injEq, Lo.d.injEq, Lo.own.injEq, D.bl.injEq, D.int.injEq, exists_eq_left', exists_eq_left, Nat.reduceAdd, Nat.reduceSub, Nat.sub_self, Nat.add_one_sub_one, List.replicate_succ, List.replicate_zero, D.tup.injEq, List.cons.injEq, and_assoc, cComp, cCompR, ii_eq, addD_ii, addD_ll, addD_tt, addD_ss, negD_i, eqF_ii, neF_ii, eqF_ss, eqF_bb, absF_i, lenF_l, lenF_t, lenF_s, maxF_ii, minF_ii, intF_i, intF_b, listF_l, listF_t, tupleF_l, tupleF_t, itemsD_l, itemsD_t, slD_l, rng1_i, rng2_i, decide_eq_true_eq, true_and, and_true, if_true, if_false, Bool.false_eq_true, Bool.not_eq_true', decide_eq_false_iff_not, PySem.sizeLine_eq, Int.reduceToNat, Int.reducePow, Int.reduceMul, Int.reduceAdd, Int.reduceNeg, Int.reduceSub, Int.reduceLT, Int.reduceLE, Int.reduceEq, Nat.reduceEqDiff, decide_true, decide_false, Nat.reduceLeDiff, Nat.reduceLT, Bool.true_eq_false, Bool.not_true, Bool.not_false, Bool.not_not]
  refine dig_at hd (by decide) (by decide) fun x2 h2 h2' => ?_
  have f2 := fmod_range (a := x2) (b := 12) (by decide)
  simp only [dSeq, dIf, dRet, dRetN, dNext, dBreak, dCont, dNever, dSet, dAsg, dPar_eq, two2_eq, dFor, dForR, dSetOwn, dAppend, dExtend, dFreeze, dPut, cVar, cC, cOp, cUn, cTest, cNot, cAnd, cOr, cAndV, cOrV, cNotV, cIf, cCall, cCons, cNil, cTup, cLst, cIsi, cFresh, cFew, cSl, cPart, cNoPart, cIxOwn, kName, kTup, kCons_eq, cons1_eq, cDisp, kNil, cTrue, start3, List.map_cons, List.map_nil, List.length_cons, List.length_nil, List.cons_append, List.nil_append, List.append_nil, List.getElem?_cons_zero, List.getElem?_cons_succ, List.getElem?_nil, List.set_cons_zero, List.set_cons_succ, Option.some.injEq, Lo.d.injEq, Lo.own.injEq, D.bl.injEq, D.int.injEq, exists_eq_left', exists_eq_left, Nat.reduceAdd, Nat.reduceSub, Nat.sub_self, Nat.add_one_sub_one, List.replicate_succ, List.replicate_zero, D.tup.injEq, List.cons.injEq, and_assoc, cComp, cCompR, ii_eq, addD_ii, addD_ll, addD_tt, addD_ss, negD_i, eqF_ii, neF_ii, eqF_ss, eqF_bb, absF_i, lenF_l, lenF_t, lenF_s, maxF_ii, minF_ii, intF_i, intF_b, listF_l, listF_t, tupleF_l, tupleF_t, itemsD_l, itemsD_t, slD_l, rng1_i, rng2_i, decide_eq_true_eq, true_and, and_true, if_true, if_false, Bool.false_eq_true, Bool.not_eq_true', decide_eq_false_iff_not, PySem.sizeLine_eq, Int.reduceToNat, Int.reducePow, Int.reduceMul, Int.reduceAdd, Int.reduceNeg, Int.reduceSub, Int.reduceLT, Int.reduceLE, Int.reduceEq, Nat.reduceEqDiff, decide_true, decide_false, Nat.reduceLeDiff, Nat.reduceLT, Bool.true_eq_false, Bool.not_true, Bool.not_false, Bool.not_not]
  refine ⟨by (first | exact divL _ (by decide) | exact powL _ _ (by decide) | exact modL _ (by first | decide | omega) | exact mul_ok_l (by decide) (by decide) | exact mul_ok_r (by decide) (by decide) | omega | decide), by (first | exact divL _ (by decide) | exact powL _ _ (by decide) | exact modL _ (by first | decide | omega) | exact mul_ok_l (by decide) (by decide) | exact mul_ok_r (by decide) (by decide) | omega | decide), by (first | exact divL _ (by decide) | exact powL _ _ (by decide) | exact modL _ (by first | decide | omega) | exact mul_ok_l (by decide) (by decide) | exact mul_ok_r (by decide) (by decide) | omega | decide), ?_⟩
  refine ix4i 0 13 (q4 _) (by omega) fun k hk hk' => ?_
  refine last d _ _ k ?_ ?_ ?_
  · unfold Bits; omega
  · unfold Bits; omega
  · unfold Bits; omega
theorem len_law : ∀ ds Q, fLaw 63 ds Q → ds.length = 1 := by rintro ds Q ⟨ns, rfl, _⟩; rfl
def t_law : TS3 := (dSeq (dFor (cOp addD (cLst (cCons (cCall f_law_cell (cCons (cVar 0) (cCons (cC (.int 0)) cNil))) cNil)) (cSl (cVar 0) (cPart (cC (.int 1))) (cPart (cC (.int 12))))) (kName 1) (dSeq (dAsg (cCall f_law_numbers (cCons (cVar 1) cNil)) (kTup 2 (kCons (kName 2) (kCons (kName 3) kNil)))) (dIf (cNot (cTest (cCall f_law_good (cCons (cVar 2) (cCons (cVar 3) cNil))))) (dRet (cC (.bl false))) dNext))) (dRet (cAndV (cCall f_law_good (cCons (cC (.int 0)) (cCons (cC (.int 0)) cNil))) (cAndV (cCall f_law_good (cCons (cC (.int 7)) (cCons (cC (.int 0)) cNil))) (cAndV (cCall f_law_good (cCons (cUn negD (cC (.int 7))) (cCons (cC (.int 0)) cNil))) (cCall f_law_good (cCons (cC (.int 0)) (cCons (cUn negD (cC (.int 3))) cNil))))))))
theorem ob_law : ∀ ds (Q : D → Prop), fLaw 63 ds Q → t_law { nx := fun _ => Q .non, rt := Q } (start3 ["_law_script", "_law_cell_here", "_law_p", "_law_q"] ds) := by
  rintro ds Q ⟨ns, rfl, hl, h⟩
  simp only [t_law, dSeq, dIf, dRet, dRetN, dNext, dBreak, dCont, dNever, dSet, dAsg, dPar_eq, two2_eq, dFor, dForR, dSetOwn, dAppend, dExtend, dFreeze, dPut, cVar, cC, cOp, cUn, cTest, cNot, cAnd, cOr, cAndV, cOrV, cNotV, cIf, cCall, cCons, cNil, cTup, cLst, cIsi, cFresh, cFew, cSl, cPart, cNoPart, cIxOwn, kName, kTup, kCons_eq, cons1_eq, cDisp, kNil, cTrue, start3, List.map_cons, List.map_nil, List.length_cons, List.length_nil, List.cons_append, List.nil_append, List.append_nil, List.getElem?_cons_zero, List.getElem?_cons_succ, List.getElem?_nil, List.set_cons_zero, List.set_cons_succ, Option.some.injEq, Lo.d.injEq, Lo.own.injEq, D.bl.injEq, D.int.injEq, exists_eq_left', exists_eq_left, Nat.reduceAdd, Nat.reduceSub, Nat.sub_self, Nat.add_one_sub_one, List.replicate_succ, List.replicate_zero, D.tup.injEq, List.cons.injEq, and_assoc, cComp, cCompR, ii_eq, addD_ii, addD_ll, addD_tt, addD_ss, negD_i, eqF_ii, neF_ii, eqF_ss, eqF_bb, absF_i, lenF_l, lenF_t, lenF_s, maxF_ii, minF_ii, intF_i, intF_b, listF_l, listF_t, tupleF_l, tupleF_t, itemsD_l, itemsD_t, slD_l, rng1_i, rng2_i, decide_eq_true_eq, true_and, and_true, if_true, if_false, Bool.false_eq_true, Bool.not_eq_true', decide_eq_false_iff_not, PySem.sizeLine_eq, Int.reduceToNat, Int.reducePow, Int.reduceMul, Int.reduceAdd, Int.reduceNeg, Int.reduceSub, Int.reduceLT, Int.reduceLE, Int.reduceEq, Nat.reduceEqDiff, decide_true, decide_false, Nat.reduceLeDiff, Nat.reduceLT, Bool.true_eq_false, Bool.not_true, Bool.not_false, Bool.not_not, f_law_cell, F2_eq, pCell]
  refine ⟨ns, 0, rfl, rfl, by decide, ?_⟩
  have hcl := cutD_len (ns.map D.int) (some 1) (some 12)
  rw [List.length_map] at hcl
  refine ⟨by omega, ?_⟩
  refine turns_of (fun _ e => ∃ k1 k2 k3, e = [some (.d (.lst (ns.map D.int))), k1, k2, k3]) ?_ ?_ ⟨_, _, _, rfl⟩
  · rintro i x env N hx ⟨k1, k2, k3, rfl⟩ hN
    have hxi : ∃ c : Int, x = .int c := by
      have hm := List.mem_of_getElem? hx
      rcases List.mem_cons.mp hm with e | e
      · exact ⟨_, e⟩
      · obtain ⟨n, _, e⟩ := List.mem_map.mp (cutD_mem e); exact ⟨n, e.symm⟩
    obtain ⟨c, rfl⟩ := hxi
    simp only [dSeq, dIf, dRet, dRetN, dNext, dBreak, dCont, dNever, dSet, dAsg, dPar_eq, two2_eq, dFor, dForR, dSetOwn, dAppend, dExtend, dFreeze, dPut, cVar, cC, cOp, cUn, cTest, cNot, cAnd, cOr, cAndV, cOrV, cNotV, cIf, cCall, cCons, cNil, cTup, cLst, cIsi, cFresh, cFew, cSl, cPart, cNoPart, cIxOwn, kName, kTup, kCons_eq, cons1_eq, cDisp, kNil, cTrue, start3, List.map_cons, List.map_nil, List.length_cons, List.length_nil, List.cons_append, List.nil_append, List.append_nil, List.getElem?_cons_zero, List.getElem?_cons_succ, List.getElem?_nil, List.set_cons_zero, List.set_cons_succ, Option.some.injEq, Lo.d.injEq, Lo.own.injEq, D.bl.injEq, D.int.injEq, exists_eq_left', exists_eq_left, Nat.reduceAdd, Nat.reduceSub, Nat.sub_self, Nat.add_one_sub_one, List.replicate_succ, List.replicate_zero, D.tup.injEq, List.cons.injEq, and_assoc, cComp, cCompR, ii_eq, addD_ii, addD_ll, addD_tt, addD_ss, negD_i, eqF_ii, neF_ii, eqF_ss, eqF_bb, absF_i, lenF_l, lenF_t, lenF_s, maxF_ii, minF_ii, intF_i, intF_b, listF_l, listF_t, tupleF_l, tupleF_t, itemsD_l, itemsD_t, slD_l, rng1_i, rng2_i, decide_eq_true_eq, true_and, and_true, if_true, if_false, Bool.false_eq_true, Bool.not_eq_true', decide_eq_false_iff_not, PySem.sizeLine_eq, Int.reduceToNat, Int.reducePow, Int.reduceMul, Int.reduceAdd, Int.reduceNeg, Int.reduceSub, Int.reduceLT, Int.reduceLE, Int.reduceEq, Nat.reduceEqDiff, decide_true, decide_false, Nat.reduceLeDiff, Nat.reduceLT, Bool.true_eq_false, Bool.not_true, Bool.not_false, Bool.not_not, f_law_numbers, f_law_good, F1_eq, F2_eq]
    refine ⟨c, rfl, fun p q hb => ?_⟩
    simp only [frD, dSeq, dIf, dRet, dRetN, dNext, dBreak, dCont, dNever, dSet, dAsg, dPar_eq, two2_eq, dFor, dForR, dSetOwn, dAppend, dExtend, dFreeze, dPut, cVar, cC, cOp, cUn, cTest, cNot, cAnd, cOr, cAndV, cOrV, cNotV, cIf, cCall, cCons, cNil, cTup, cLst, cIsi, cFresh, cFew, cSl, cPart, cNoPart, cIxOwn, kName, kTup, kCons_eq, cons1_eq, cDisp, kNil, cTrue, start3, List.map_cons, List.map_nil, List.length_cons, List.length_nil, List.cons_append, List.nil_append, List.append_nil, List.getElem?_cons_zero, List.getElem?_cons_succ, List.getElem?_nil, List.set_cons_zero, List.set_cons_succ, Option.some.injEq, Lo.d.injEq, Lo.own.injEq, D.bl.injEq, D.int.injEq, exists_eq_left', exists_eq_left, Nat.reduceAdd, Nat.reduceSub, Nat.sub_self, Nat.add_one_sub_one, List.replicate_succ, List.replicate_zero, D.tup.injEq, List.cons.injEq, and_assoc, cComp, cCompR, ii_eq, addD_ii, addD_ll, addD_tt, addD_ss, negD_i, eqF_ii, neF_ii, eqF_ss, eqF_bb, absF_i, lenF_l, lenF_t, lenF_s, maxF_ii, minF_ii, intF_i, intF_b, listF_l, listF_t, tupleF_l, tupleF_t, itemsD_l, itemsD_t, slD_l, rng1_i, rng2_i, decide_eq_true_eq, true_and, and_true, if_true, if_false, Bool.false_eq_true, Bool.not_eq_true', decide_eq_false_iff_not, PySem.sizeLine_eq, Int.reduceToNat, Int.reducePow, Int.reduceMul, Int.reduceAdd, Int.reduceNeg, Int.reduceSub, Int.reduceLT, Int.reduceLE, Int.reduceEq, Nat.reduceEqDiff, decide_true, decide_false, Nat.reduceLeDiff, Nat.reduceLT, Bool.true_eq_false, Bool.not_true, Bool.not_false, Bool.not_not]
    refine ⟨p, q, rfl, rfl, hb, true, rfl, ?_⟩
    exact hN _ ⟨_, _, _, rfl⟩
  · rintro env ⟨k1, k2, k3, rfl⟩
    simp only [dSeq, dIf, dRet, dRetN, dNext, dBreak, dCont, dNever, dSet, dAsg, dPar_eq, two2_eq, dFor, dForR, dSetOwn, dAppend, dExtend, dFreeze, dPut, cVar, cC, cOp, cUn, cTest, cNot, cAnd, cOr, cAndV, cOrV, cNotV, cIf, cCall, cCons, cNil, cTup, cLst, cIsi, cFresh, cFew, cSl, cPart, cNoPart, cIxOwn, kName, kTup, kCons_eq, cons1_eq, cDisp, kNil, cTrue, start3, List.map_cons, List.map_nil, List.length_cons, List.length_nil, List.cons_append, List.nil_append, List.append_nil, List.getElem?_cons_zero, List.getElem?_cons_succ, List.getElem?_nil, List.set_cons_zero, List.set_cons_succ, Option.some.injEq, Lo.d.injEq, Lo.own.injEq, D.bl.injEq, D.int.injEq, exists_eq_left', exists_eq_left, Nat.reduceAdd, Nat.reduceSub, Nat.sub_self, Nat.add_one_sub_one, List.replicate_succ, List.replicate_zero, D.tup.injEq, List.cons.injEq, and_assoc, cComp, cCompR, ii_eq, addD_ii, addD_ll, addD_tt, addD_ss, negD_i, eqF_ii, neF_ii, eqF_ss, eqF_bb, absF_i, lenF_l, lenF_t, lenF_s, maxF_ii, minF_ii, intF_i, intF_b, listF_l, listF_t, tupleF_l, tupleF_t, itemsD_l, itemsD_t, slD_l, rng1_i, rng2_i, decide_eq_true_eq, true_and, and_true, if_true, if_false, Bool.false_eq_true, Bool.not_eq_true', decide_eq_false_iff_not, PySem.sizeLine_eq, Int.reduceToNat, Int.reducePow, Int.reduceMul, Int.reduceAdd, Int.reduceNeg, Int.reduceSub, Int.reduceLT, Int.reduceLE, Int.reduceEq, Nat.reduceEqDiff, decide_true, decide_false, Nat.reduceLeDiff, Nat.reduceLT, Bool.true_eq_false, Bool.not_true, Bool.not_false, Bool.not_not, f_law_good, F2_eq]
    refine ⟨0, 0, rfl, rfl, ⟨bitsL _ _ (by decide), bitsL _ _ (by decide)⟩, true, rfl, 7, 0, rfl, rfl, ⟨bitsL _ _ (by decide), bitsL _ _ (by decide)⟩, true, rfl, -7, 0, rfl, rfl, ⟨bitsL _ _ (by decide), bitsL _ _ (by decide)⟩, true, rfl, 0, -3, rfl, rfl, ⟨bitsL _ _ (by decide), bitsL _ _ (by decide)⟩, h⟩
end K02
set_option Elab.async false
set_option linter.all false
set_option maxRecDepth 100000
set_option maxHeartbeats 8000000
namespace K02
open PySem L2 L2.L3
structure Tc (K : PySem.W.Frag) (c_NoFraction c_FanError c_TooMany c_TooLong c_Open c_NotIn c_NoTurning c_NoText c_NoTable c_NoRow c_NoRoot c_NoPaper c_NoName c_NoFan c_Full : Addr) : Prop where
  n_NoFraction : PySem.W.nsIn K mainGlobals "NoFraction" = some (some (.ref c_NoFraction))
  n_FanError : PySem.W.nsIn K mainGlobals "FanError" = some (some (.ref c_FanError))
  n_TooMany : PySem.W.nsIn K mainGlobals "TooMany" = some (some (.ref c_TooMany))
  n_TooLong : PySem.W.nsIn K mainGlobals "TooLong" = some (some (.ref c_TooLong))
  n_Open : PySem.W.nsIn K mainGlobals "Open" = some (some (.ref c_Open))
  n_NotIn : PySem.W.nsIn K mainGlobals "NotIn" = some (some (.ref c_NotIn))
  n_NoTurning : PySem.W.nsIn K mainGlobals "NoTurning" = some (some (.ref c_NoTurning))
  n_NoText : PySem.W.nsIn K mainGlobals "NoText" = some (some (.ref c_NoText))
  n_NoTable : PySem.W.nsIn K mainGlobals "NoTable" = some (some (.ref c_NoTable))
  n_NoRow : PySem.W.nsIn K mainGlobals "NoRow" = some (some (.ref c_NoRow))
  n_NoRoot : PySem.W.nsIn K mainGlobals "NoRoot" = some (some (.ref c_NoRoot))
  n_NoPaper : PySem.W.nsIn K mainGlobals "NoPaper" = some (some (.ref c_NoPaper))
  n_NoName : PySem.W.nsIn K mainGlobals "NoName" = some (some (.ref c_NoName))
  n_NoFan : PySem.W.nsIn K mainGlobals "NoFan" = some (some (.ref c_NoFan))
  n_Full : PySem.W.nsIn K mainGlobals "Full" = some (some (.ref c_Full))
  e_NoFraction : PySem.W.excIn K c_NoFraction [.type "ValueError", .type "Exception", .type "BaseException", .type "object"] "ValueError.__new__" = true
  o1_NoFraction : PySem.W.findIn K (.ref c_NoFraction) "__getattribute__" = some (some (.builtin "BaseException.__getattribute__"))
  o2_NoFraction : PySem.W.findIn K (.ref c_NoFraction) "__getattr__" = some none
  o3_NoFraction : PySem.W.hasDictIn K c_NoFraction = true
  o4_NoFraction : PySem.W.findIn K (.ref c_NoFraction) "__class__" = some (some (.builtin "object.__class__"))
  o5_NoFraction : PySem.W.specialIn K (.builtin "object.__class__") "__get__" = some (some (.builtin "getset_descriptor.__get__"))
  o6_NoFraction : PySem.W.takesIn K (.builtin "object.__class__") = some true
  o7_NoFraction : PySem.W.mroIn K c_NoFraction (.type "object") = some true
  o8_NoFraction : PySem.W.subIn K (.ref c_NoFraction) (.type "BaseException") = some true
  kt0 : PySem.W.kitOne K (.ref c_NoFraction) (.type "ValueError") = some true
  kt1 : PySem.W.kitOne K (.ref c_NoFraction) (.ref c_FanError) = some true
  kt2 : PySem.W.kitAny K (.ref c_NoFraction) [.ref c_NoText, .ref c_NoTurning, .ref c_NotIn, .ref c_Open, .ref c_TooLong, .ref c_TooMany] = some false
  kt3 : PySem.W.kitAny K (.ref c_NoFraction) [.ref c_Full, .ref c_NoFan, .ref c_NoName, .ref c_NoPaper, .ref c_NoRoot, .ref c_NoRow, .ref c_NoTable] = some false
theorem Tc.o_NoFraction {K : PySem.W.Frag} {c_NoFraction c_FanError c_TooMany c_TooLong c_Open c_NotIn c_NoTurning c_NoText c_NoTable c_NoRow c_NoRoot c_NoPaper c_NoName c_NoFan c_Full : Addr} (TC : Tc K c_NoFraction c_FanError c_TooMany c_TooLong c_Open c_NotIn c_NoTurning c_NoText c_NoTable c_NoRow c_NoRoot c_NoPaper c_NoName c_NoFan c_Full) : XcOk K c_NoFraction := ⟨TC.o1_NoFraction, TC.o2_NoFraction, TC.o3_NoFraction, TC.o4_NoFraction, TC.o5_NoFraction, TC.o6_NoFraction, TC.o7_NoFraction, TC.o8_NoFraction⟩
def top (i : Nat) : Stmt := PySem.Challenge.pw_fanglue_k02_fractions_made.main.body.getD i (.Pass ⟨0, 0, 0, 0⟩)
abbrev s_is_whole : Stmt := top 17
abbrev s_are_wholes : Stmt := top 18
abbrev s_common_part : Stmt := top 20
abbrev s_upright : Stmt := top 21
abbrev s_is_fraction : Stmt := top 22
abbrev s_fraction : Stmt := top 23
abbrev s_law_cell : Stmt := top 25
abbrev s_law_digits : Stmt := top 26
abbrev s_law_mixed : Stmt := top 27
abbrev s_law_row : Stmt := top 28
abbrev s_law_numbers : Stmt := top 29
abbrev s_law_refused : Stmt := top 30
abbrev s_law_good : Stmt := top 31
abbrev s_law : Stmt := top 32
structure Txt (mg : Str → Option Value) : Prop where
  ValueError : mg "ValueError" = none
  abs : mg "abs" = none
  all : mg "all" = none
  bool : mg "bool" = none
  int : mg "int" = none
  isinstance : mg "isinstance" = none
  len : mg "len" = none
  range : mg "range" = none
  tuple : mg "tuple" = none
theorem sc_is_whole : FnScope ["thing"] ["thing"] (defScope s_is_whole) := ⟨rfl, rfl, rfl, by decide +kernel, rfl, by decide +kernel, by decide +kernel⟩
theorem sc_are_wholes : FnScope ["thing", "many"] ["thing", "many"] (defScope s_are_wholes) := ⟨rfl, rfl, rfl, by decide +kernel, rfl, by decide +kernel, by decide +kernel⟩
theorem sc_common_part : FnScope ["p", "q", "high", "low"] ["p", "q"] (defScope s_common_part) := ⟨rfl, rfl, rfl, by decide +kernel, rfl, by decide +kernel, by decide +kernel⟩
theorem sc_upright : FnScope ["p", "q"] ["p", "q"] (defScope s_upright) := ⟨rfl, rfl, rfl, by decide +kernel, rfl, by decide +kernel, by decide +kernel⟩
theorem sc_is_fraction : FnScope ["thing", "p", "q"] ["thing"] (defScope s_is_fraction) := ⟨rfl, rfl, rfl, by decide +kernel, rfl, by decide +kernel, by decide +kernel⟩
theorem sc_fraction : FnScope ["p", "q", "part"] ["p", "q"] (defScope s_fraction) := ⟨rfl, rfl, rfl, by decide +kernel, rfl, by decide +kernel, by decide +kernel⟩
theorem sc_law_cell : FnScope ["_law_script", "_law_k"] ["_law_script", "_law_k"] (defScope s_law_cell) := ⟨rfl, rfl, rfl, by decide +kernel, rfl, by decide +kernel, by decide +kernel⟩
theorem sc_law_digits : FnScope ["_law_cell_here", "_law_base", "_law_many", "_law_row_here", "_law_k"] ["_law_cell_here", "_law_base", "_law_many"] (defScope s_law_digits) := ⟨rfl, rfl, rfl, by decide +kernel, rfl, by decide +kernel, by decide +kernel⟩
theorem sc_law_mixed : FnScope ["_law_cell_here", "_law_base", "_law_many", "_law_row_here", "_law_k", "_law_one", "_law_two"] ["_law_cell_here", "_law_base", "_law_many"] (defScope s_law_mixed) := ⟨rfl, rfl, rfl, by decide +kernel, rfl, by decide +kernel, by decide +kernel⟩
theorem sc_law_row : FnScope ["_law_cell_here", "_law_base", "_law_many"] ["_law_cell_here", "_law_base", "_law_many"] (defScope s_law_row) := ⟨rfl, rfl, rfl, by decide +kernel, rfl, by decide +kernel, by decide +kernel⟩
theorem sc_law_numbers : FnScope ["_law_cell_here", "_law_digits_here", "_law_p", "_law_q", "_law_part"] ["_law_cell_here"] (defScope s_law_numbers) := ⟨rfl, rfl, rfl, by decide +kernel, rfl, by decide +kernel, by decide +kernel⟩
theorem sc_law_refused : FnScope ["_law_p", "_law_q", "e", "_law_others"] ["_law_p", "_law_q"] (defScope s_law_refused) := ⟨rfl, rfl, rfl, by decide +kernel, rfl, by decide +kernel, by decide +kernel⟩
theorem sc_law_good : FnScope ["_law_p", "_law_q", "_law_told"] ["_law_p", "_law_q"] (defScope s_law_good) := ⟨rfl, rfl, rfl, by decide +kernel, rfl, by decide +kernel, by decide +kernel⟩
theorem sc_law : FnScope ["_law_script", "_law_cell_here", "_law_p", "_law_q"] ["_law_script"] (defScope s_law) := ⟨rfl, rfl, rfl, by decide +kernel, rfl, by decide +kernel, by decide +kernel⟩
section
variable {P : Program} {w : World} {K : PySem.W.Frag} {mg : Str → Option Value} {base : Heap}
theorem kn_is_whole {fa : Addr} {fd : FuncData} (F : Fun K "is_whole" "is_whole" s_is_whole fa fd) (hmg : mg "is_whole" = some (.ref fa)) (hb : Binds K fd ["thing"] []) (T : Txt mg)  {c_NoFraction c_FanError c_TooMany c_TooLong c_Open c_NotIn c_NoTurning c_NoText c_NoTable c_NoRow c_NoRoot c_NoPaper c_NoName c_NoFan c_Full : Addr} (TC : Tc K c_NoFraction c_FanError c_TooMany c_TooLong c_Open c_NotIn c_NoTurning c_NoText c_NoTable c_NoRow c_NoRoot c_NoPaper c_NoName c_NoFan c_Full)   : Known P w K mg base 1 "is_whole" f_is_whole := by
  have nd := sc_is_whole.nd
  exact Fun.known F sc_is_whole hmg hb len_is_whole (fun cdv A outer s H E hr => ⟨t_is_whole, (qss_one (qs_ret (qe_and (q_isi T.isinstance T.int boot_int' (qv 0)) (qe_one (qe_not (q_isi T.isinstance T.bool boot_bool' (qv 0))))))), ob_is_whole⟩)
theorem kn_are_wholes {fa : Addr} {fd : FuncData} (F : Fun K "are_wholes" "are_wholes" s_are_wholes fa fd) (hmg : mg "are_wholes" = some (.ref fa)) (hb : Binds K fd ["thing", "many"] []) (T : Txt mg)  {c_NoFraction c_FanError c_TooMany c_TooLong c_Open c_NotIn c_NoTurning c_NoText c_NoTable c_NoRow c_NoRoot c_NoPaper c_NoName c_NoFan c_Full : Addr} (TC : Tc K c_NoFraction c_FanError c_TooMany c_TooLong c_Open c_NotIn c_NoTurning c_NoText c_NoTable c_NoRow c_NoRoot c_NoPaper c_NoName c_NoFan c_Full) (k_is_whole : Known P w K mg base 1 "is_whole" f_is_whole)  : Known P w K mg base 2 "are_wholes" f_are_wholes := by
  have nd := sc_are_wholes.nd
  exact Fun.known F sc_are_wholes hmg hb len_are_wholes (fun cdv A outer s H E hr => ⟨t_are_wholes, (qss_cons (qs_if (QW.t (qw_or (qt_not (qt_val (q_isi T.isinstance T.tuple boot_tuple' (qv 0)))) (qw_or1 (t_ne hr.units (q_len T.len (qa_cons (qv 0) qa_nil)) (qv 1))))) (qss_one (qs_ret qbl)) qss_nil) (qss_one (qs_ret (q_all T.all (qa_cons (QF.e (qf_comp (N' := ["each"]) (ix := []) rfl (CompOk.of (defScope s_are_wholes) rfl rfl (by decide +kernel) (by decide +kernel) (by decide +kernel) (fun j i h => by simp at h) rfl) (by decide) rfl rfl (qv 0) (fun C s H fp pins => qifs_nil) (fun C s H fp pins => (q_call k_is_whole (hr.mono (by decide)) (qa_cons (qv 0) qa_nil))))) qa_nil))))), ob_are_wholes⟩)
theorem kn_common_part {fa : Addr} {fd : FuncData} (F : Fun K "common_part" "common_part" s_common_part fa fd) (hmg : mg "common_part" = some (.ref fa)) (hb : Binds K fd ["p", "q"] []) (T : Txt mg)  {c_NoFraction c_FanError c_TooMany c_TooLong c_Open c_NotIn c_NoTurning c_NoText c_NoTable c_NoRow c_NoRoot c_NoPaper c_NoName c_NoFan c_Full : Addr} (TC : Tc K c_NoFraction c_FanError c_TooMany c_TooLong c_Open c_NotIn c_NoTurning c_NoText c_NoTable c_NoRow c_NoRoot c_NoPaper c_NoName c_NoFan c_Full)   : Known P w K mg base 1 "common_part" f_common_part := by
  have nd := sc_common_part.nd
  exact Fun.known F sc_common_part hmg hb len_common_part (fun cdv A outer s H E hr => ⟨t_common_part, (qss_cons (qs_set 2 nd (q_abs T.abs (qa_cons (qv 0) qa_nil))) (qss_cons (qs_set 3 nd (q_abs T.abs (qa_cons (qv 1) qa_nil))) (qss_cons (qs_while PassesOwn.never (t_ne hr.units (qv 3) qint) (qss_one (qs_par 2 3 rfl nd (qa_cons (qv 3) (qa_cons (q_mod (qv 2) (qv 3)) qa_nil))))) (qss_one (qs_ret (qv 2)))))), ob_common_part⟩)
theorem kn_upright {fa : Addr} {fd : FuncData} (F : Fun K "upright" "upright" s_upright fa fd) (hmg : mg "upright" = some (.ref fa)) (hb : Binds K fd ["p", "q"] []) (T : Txt mg)  {c_NoFraction c_FanError c_TooMany c_TooLong c_Open c_NotIn c_NoTurning c_NoText c_NoTable c_NoRow c_NoRoot c_NoPaper c_NoName c_NoFan c_Full : Addr} (TC : Tc K c_NoFraction c_FanError c_TooMany c_TooLong c_Open c_NotIn c_NoTurning c_NoText c_NoTable c_NoRow c_NoRoot c_NoPaper c_NoName c_NoFan c_Full)   : Known P w K mg base 1 "upright" f_upright := by
  have nd := sc_upright.nd
  exact Fun.known F sc_upright hmg hb len_upright (fun cdv A outer s H E hr => ⟨t_upright, (qss_cons (qs_if (QW.t (qw_or (t_lt (qv 1) qint) (qw_or1 (QW.t (qw_and (t_eq hr.units (qv 1) qint) (qw_and1 (t_lt (qv 0) qint))))))) (qss_one (qs_ret (qe_tup (qa_cons (q_neg (qv 0)) (qa_cons (q_neg (qv 1)) qa_nil))))) qss_nil) (qss_one (qs_ret (qe_tup (qa_cons (qv 0) (qa_cons (qv 1) qa_nil)))))), ob_upright⟩)
theorem kn_is_fraction {fa : Addr} {fd : FuncData} (F : Fun K "is_fraction" "is_fraction" s_is_fraction fa fd) (hmg : mg "is_fraction" = some (.ref fa)) (hb : Binds K fd ["thing"] []) (T : Txt mg)  {c_NoFraction c_FanError c_TooMany c_TooLong c_Open c_NotIn c_NoTurning c_NoText c_NoTable c_NoRow c_NoRoot c_NoPaper c_NoName c_NoFan c_Full : Addr} (TC : Tc K c_NoFraction c_FanError c_TooMany c_TooLong c_Open c_NotIn c_NoTurning c_NoText c_NoTable c_NoRow c_NoRoot c_NoPaper c_NoName c_NoFan c_Full) (k_are_wholes : Known P w K mg base 2 "are_wholes" f_are_wholes) (k_common_part : Known P w K mg base 1 "common_part" f_common_part) (k_upright : Known P w K mg base 1 "upright" f_upright)  : Known P w K mg base 3 "is_fraction" f_is_fraction := by
  have nd := sc_is_fraction.nd
  exact Fun.known F sc_is_fraction hmg hb len_is_fraction (fun cdv A outer s H E hr => ⟨t_is_fraction, (qss_cons (qs_if (qt_not (qt_val (q_call k_are_wholes (hr.mono (by decide)) (qa_cons (qv 0) (qa_cons qint qa_nil))))) (qss_one (qs_ret qbl)) qss_nil) (qss_cons (qs_asg (qv 0) (qg_tup rfl (qgs_cons (qg_name 1 nd) (qgs_cons (qg_name 2 nd) qgs_nil)))) (qss_one (qs_ret (qe_and (q_eq hr.units (q_call k_common_part (hr.mono (by decide)) (qa_cons (qv 1) (qa_cons (qv 2) qa_nil))) qint) (qe_one (q_eq hr.units (q_call k_upright (hr.mono (by decide)) (qa_cons (qv 1) (qa_cons (qv 2) qa_nil))) (qe_tup (qa_cons (qv 1) (qa_cons (qv 2) qa_nil)))))))))), ob_is_fraction⟩)
theorem kn_fraction {fa : Addr} {fd : FuncData} (F : Fun K "fraction" "fraction" s_fraction fa fd) (hmg : mg "fraction" = some (.ref fa)) (hb : Binds K fd ["p", "q"] []) (T : Txt mg)  {c_NoFraction c_FanError c_TooMany c_TooLong c_Open c_NotIn c_NoTurning c_NoText c_NoTable c_NoRow c_NoRoot c_NoPaper c_NoName c_NoFan c_Full : Addr} (TC : Tc K c_NoFraction c_FanError c_TooMany c_TooLong c_Open c_NotIn c_NoTurning c_NoText c_NoTable c_NoRow c_NoRoot c_NoPaper c_NoName c_NoFan c_Full) (k_common_part : Known P w K mg base 1 "common_part" f_common_part) (k_upright : Known P w K mg base 1 "upright" f_upright)  : Known P w K mg base 2 "fraction" f_fraction := by
  have nd := sc_fraction.nd
  exact Fun.known F sc_fraction hmg hb len_fraction (fun cdv A outer s H E hr => ⟨t_fraction, (qss_cons (qs_if (QW.t (qw_and (t_eq hr.units (qv 0) qint) (qw_and1 (t_eq hr.units (qv 1) qint)))) (qss_one qs_never) qss_nil) (qss_cons (qs_set 2 nd (q_call k_common_part (hr.mono (by decide)) (qa_cons (qv 0) (qa_cons (qv 1) qa_nil)))) (qss_one (qs_ret (q_call k_upright (hr.mono (by decide)) (qa_cons (q_fdiv (qv 0) (qv 2)) (qa_cons (q_fdiv (qv 1) (qv 2)) qa_nil))))))), ob_fraction⟩)
theorem kn_law_cell {fa : Addr} {fd : FuncData} (F : Fun K "_law_cell" "_law_cell" s_law_cell fa fd) (hmg : mg "_law_cell" = some (.ref fa)) (hb : Binds K fd ["_law_script", "_law_k"] []) (T : Txt mg)  {c_NoFraction c_FanError c_TooMany c_TooLong c_Open c_NotIn c_NoTurning c_NoText c_NoTable c_NoRow c_NoRoot c_NoPaper c_NoName c_NoFan c_Full : Addr} (TC : Tc K c_NoFraction c_FanError c_TooMany c_TooLong c_Open c_NotIn c_NoTurning c_NoText c_NoTable c_NoRow c_NoRoot c_NoPaper c_NoName c_NoFan c_Full)   : Known P w K mg base 1 "_law_cell" f_law_cell := by
  have nd := sc_law_cell.nd
  exact Fun.known F sc_law_cell hmg hb len_law_cell (fun cdv A outer s H E hr => ⟨t_law_cell, (qss_cons (qs_if (t_lt (qv 1) (q_len T.len (qa_cons (qv 0) qa_nil))) (qss_one (qs_ret (q_ix (qv 0) (qv 1) (fun _ _ => rfl)))) qss_nil) (qss_one (qs_ret qint))), ob_law_cell⟩)
theorem kn_law_digits {fa : Addr} {fd : FuncData} (F : Fun K "_law_digits" "_law_digits" s_law_digits fa fd) (hmg : mg "_law_digits" = some (.ref fa)) (hb : Binds K fd ["_law_cell_here", "_law_base", "_law_many"] []) (T : Txt mg)  {c_NoFraction c_FanError c_TooMany c_TooLong c_Open c_NotIn c_NoTurning c_NoText c_NoTable c_NoRow c_NoRoot c_NoPaper c_NoName c_NoFan c_Full : Addr} (TC : Tc K c_NoFraction c_FanError c_TooMany c_TooLong c_Open c_NotIn c_NoTurning c_NoText c_NoTable c_NoRow c_NoRoot c_NoPaper c_NoName c_NoFan c_Full)   : Known P w K mg base 1 "_law_digits" f_law_digits := by
  have nd := sc_law_digits.nd
  exact Fun.known F sc_law_digits hmg hb len_law_digits (fun cdv A outer s H E hr => ⟨t_law_digits, (qss_cons (qs_setOwn 3 nd (qf_lst qa_nil)) (qss_cons (qs_forR1 PassesOwn.never rfl rfl T.range (qa_cons (qv 2) qa_nil) (qg_name 4 nd) (qss_cons (qs_append 3 (q_mod (qv 0) (qv 1))) (qss_one (qs_set 0 nd (q_fdiv (qv 0) (qv 1)))))) (qss_one (qs_freeze 3 (qs_ret (qv 3)))))), ob_law_digits⟩)
theorem kn_law_mixed {fa : Addr} {fd : FuncData} (F : Fun K "_law_mixed" "_law_mixed" s_law_mixed fa fd) (hmg : mg "_law_mixed" = some (.ref fa)) (hb : Binds K fd ["_law_cell_here", "_law_base", "_law_many"] []) (T : Txt mg)  {c_NoFraction c_FanError c_TooMany c_TooLong c_Open c_NotIn c_NoTurning c_NoText c_NoTable c_NoRow c_NoRoot c_NoPaper c_NoName c_NoFan c_Full : Addr} (TC : Tc K c_NoFraction c_FanError c_TooMany c_TooLong c_Open c_NotIn c_NoTurning c_NoText c_NoTable c_NoRow c_NoRoot c_NoPaper c_NoName c_NoFan c_Full)   : Known P w K mg base 1 "_law_mixed" f_law_mixed := by
  have nd := sc_law_mixed.nd
  exact Fun.known F sc_law_mixed hmg hb len_law_mixed (fun cdv A outer s H E hr => ⟨t_law_mixed, (qss_cons (qs_setOwn 3 nd (qf_lst qa_nil)) (qss_cons (qs_forR1 PassesOwn.never rfl rfl T.range (qa_cons (qv 2) qa_nil) (qg_name 4 nd) (qss_cons (qs_set 5 nd (q_mod (q_mul (q_add (q_add (q_add (q_mod (qv 0) qint) (q_mul (q_mul qint (qv 4)) (qv 4))) (q_mul qint (qv 4))) qint) qint) qint)) (qss_cons (qs_set 6 nd (q_mod (q_mul (q_add (q_add (q_fdiv (qv 5) qint) (q_mul (q_mod (q_fdiv (qv 0) qint) qint) qint)) (qv 4)) qint) qint)) (qss_one (qs_append 3 (q_mod (q_fdiv (qv 6) qint) (qv 1))))))) (qss_one (qs_freeze 3 (qs_ret (qv 3)))))), ob_law_mixed⟩)
theorem kn_law_row {fa : Addr} {fd : FuncData} (F : Fun K "_law_row" "_law_row" s_law_row fa fd) (hmg : mg "_law_row" = some (.ref fa)) (hb : Binds K fd ["_law_cell_here", "_law_base", "_law_many"] []) (T : Txt mg)  {c_NoFraction c_FanError c_TooMany c_TooLong c_Open c_NotIn c_NoTurning c_NoText c_NoTable c_NoRow c_NoRoot c_NoPaper c_NoName c_NoFan c_Full : Addr} (TC : Tc K c_NoFraction c_FanError c_TooMany c_TooLong c_Open c_NotIn c_NoTurning c_NoText c_NoTable c_NoRow c_NoRoot c_NoPaper c_NoName c_NoFan c_Full) (k_law_digits : Known P w K mg base 1 "_law_digits" f_law_digits) (k_law_mixed : Known P w K mg base 1 "_law_mixed" f_law_mixed)  : Known P w K mg base 2 "_law_row" f_law_row := by
  have nd := sc_law_row.nd
  exact Fun.known F sc_law_row hmg hb len_law_row (fun cdv A outer s H E hr => ⟨t_law_row, (qss_cons (qs_if (t_ge (q_abs T.abs (qa_cons (qv 0) qa_nil)) (q_pow qint qint)) (qss_one (qs_ret (q_call k_law_digits (hr.mono (by decide)) (qa_cons (qv 0) (qa_cons (qv 1) (qa_cons (qv 2) qa_nil)))))) qss_nil) (qss_one (qs_ret (q_call k_law_mixed (hr.mono (by decide)) (qa_cons (qv 0) (qa_cons (qv 1) (qa_cons (qv 2) qa_nil))))))), ob_law_row⟩)
theorem kn_law_numbers {fa : Addr} {fd : FuncData} (F : Fun K "_law_numbers" "_law_numbers" s_law_numbers fa fd) (hmg : mg "_law_numbers" = some (.ref fa)) (hb : Binds K fd ["_law_cell_here"] []) (T : Txt mg)  {c_NoFraction c_FanError c_TooMany c_TooLong c_Open c_NotIn c_NoTurning c_NoText c_NoTable c_NoRow c_NoRoot c_NoPaper c_NoName c_NoFan c_Full : Addr} (TC : Tc K c_NoFraction c_FanError c_TooMany c_TooLong c_Open c_NotIn c_NoTurning c_NoText c_NoTable c_NoRow c_NoRoot c_NoPaper c_NoName c_NoFan c_Full) (k_law_row : Known P w K mg base 2 "_law_row" f_law_row)  : Known P w K mg base 3 "_law_numbers" f_law_numbers := by
  have nd := sc_law_numbers.nd
  exact Fun.known F sc_law_numbers hmg hb len_law_numbers (fun cdv A outer s H E hr => ⟨t_law_numbers, (qss_cons (qs_set 1 nd (q_call k_law_row (hr.mono (by decide)) (qa_cons (q_fdiv (qv 0) qint) (qa_cons (q_pow qint qint) (qa_cons qint qa_nil))))) (qss_cons (qs_set 2 nd (q_sub (q_mod (q_ix (qv 1) qint (fun _ _ => rfl)) (q_ix (qe_lst (qa_cons qint (qa_cons qint (qa_cons (q_pow qint qint) (qa_cons (q_pow qint qint) qa_nil))))) (q_mod (qv 0) qint) (fun _ _ => rfl))) (q_ix (qe_lst (qa_cons qint (qa_cons qint (qa_cons (q_pow qint qint) (qa_cons (q_pow qint qint) qa_nil))))) (q_mod (q_fdiv (qv 0) qint) qint) (fun _ _ => rfl)))) (qss_cons (qs_set 3 nd (q_sub (q_mod (q_ix (qv 1) qint (fun _ _ => rfl)) (q_ix (qe_lst (qa_cons qint (qa_cons qint (qa_cons (q_pow qint qint) (qa_cons (q_pow qint qint) qa_nil))))) (q_mod (q_fdiv (qv 0) qint) qint) (fun _ _ => rfl))) (q_ix (qe_lst (qa_cons qint (qa_cons qint (qa_cons (q_pow qint qint) (qa_cons (q_pow qint qint) qa_nil))))) (q_mod (q_fdiv (qv 0) qint) qint) (fun _ _ => rfl)))) (qss_cons (qs_set 4 nd (q_ix (qe_lst (qa_cons qint (qa_cons qint (qa_cons qint (qa_cons (q_add qint (q_mod (q_ix (qv 1) qint (fun _ _ => rfl)) qint)) qa_nil))))) (q_mod (q_fdiv (qv 0) qint) qint) (fun _ _ => rfl))) (qss_cons (qs_if (QW.t (qw_or (t_ge (q_abs T.abs (qa_cons (q_mul (qv 2) (qv 4)) qa_nil)) (q_pow qint qint)) (qw_or1 (t_ge (q_abs T.abs (qa_cons (q_mul (qv 3) (qv 4)) qa_nil)) (q_pow qint qint))))) (qss_one (qs_set 4 nd qint)) qss_nil) (qss_one (qs_ret (qe_tup (qa_cons (q_mul (qv 2) (qv 4)) (qa_cons (q_mul (qv 3) (qv 4)) qa_nil)))))))))), ob_law_numbers⟩)
theorem kn_law_refused {fa : Addr} {fd : FuncData} (F : Fun K "_law_refused" "_law_refused" s_law_refused fa fd) (hmg : mg "_law_refused" = some (.ref fa)) (hb : Binds K fd ["_law_p", "_law_q"] []) (T : Txt mg)  {c_NoFraction c_FanError c_TooMany c_TooLong c_Open c_NotIn c_NoTurning c_NoText c_NoTable c_NoRow c_NoRoot c_NoPaper c_NoName c_NoFan c_Full : Addr} (TC : Tc K c_NoFraction c_FanError c_TooMany c_TooLong c_Open c_NotIn c_NoTurning c_NoText c_NoTable c_NoRow c_NoRoot c_NoPaper c_NoName c_NoFan c_Full)  (kx_fraction : KnownX P w K mg base 2 "fraction" fx_fraction) : Known P w K mg base 3 "_law_refused" f_law_refused := by
  have nd := sc_law_refused.nd
  exact Fun.known F sc_law_refused hmg hb len_law_refused (fun cdv A outer s H E hr => ⟨t_law_refused, (qss_cons (qs_try 2 nd rfl rfl TC.n_NoFraction TC.e_NoFraction (q_callX kx_fraction (hr.mono (by decide)) (qa_cons (qv 0) (qa_cons (qv 1) qa_nil))) (fun _ => (qss_cons (qs_set 3 nd (q_isx "NoFraction" (.tup [.cls "Full", .cls "NoFan", .cls "NoName", .cls "NoPaper", .cls "NoRoot", .cls "NoRow", .cls "NoTable"]) false T.isinstance TC.n_NoFraction TC.o_NoFraction (.tup (.cons TC.n_Full (.cons TC.n_NoFan (.cons TC.n_NoName (.cons TC.n_NoPaper (.cons TC.n_NoRoot (.cons TC.n_NoRow (.cons TC.n_NoTable .nil))))))) TC.kt3) (qa_cons (qv 2) (qa_cons (qe_tup (qa_cons (qcls TC.n_Full) (qa_cons (qcls TC.n_NoFan) (qa_cons (qcls TC.n_NoName) (qa_cons (qcls TC.n_NoPaper) (qa_cons (qcls TC.n_NoRoot) (qa_cons (qcls TC.n_NoRow) (qa_cons (qcls TC.n_NoTable) qa_nil)))))))) qa_nil)))) (qss_cons (qs_set 3 nd (qe_or (qv 3) (qe_one (q_isx "NoFraction" (.tup [.cls "NoText", .cls "NoTurning", .cls "NotIn", .cls "Open", .cls "TooLong", .cls "TooMany"]) false T.isinstance TC.n_NoFraction TC.o_NoFraction (.tup (.cons TC.n_NoText (.cons TC.n_NoTurning (.cons TC.n_NotIn (.cons TC.n_Open (.cons TC.n_TooLong (.cons TC.n_TooMany .nil)))))) TC.kt2) (qa_cons (qv 2) (qa_cons (qe_tup (qa_cons (qcls TC.n_NoText) (qa_cons (qcls TC.n_NoTurning) (qa_cons (qcls TC.n_NotIn) (qa_cons (qcls TC.n_Open) (qa_cons (qcls TC.n_TooLong) (qa_cons (qcls TC.n_TooMany) qa_nil))))))) qa_nil)))))) (qss_one (qs_ret (qe_and (q_isx "NoFraction" (.cls "FanError") true T.isinstance TC.n_NoFraction TC.o_NoFraction (.cls TC.n_FanError TC.kt1) (qa_cons (qv 2) (qa_cons (qcls TC.n_FanError) qa_nil))) (qe_and (q_isx "NoFraction" (.ty "ValueError") true T.isinstance TC.n_NoFraction TC.o_NoFraction (.ty TC.kt0) (qa_cons (qv 2) (qa_cons (qty rfl T.ValueError boot_VE) qa_nil))) (qe_one (qe_not (qv 3))))))))))) (qss_one (qs_ret qbl))), ob_law_refused⟩)
theorem kn_law_good {fa : Addr} {fd : FuncData} (F : Fun K "_law_good" "_law_good" s_law_good fa fd) (hmg : mg "_law_good" = some (.ref fa)) (hb : Binds K fd ["_law_p", "_law_q"] []) (T : Txt mg)  {c_NoFraction c_FanError c_TooMany c_TooLong c_Open c_NotIn c_NoTurning c_NoText c_NoTable c_NoRow c_NoRoot c_NoPaper c_NoName c_NoFan c_Full : Addr} (TC : Tc K c_NoFraction c_FanError c_TooMany c_TooLong c_Open c_NotIn c_NoTurning c_NoText c_NoTable c_NoRow c_NoRoot c_NoPaper c_NoName c_NoFan c_Full) (k_law_refused : Known P w K mg base 3 "_law_refused" f_law_refused) (k_fraction : Known P w K mg base 2 "fraction" f_fraction) (k_is_fraction : Known P w K mg base 3 "is_fraction" f_is_fraction)  : Known P w K mg base 4 "_law_good" f_law_good := by
  have nd := sc_law_good.nd
  exact Fun.known F sc_law_good hmg hb len_law_good (fun cdv A outer s H E hr => ⟨t_law_good, (qss_cons (qs_if (QW.t (qw_and (t_eq hr.units (qv 0) qint) (qw_and1 (t_eq hr.units (qv 1) qint)))) (qss_one (qs_ret (q_call k_law_refused (hr.mono (by decide)) (qa_cons (qv 0) (qa_cons (qv 1) qa_nil))))) qss_nil) (qss_cons (qs_set 2 nd (q_call k_fraction (hr.mono (by decide)) (qa_cons (qv 0) (qa_cons (qv 1) qa_nil)))) (qss_cons (qs_if (QW.t (qw_or (t_isn (q_call k_is_fraction (hr.mono (by decide)) (qa_cons (qv 2) qa_nil)) qbl) (qw_or1 (t_ne hr.units (q_mul (q_ix (qv 2) qint (fun _ _ => rfl)) (qv 1)) (q_mul (q_ix (qv 2) qint (fun _ _ => rfl)) (qv 0)))))) (qss_one (qs_ret qbl)) qss_nil) (qss_one (qs_ret (qe_and (q_eq hr.units (q_call k_fraction (hr.mono (by decide)) (qa_cons (q_ix (qv 2) qint (fun _ _ => rfl)) (qa_cons (q_ix (qv 2) qint (fun _ _ => rfl)) qa_nil))) (qv 2)) (qe_one (q_eq hr.units (q_call k_fraction (hr.mono (by decide)) (qa_cons (q_sub qint (qv 0)) (qa_cons (q_sub qint (qv 1)) qa_nil))) (qv 2))))))))), ob_law_good⟩)
theorem kn_law {fa : Addr} {fd : FuncData} (F : Fun K "law" "law" s_law fa fd) (T : Txt mg)  {c_NoFraction c_FanError c_TooMany c_TooLong c_Open c_NotIn c_NoTurning c_NoText c_NoTable c_NoRow c_NoRoot c_NoPaper c_NoName c_NoFan c_Full : Addr} (TC : Tc K c_NoFraction c_FanError c_TooMany c_TooLong c_Open c_NotIn c_NoTurning c_NoText c_NoTable c_NoRow c_NoRoot c_NoPaper c_NoName c_NoFan c_Full) (k_law_cell : Known P w K mg base 1 "_law_cell" f_law_cell) (k_law_good : Known P w K mg base 4 "_law_good" f_law_good) (k_law_numbers : Known P w K mg base 3 "_law_numbers" f_law_numbers)  : FnOk P w K mg base CX0 5 fa fd ["_law_script"] (spF K (fLaw 63)) := by
  have nd := sc_law.nd
  exact Fun.fnok F sc_law len_law (fun cdv A outer s H E hr => ⟨t_law, (qss_cons (qs_for PassesOwn.never rfl (q_add (qe_lst (qa_cons (q_call k_law_cell (hr.mono (by decide)) (qa_cons (qv 0) (qa_cons qint qa_nil))) qa_nil)) (q_sl (qv 0) (qo_some qint) (qo_some qint))) (qg_name 1 nd) (qss_cons (qs_asg (q_call k_law_numbers (hr.mono (by decide)) (qa_cons (qv 1) qa_nil)) (qg_tup rfl (qgs_cons (qg_name 2 nd) (qgs_cons (qg_name 3 nd) qgs_nil)))) (qss_one (qs_if (qt_not (qt_val (q_call k_law_good (hr.mono (by decide)) (qa_cons (qv 2) (qa_cons (qv 3) qa_nil))))) (qss_one (qs_ret qbl)) qss_nil)))) (qss_one (qs_ret (qe_and (q_call k_law_good (hr.mono (by decide)) (qa_cons qint (qa_cons qint qa_nil))) (qe_and (q_call k_law_good (hr.mono (by decide)) (qa_cons qint (qa_cons qint qa_nil))) (qe_and (q_call k_law_good (hr.mono (by decide)) (qa_cons (q_neg qint) (qa_cons qint qa_nil))) (qe_one (q_call k_law_good (hr.mono (by decide)) (qa_cons qint (qa_cons (q_neg qint) qa_nil)))))))))), ob_law⟩)
theorem knx_fraction {fa : Addr} {fd : FuncData} (F : Fun K "fraction" "fraction" s_fraction fa fd) (hmg : mg "fraction" = some (.ref fa)) (hb : Binds K fd ["p", "q"] []) (T : Txt mg)  {c_NoFraction c_FanError c_TooMany c_TooLong c_Open c_NotIn c_NoTurning c_NoText c_NoTable c_NoRow c_NoRoot c_NoPaper c_NoName c_NoFan c_Full : Addr} (TC : Tc K c_NoFraction c_FanError c_TooMany c_TooLong c_Open c_NotIn c_NoTurning c_NoText c_NoTable c_NoRow c_NoRoot c_NoPaper c_NoName c_NoFan c_Full) (k_common_part : Known P w K mg base 1 "common_part" f_common_part) (k_upright : Known P w K mg base 1 "upright" f_upright)  : KnownX P w K mg base 2 "fraction" fx_fraction := by
  have nd := sc_fraction.nd
  exact Fun.knownX F sc_fraction hmg hb lenx_fraction (fun cdv A outer s H E hr => ⟨tx_fraction, (qzs_cons (qz_if (QW.t (qw_and (t_eq hr.units (qv 0) qint) (qw_and1 (t_eq hr.units (qv 1) qint)))) (qzs_one (qz_raiseK TC.n_NoFraction TC.e_NoFraction (qa_cons qstr qa_nil))) (qzs_up qss_nil)) (qzs_cons (qz_up (qs_set 2 nd (q_call k_common_part (hr.mono (by decide)) (qa_cons (qv 0) (qa_cons (qv 1) qa_nil))))) (qzs_one (qz_up (qs_ret (q_call k_upright (hr.mono (by decide)) (qa_cons (q_fdiv (qv 0) (qv 2)) (qa_cons (q_fdiv (qv 1) (qv 2)) qa_nil)))))))), obx_fraction⟩)
end
theorem all_mk {l : PySem.W.OpenLaw} {w : World} {K : PySem.W.Frag} {h : Heap} {mg : Str → Option Value} {fa f1 f2 f3 f4 f5 f6 f7 f8 f9 f10 f11 f12 f13 f14 c_NoFraction c_FanError c_TooMany c_TooLong c_Open c_NotIn c_NoTurning c_NoText c_NoTable c_NoRow c_NoRoot c_NoPaper c_NoName c_NoFan c_Full : Addr} (X : K.In h) (G : h.Ns mainGlobals mg) (hfa : mg "law" = some (.ref fa))
    {od1 an1 od2 an2 od3 an3 od4 an4 od5 an5 od6 an6 od7 an7 od8 an8 od9 an9 od10 an10 od11 an11 od12 an12 od13 an13 od14 an14 : Option Addr} {sl1 sl2 sl3 sl4 sl5 sl6 sl7 sl8 sl9 sl10 sl11 sl12 sl13 sl14 : Array (Option Value)} {oc1 kV1 dc1 pm1 cd1 ct1 oc2 kV2 dc2 pm2 cd2 ct2 oc3 kV3 dc3 pm3 cd3 ct3 oc4 kV4 dc4 pm4 cd4 ct4 oc5 kV5 dc5 pm5 cd5 ct5 oc6 kV6 dc6 pm6 cd6 ct6 oc7 kV7 dc7 pm7 cd7 ct7 oc8 kV8 dc8 pm8 cd8 ct8 oc9 kV9 dc9 pm9 cd9 ct9 oc10 kV10 dc10 pm10 cd10 ct10 oc11 kV11 dc11 pm11 cd11 ct11 oc12 kV12 dc12 pm12 cd12 ct12 oc13 kV13 dc13 pm13 cd13 ct13 oc14 kV14 dc14 pm14 cd14 ct14 : Value}
    (a1 : PySem.W.nsIn K mainGlobals "is_whole" = some (some (.ref f1))) (l1 : K.lookup f1 = some ⟨oc1, od1, .func (PySem.W.fnOf "is_whole" "is_whole" (defArgs s_is_whole) (defBody s_is_whole) (defScope s_is_whole) .none kV1 dc1 pm1 an1 cd1 ct1), sl1⟩) (c1 : PySem.W.codeIn K cd1 "is_whole" = true) (k1 : PySem.W.keepIn K (.ref f1) = true)
    (a2 : PySem.W.nsIn K mainGlobals "are_wholes" = some (some (.ref f2))) (l2 : K.lookup f2 = some ⟨oc2, od2, .func (PySem.W.fnOf "are_wholes" "are_wholes" (defArgs s_are_wholes) (defBody s_are_wholes) (defScope s_are_wholes) .none kV2 dc2 pm2 an2 cd2 ct2), sl2⟩) (c2 : PySem.W.codeIn K cd2 "are_wholes" = true) (k2 : PySem.W.keepIn K (.ref f2) = true)
    (a3 : PySem.W.nsIn K mainGlobals "common_part" = some (some (.ref f3))) (l3 : K.lookup f3 = some ⟨oc3, od3, .func (PySem.W.fnOf "common_part" "common_part" (defArgs s_common_part) (defBody s_common_part) (defScope s_common_part) .none kV3 dc3 pm3 an3 cd3 ct3), sl3⟩) (c3 : PySem.W.codeIn K cd3 "common_part" = true) (k3 : PySem.W.keepIn K (.ref f3) = true)
    (a4 : PySem.W.nsIn K mainGlobals "upright" = some (some (.ref f4))) (l4 : K.lookup f4 = some ⟨oc4, od4, .func (PySem.W.fnOf "upright" "upright" (defArgs s_upright) (defBody s_upright) (defScope s_upright) .none kV4 dc4 pm4 an4 cd4 ct4), sl4⟩) (c4 : PySem.W.codeIn K cd4 "upright" = true) (k4 : PySem.W.keepIn K (.ref f4) = true)
    (a5 : PySem.W.nsIn K mainGlobals "is_fraction" = some (some (.ref f5))) (l5 : K.lookup f5 = some ⟨oc5, od5, .func (PySem.W.fnOf "is_fraction" "is_fraction" (defArgs s_is_fraction) (defBody s_is_fraction) (defScope s_is_fraction) .none kV5 dc5 pm5 an5 cd5 ct5), sl5⟩) (c5 : PySem.W.codeIn K cd5 "is_fraction" = true) (k5 : PySem.W.keepIn K (.ref f5) = true)
    (a6 : PySem.W.nsIn K mainGlobals "fraction" = some (some (.ref f6))) (l6 : K.lookup f6 = some ⟨oc6, od6, .func (PySem.W.fnOf "fraction" "fraction" (defArgs s_fraction) (defBody s_fraction) (defScope s_fraction) .none kV6 dc6 pm6 an6 cd6 ct6), sl6⟩) (c6 : PySem.W.codeIn K cd6 "fraction" = true) (k6 : PySem.W.keepIn K (.ref f6) = true)
    (a7 : PySem.W.nsIn K mainGlobals "_law_cell" = some (some (.ref f7))) (l7 : K.lookup f7 = some ⟨oc7, od7, .func (PySem.W.fnOf "_law_cell" "_law_cell" (defArgs s_law_cell) (defBody s_law_cell) (defScope s_law_cell) .none kV7 dc7 pm7 an7 cd7 ct7), sl7⟩) (c7 : PySem.W.codeIn K cd7 "_law_cell" = true) (k7 : PySem.W.keepIn K (.ref f7) = true)
    (a8 : PySem.W.nsIn K mainGlobals "_law_digits" = some (some (.ref f8))) (l8 : K.lookup f8 = some ⟨oc8, od8, .func (PySem.W.fnOf "_law_digits" "_law_digits" (defArgs s_law_digits) (defBody s_law_digits) (defScope s_law_digits) .none kV8 dc8 pm8 an8 cd8 ct8), sl8⟩) (c8 : PySem.W.codeIn K cd8 "_law_digits" = true) (k8 : PySem.W.keepIn K (.ref f8) = true)
    (a9 : PySem.W.nsIn K mainGlobals "_law_mixed" = some (some (.ref f9))) (l9 : K.lookup f9 = some ⟨oc9, od9, .func (PySem.W.fnOf "_law_mixed" "_law_mixed" (defArgs s_law_mixed) (defBody s_law_mixed) (defScope s_law_mixed) .none kV9 dc9 pm9 an9 cd9 ct9), sl9⟩) (c9 : PySem.W.codeIn K cd9 "_law_mixed" = true) (k9 : PySem.W.keepIn K (.ref f9) = true)
    (a10 : PySem.W.nsIn K mainGlobals "_law_row" = some (some (.ref f10))) (l10 : K.lookup f10 = some ⟨oc10, od10, .func (PySem.W.fnOf "_law_row" "_law_row" (defArgs s_law_row) (defBody s_law_row) (defScope s_law_row) .none kV10 dc10 pm10 an10 cd10 ct10), sl10⟩) (c10 : PySem.W.codeIn K cd10 "_law_row" = true) (k10 : PySem.W.keepIn K (.ref f10) = true)
    (a11 : PySem.W.nsIn K mainGlobals "_law_numbers" = some (some (.ref f11))) (l11 : K.lookup f11 = some ⟨oc11, od11, .func (PySem.W.fnOf "_law_numbers" "_law_numbers" (defArgs s_law_numbers) (defBody s_law_numbers) (defScope s_law_numbers) .none kV11 dc11 pm11 an11 cd11 ct11), sl11⟩) (c11 : PySem.W.codeIn K cd11 "_law_numbers" = true) (k11 : PySem.W.keepIn K (.ref f11) = true)
    (a12 : PySem.W.nsIn K mainGlobals "_law_refused" = some (some (.ref f12))) (l12 : K.lookup f12 = some ⟨oc12, od12, .func (PySem.W.fnOf "_law_refused" "_law_refused" (defArgs s_law_refused) (defBody s_law_refused) (defScope s_law_refused) .none kV12 dc12 pm12 an12 cd12 ct12), sl12⟩) (c12 : PySem.W.codeIn K cd12 "_law_refused" = true) (k12 : PySem.W.keepIn K (.ref f12) = true)
    (a13 : PySem.W.nsIn K mainGlobals "_law_good" = some (some (.ref f13))) (l13 : K.lookup f13 = some ⟨oc13, od13, .func (PySem.W.fnOf "_law_good" "_law_good" (defArgs s_law_good) (defBody s_law_good) (defScope s_law_good) .none kV13 dc13 pm13 an13 cd13 ct13), sl13⟩) (c13 : PySem.W.codeIn K cd13 "_law_good" = true) (k13 : PySem.W.keepIn K (.ref f13) = true)
    (a14 : PySem.W.nsIn K mainGlobals "law" = some (some (.ref f14))) (l14 : K.lookup f14 = some ⟨oc14, od14, .func (PySem.W.fnOf "law" "law" (defArgs s_law) (defBody s_law) (defScope s_law) .none kV14 dc14 pm14 an14 cd14 ct14), sl14⟩) (c14 : PySem.W.codeIn K cd14 "law" = true) (k14 : PySem.W.keepIn K (.ref f14) = true)
    (z0 : PySem.W.nsIn K mainGlobals "ValueError" = some none)
    (z1 : PySem.W.nsIn K mainGlobals "abs" = some none)
    (z2 : PySem.W.nsIn K mainGlobals "all" = some none)
    (z3 : PySem.W.nsIn K mainGlobals "bool" = some none)
    (z4 : PySem.W.nsIn K mainGlobals "int" = some none)
    (z5 : PySem.W.nsIn K mainGlobals "isinstance" = some none)
    (z6 : PySem.W.nsIn K mainGlobals "len" = some none)
    (z7 : PySem.W.nsIn K mainGlobals "range" = some none)
    (z8 : PySem.W.nsIn K mainGlobals "tuple" = some none)
    (n_NoFraction : PySem.W.nsIn K mainGlobals "NoFraction" = some (some (.ref c_NoFraction)))
    (n_FanError : PySem.W.nsIn K mainGlobals "FanError" = some (some (.ref c_FanError)))
    (n_TooMany : PySem.W.nsIn K mainGlobals "TooMany" = some (some (.ref c_TooMany)))
    (n_TooLong : PySem.W.nsIn K mainGlobals "TooLong" = some (some (.ref c_TooLong)))
    (n_Open : PySem.W.nsIn K mainGlobals "Open" = some (some (.ref c_Open)))
    (n_NotIn : PySem.W.nsIn K mainGlobals "NotIn" = some (some (.ref c_NotIn)))
    (n_NoTurning : PySem.W.nsIn K mainGlobals "NoTurning" = some (some (.ref c_NoTurning)))
    (n_NoText : PySem.W.nsIn K mainGlobals "NoText" = some (some (.ref c_NoText)))
    (n_NoTable : PySem.W.nsIn K mainGlobals "NoTable" = some (some (.ref c_NoTable)))
    (n_NoRow : PySem.W.nsIn K mainGlobals "NoRow" = some (some (.ref c_NoRow)))
    (n_NoRoot : PySem.W.nsIn K mainGlobals "NoRoot" = some (some (.ref c_NoRoot)))
    (n_NoPaper : PySem.W.nsIn K mainGlobals "NoPaper" = some (some (.ref c_NoPaper)))
    (n_NoName : PySem.W.nsIn K mainGlobals "NoName" = some (some (.ref c_NoName)))
    (n_NoFan : PySem.W.nsIn K mainGlobals "NoFan" = some (some (.ref c_NoFan)))
    (n_Full : PySem.W.nsIn K mainGlobals "Full" = some (some (.ref c_Full)))
    (e_NoFraction : PySem.W.excIn K c_NoFraction [.type "ValueError", .type "Exception", .type "BaseException", .type "object"] "ValueError.__new__" = true)
    (o1_NoFraction : PySem.W.findIn K (.ref c_NoFraction) "__getattribute__" = some (some (.builtin "BaseException.__getattribute__")))
    (o2_NoFraction : PySem.W.findIn K (.ref c_NoFraction) "__getattr__" = some none)
    (o3_NoFraction : PySem.W.hasDictIn K c_NoFraction = true)
    (o4_NoFraction : PySem.W.findIn K (.ref c_NoFraction) "__class__" = some (some (.builtin "object.__class__")))
    (o5_NoFraction : PySem.W.specialIn K (.builtin "object.__class__") "__get__" = some (some (.builtin "getset_descriptor.__get__")))
    (o6_NoFraction : PySem.W.takesIn K (.builtin "object.__class__") = some true)
    (o7_NoFraction : PySem.W.mroIn K c_NoFraction (.type "object") = some true)
    (o8_NoFraction : PySem.W.subIn K (.ref c_NoFraction) (.type "BaseException") = some true)
    (kt0 : PySem.W.kitOne K (.ref c_NoFraction) (.type "ValueError") = some true)
    (kt1 : PySem.W.kitOne K (.ref c_NoFraction) (.ref c_FanError) = some true)
    (kt2 : PySem.W.kitAny K (.ref c_NoFraction) [.ref c_NoText, .ref c_NoTurning, .ref c_NotIn, .ref c_Open, .ref c_TooLong, .ref c_TooMany] = some false)
    (kt3 : PySem.W.kitAny K (.ref c_NoFraction) [.ref c_Full, .ref c_NoFan, .ref c_NoName, .ref c_NoPaper, .ref c_NoRoot, .ref c_NoRow, .ref c_NoTable] = some false)
    : ∃ fd : FuncData, (∀ (s : Shared) (v : Value), BindsTo s fd ⟨[v], []⟩ [("_law_script", v)]) ∧ ∀ base : Heap, K.In base → base.Ns mainGlobals mg → FnOk l.prog w K mg base CX0 5 fa fd ["_law_script"] (spF K (fLaw 63)) := by
  have e := hfa.symm.trans (PySem.W.mg_of X G a14)
  cases e
  have T : Txt mg := ⟨PySem.W.mg_none_of X G z0, PySem.W.mg_none_of X G z1, PySem.W.mg_none_of X G z2, PySem.W.mg_none_of X G z3, PySem.W.mg_none_of X G z4, PySem.W.mg_none_of X G z5, PySem.W.mg_none_of X G z6, PySem.W.mg_none_of X G z7, PySem.W.mg_none_of X G z8⟩
  have TC : Tc K c_NoFraction c_FanError c_TooMany c_TooLong c_Open c_NotIn c_NoTurning c_NoText c_NoTable c_NoRow c_NoRoot c_NoPaper c_NoName c_NoFan c_Full := ⟨n_NoFraction, n_FanError, n_TooMany, n_TooLong, n_Open, n_NotIn, n_NoTurning, n_NoText, n_NoTable, n_NoRow, n_NoRoot, n_NoPaper, n_NoName, n_NoFan, n_Full, e_NoFraction, o1_NoFraction, o2_NoFraction, o3_NoFraction, o4_NoFraction, o5_NoFraction, o6_NoFraction, o7_NoFraction, o8_NoFraction, kt0, kt1, kt2, kt3⟩
  have F1 := fun_mk (st := s_is_whole) l1 c1 k1
  have b1 := F1.binds (ps := ["thing"]) fun _ _ _ _ _ _ us hl => match us, hl with | [_], _ => rfl
  have F2 := fun_mk (st := s_are_wholes) l2 c2 k2
  have b2 := F2.binds (ps := ["thing", "many"]) fun _ _ _ _ _ _ us hl => match us, hl with | [_, _], _ => rfl
  have F3 := fun_mk (st := s_common_part) l3 c3 k3
  have b3 := F3.binds (ps := ["p", "q"]) fun _ _ _ _ _ _ us hl => match us, hl with | [_, _], _ => rfl
  have F4 := fun_mk (st := s_upright) l4 c4 k4
  have b4 := F4.binds (ps := ["p", "q"]) fun _ _ _ _ _ _ us hl => match us, hl with | [_, _], _ => rfl
  have F5 := fun_mk (st := s_is_fraction) l5 c5 k5
  have b5 := F5.binds (ps := ["thing"]) fun _ _ _ _ _ _ us hl => match us, hl with | [_], _ => rfl
  have F6 := fun_mk (st := s_fraction) l6 c6 k6
  have b6 := F6.binds (ps := ["p", "q"]) fun _ _ _ _ _ _ us hl => match us, hl with | [_, _], _ => rfl
  have F7 := fun_mk (st := s_law_cell) l7 c7 k7
  have b7 := F7.binds (ps := ["_law_script", "_law_k"]) fun _ _ _ _ _ _ us hl => match us, hl with | [_, _], _ => rfl
  have F8 := fun_mk (st := s_law_digits) l8 c8 k8
  have b8 := F8.binds (ps := ["_law_cell_here", "_law_base", "_law_many"]) fun _ _ _ _ _ _ us hl => match us, hl with | [_, _, _], _ => rfl
  have F9 := fun_mk (st := s_law_mixed) l9 c9 k9
  have b9 := F9.binds (ps := ["_law_cell_here", "_law_base", "_law_many"]) fun _ _ _ _ _ _ us hl => match us, hl with | [_, _, _], _ => rfl
  have F10 := fun_mk (st := s_law_row) l10 c10 k10
  have b10 := F10.binds (ps := ["_law_cell_here", "_law_base", "_law_many"]) fun _ _ _ _ _ _ us hl => match us, hl with | [_, _, _], _ => rfl
  have F11 := fun_mk (st := s_law_numbers) l11 c11 k11
  have b11 := F11.binds (ps := ["_law_cell_here"]) fun _ _ _ _ _ _ us hl => match us, hl with | [_], _ => rfl
  have F12 := fun_mk (st := s_law_refused) l12 c12 k12
  have b12 := F12.binds (ps := ["_law_p", "_law_q"]) fun _ _ _ _ _ _ us hl => match us, hl with | [_, _], _ => rfl
  have F13 := fun_mk (st := s_law_good) l13 c13 k13
  have b13 := F13.binds (ps := ["_law_p", "_law_q"]) fun _ _ _ _ _ _ us hl => match us, hl with | [_, _], _ => rfl
  have F14 := fun_mk (st := s_law) l14 c14 k14
  have b14 := F14.binds (ps := ["_law_script"]) fun _ _ _ _ _ _ us hl => match us, hl with | [_], _ => rfl
  refine ⟨PySem.W.fnOf "law" "law" (defArgs s_law) (defBody s_law) (defScope s_law) .none kV14 dc14 pm14 an14 cd14 ct14, fun s v => .of_eq rfl, fun base _ _ => ?_⟩
  have k_is_whole := kn_is_whole (P := l.prog) (w := w) (base := base) F1 (PySem.W.mg_of X G a1) b1 T TC
  have k_are_wholes := kn_are_wholes (P := l.prog) (w := w) (base := base) F2 (PySem.W.mg_of X G a2) b2 T TC k_is_whole
  have k_common_part := kn_common_part (P := l.prog) (w := w) (base := base) F3 (PySem.W.mg_of X G a3) b3 T TC
  have k_upright := kn_upright (P := l.prog) (w := w) (base := base) F4 (PySem.W.mg_of X G a4) b4 T TC
  have k_is_fraction := kn_is_fraction (P := l.prog) (w := w) (base := base) F5 (PySem.W.mg_of X G a5) b5 T TC k_are_wholes k_common_part k_upright
  have k_fraction := kn_fraction (P := l.prog) (w := w) (base := base) F6 (PySem.W.mg_of X G a6) b6 T TC k_common_part k_upright
  have kx_fraction := knx_fraction (P := l.prog) (w := w) (base := base) F6 (PySem.W.mg_of X G a6) b6 T TC k_common_part k_upright
  have k_law_cell := kn_law_cell (P := l.prog) (w := w) (base := base) F7 (PySem.W.mg_of X G a7) b7 T TC
  have k_law_digits := kn_law_digits (P := l.prog) (w := w) (base := base) F8 (PySem.W.mg_of X G a8) b8 T TC
  have k_law_mixed := kn_law_mixed (P := l.prog) (w := w) (base := base) F9 (PySem.W.mg_of X G a9) b9 T TC
  have k_law_row := kn_law_row (P := l.prog) (w := w) (base := base) F10 (PySem.W.mg_of X G a10) b10 T TC k_law_digits k_law_mixed
  have k_law_numbers := kn_law_numbers (P := l.prog) (w := w) (base := base) F11 (PySem.W.mg_of X G a11) b11 T TC k_law_row
  have k_law_refused := kn_law_refused (P := l.prog) (w := w) (base := base) F12 (PySem.W.mg_of X G a12) b12 T TC  kx_fraction
  have k_law_good := kn_law_good (P := l.prog) (w := w) (base := base) F13 (PySem.W.mg_of X G a13) b13 T TC k_law_refused k_fraction k_is_fraction
  exact kn_law F14 T TC k_law_cell k_law_good k_law_numbers
end K02
open PySem PySem.W PyProof.Rows
set_option maxRecDepth 100000 in
set_option maxHeartbeats 0 in
theorem PySem.Challenge.cw_fanglue_k02_fractions_made_holds : PySem.Challenge.rw_fanglue_k02_fractions_made.Holds := by
  w_on; o_law; k_head; (case hw => w_witness2)
  k_fill
  refine L2.walk_of (l := PySem.Challenge.rw_fanglue_k02_fractions_made) (n := 63) (k := 5) (x := "_law_script") (CX := fun _ => L2.CX0) (sp := fun w => L2.L3.spF _ (L2.L3.fLaw 63)) rfl (by decide) rfl ⟨rfl, by decide, by decide⟩ (fun w h Y => PySem.W.kIn_of Y) ?F (fun _ _ a ns hl _ hS => L2.L3.law_sp hl hS) (fun _ _ _ _ _ z => z)
  case F =>
    intro w mg fa h KX G hmg
    refine' K02.all_mk KX G hmg ?a1 ?l1 ?c1 ?k1 ?a2 ?l2 ?c2 ?k2 ?a3 ?l3 ?c3 ?k3 ?a4 ?l4 ?c4 ?k4 ?a5 ?l5 ?c5 ?k5 ?a6 ?l6 ?c6 ?k6 ?a7 ?l7 ?c7 ?k7 ?a8 ?l8 ?c8 ?k8 ?a9 ?l9 ?c9 ?k9 ?a10 ?l10 ?c10 ?k10 ?a11 ?l11 ?c11 ?k11 ?a12 ?l12 ?c12 ?k12 ?a13 ?l13 ?c13 ?k13 ?a14 ?l14 ?c14 ?k14 ?z0 ?z1 ?z2 ?z3 ?z4 ?z5 ?z6 ?z7 ?z8 ?n_NoFraction ?n_FanError ?n_TooMany ?n_TooLong ?n_Open ?n_NotIn ?n_NoTurning ?n_NoText ?n_NoTable ?n_NoRow ?n_NoRoot ?n_NoPaper ?n_NoName ?n_NoFan ?n_Full ?e_NoFraction ?o1_NoFraction ?o2_NoFraction ?o3_NoFraction ?o4_NoFraction ?o5_NoFraction ?o6_NoFraction ?o7_NoFraction ?o8_NoFraction ?kt0 ?kt1 ?kt2 ?kt3
    (case a1 => k_is)
    (case l1 => k_is)
    (case c1 => k_is)
    (case k1 => k_is)
    (case a2 => k_is)
    (case l2 => k_is)
    (case c2 => k_is)
    (case k2 => k_is)
    (case a3 => k_is)
    (case l3 => k_is)
    (case c3 => k_is)
    (case k3 => k_is)
    (case a4 => k_is)
    (case l4 => k_is)
    (case c4 => k_is)
    (case k4 => k_is)
    (case a5 => k_is)
    (case l5 => k_is)
    (case c5 => k_is)
    (case k5 => k_is)
    (case a6 => k_is)
    (case l6 => k_is)
    (case c6 => k_is)
    (case k6 => k_is)
    (case a7 => k_is)
    (case l7 => k_is)
    (case c7 => k_is)
    (case k7 => k_is)
    (case a8 => k_is)
    (case l8 => k_is)
    (case c8 => k_is)
    (case k8 => k_is)
    (case a9 => k_is)
    (case l9 => k_is)
    (case c9 => k_is)
    (case k9 => k_is)
    (case a10 => k_is)
    (case l10 => k_is)
    (case c10 => k_is)
    (case k10 => k_is)
    (case a11 => k_is)
    (case l11 => k_is)
    (case c11 => k_is)
    (case k11 => k_is)
    (case a12 => k_is)
    (case l12 => k_is)
    (case c12 => k_is)
    (case k12 => k_is)
    (case a13 => k_is)
    (case l13 => k_is)
    (case c13 => k_is)
    (case k13 => k_is)
    (case a14 => k_is)
    (case l14 => k_is)
    (case c14 => k_is)
    (case k14 => k_is)
    (case z0 => k_is)
    (case z1 => k_is)
    (case z2 => k_is)
    (case z3 => k_is)
    (case z4 => k_is)
    (case z5 => k_is)
    (case z6 => k_is)
    (case z7 => k_is)
    (case z8 => k_is)
    (case n_NoFraction => k_is)
    (case n_FanError => k_is)
    (case n_TooMany => k_is)
    (case n_TooLong => k_is)
    (case n_Open => k_is)
    (case n_NotIn => k_is)
    (case n_NoTurning => k_is)
    (case n_NoText => k_is)
    (case n_NoTable => k_is)
    (case n_NoRow => k_is)
    (case n_NoRoot => k_is)
    (case n_NoPaper => k_is)
    (case n_NoName => k_is)
    (case n_NoFan => k_is)
    (case n_Full => k_is)
    (case e_NoFraction => k_exc)
    (case o1_NoFraction => k_is)
    (case o2_NoFraction => k_is)
    (case o3_NoFraction => k_is)
    (case o4_NoFraction => k_is)
    (case o5_NoFraction => k_is)
    (case o6_NoFraction => k_is)
    (case o7_NoFraction => k_is)
    (case o8_NoFraction => k_is)
    (case kt0 => kit_is)
    (case kt1 => kit_is)
    (case kt2 => kit_is)
    (case kt3 => kit_is)
