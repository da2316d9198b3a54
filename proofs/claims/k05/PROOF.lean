import PyProof.Rows.All
import Wide.All
import OpenK.AllK
import Wide.FinOn
import Lean
import PyProof.EqAt
import PyProof.EqKinds
import PyProof.TupleCall
import KE.KRevIter
import KE.KDictList
import KE.KIntText
import PySem.Challenge.RW_standup_k05_determinants
set_option Elab.async false
set_option linter.all false
set_option maxRecDepth 100000
namespace L2
open PySem PySem.Spec PyProof.Rows
abbrev Key := Sum Int Str
def keyIs : Key → Value → Bool
  | .inl k, v => Value.isInt k v
  | .inr x, v => Value.isStrOf x v
def keyH (w : World) : Key → Int
  | .inl k => hashInt k
  | .inr x => hashStr w x
theorem keyIs_shape : ∀ {k : Key} {v : Value}, keyIs k v = true → (∃ i t, k = Sum.inl i ∧ v = Value.int i t) ∨ (∃ x t, k = Sum.inr x ∧ v = Value.str x t)
  | .inl i, v, h => by
    obtain ⟨t, e⟩ := Value.isInt_shape (k := i) (v := v) h
    exact .inl ⟨i, t, rfl, e⟩
  | .inr x, v, h => by
    obtain ⟨t, e⟩ := Value.isStrOf_shape (x := x) (v := v) h
    exact .inr ⟨x, t, rfl, e⟩
theorem key_ll (a b : Int) : decide ((Sum.inl a : Key) = Sum.inl b) = (a == b) := by
  by_cases e : a = b
  · subst e; simp
  · have h : ¬ (Sum.inl a : Key) = Sum.inl b := fun q => e (Sum.inl.inj q)
    rw [decide_eq_false h]
    exact (beq_eq_false_iff_ne.mpr e).symm
theorem key_rr (a b : Str) : decide ((Sum.inr a : Key) = Sum.inr b) = decide (a = b) := by
  by_cases e : a = b
  · subst e; simp
  · have h : ¬ (Sum.inr a : Key) = Sum.inr b := fun q => e (Sum.inr.inj q)
    rw [decide_eq_false h, decide_eq_false e]
theorem key_lr (a : Int) (b : Str) : decide ((Sum.inl a : Key) = Sum.inr b) = false := decide_eq_false (fun q => nomatch q)
theorem key_rl (a : Str) (b : Int) : decide ((Sum.inr a : Key) = Sum.inl b) = false := decide_eq_false (fun q => nomatch q)
def mixKind (prog : Program) (w : World) : PySem.KeyKind prog w Key where
  is := keyIs
  hash := keyH w
  inj := fun v a b ha hb => by
    rcases keyIs_shape ha with ⟨i, t, rfl, rfl⟩ | ⟨x, t, rfl, rfl⟩
    · rcases keyIs_shape hb with ⟨j, u, rfl, e⟩ | ⟨y, u, rfl, e⟩
      · injection e with e1 _; rw [e1]
      · exact nomatch e
    · rcases keyIs_shape hb with ⟨j, u, rfl, e⟩ | ⟨y, u, rfl, e⟩
      · exact nomatch e
      · injection e with e1 _; rw [e1]
  byValue := fun k v h => by
    rcases keyIs_shape h with ⟨i, t, rfl, rfl⟩ | ⟨x, t, rfl, rfl⟩ <;> rfl
  pyHash := fun hv h => by
    rcases keyIs_shape hv with ⟨i, t, rfl, rfl⟩ | ⟨x, t, rfl, rfl⟩
    · exact wpAny_pyHash_int h
    · exact wpAny_pyHash_str h
  eqBool := fun hu hv h => by
    rcases keyIs_shape hu with ⟨i, t, rfl, rfl⟩ | ⟨x, t, rfl, rfl⟩
    · rcases keyIs_shape hv with ⟨j, u, rfl, rfl⟩ | ⟨y, u, rfl, rfl⟩
      · rw [key_ll] at h; exact wpAny_eqBool_int h
      · rw [key_lr] at h; exact SeqAt.EqAt.int_str i t y u _ _ _ _ h
    · rcases keyIs_shape hv with ⟨j, u, rfl, rfl⟩ | ⟨y, u, rfl, rfl⟩
      · rw [key_rl] at h; exact SeqAt.EqAt.str_int x t j u _ _ _ _ h
      · rw [key_rr] at h; exact wpAny_eqBool_str h
  «strs» := fun k x t v h => by
    rcases keyIs_shape h with ⟨i, u, rfl, e⟩ | ⟨y, u, rfl, e⟩
    · exact nomatch e
    · injection e with e1 _
      subst e1
      cases v <;> rfl
end L2
namespace L2
open PySem PySem.Spec PyProof.Rows
inductive V where
  | non | bl (b : Bool) | int (i : Int) | str (x : Str) | byt (b : Array UInt8) | flt (b : UInt64) | ref (a : Addr) | ty (n : String)
  deriving DecidableEq
def RelV : V → Value → Prop
  | .non, u => u = Value.none
  | .bl b, u => u = Value.bool b
  | .int i, u => ∃ t, u = Value.int i t
  | .str x, u => ∃ t, u = Value.str x t
  | .byt b, u => ∃ t, u = Value.bytes b t
  | .flt b, u => ∃ t, u = Value.float b t
  | .ref a, u => u = Value.ref a
  | .ty n, u => u = Value.type n
abbrev Vals : List V → List Value → Prop := Paired RelV
theorem Vals.length {xs : List V} {us : List Value} (r : Vals xs us) : xs.length = us.length := Paired.length r
theorem Vals.get : ∀ {xs : List V} {us : List Value} {i : Nat} {x : V}, Vals xs us → xs[i]? = some x → ∃ u, us[i]? = some u ∧ RelV x u
  | _, _, _, _, .nil, e => by simp at e
  | _, _, 0, _, .cons r _, e => by simp at e; subst e; exact ⟨_, rfl, r⟩
  | _, _, i + 1, x, .cons _ t, e => by
    obtain ⟨u, h1, h2⟩ := Vals.get (i := i) (x := x) t (by simpa using e)
    exact ⟨u, by simpa using h1, h2⟩
theorem Vals.set {x : V} {u : Value} (r : RelV x u) : ∀ {xs : List V} {us : List Value} (i : Nat), Vals xs us → Vals (xs.set i x) (us.set i u)
  | _, _, _, .nil => .nil
  | _, _, 0, .cons _ t => .cons r t
  | _, _, i + 1, .cons q t => .cons q (Vals.set r i t)
theorem Vals.append : ∀ {xs ys : List V} {us ws : List Value}, Vals xs us → Vals ys ws → Vals (xs ++ ys) (us ++ ws)
  | _, _, _, _, .nil, s => s
  | _, _, _, _, .cons r t, s => .cons r (Vals.append t s)
theorem Vals.take : ∀ {xs : List V} {us : List Value} (n : Nat), Vals xs us → Vals (xs.take n) (us.take n)
  | _, _, 0, _ => .nil
  | _, _, _ + 1, .nil => .nil
  | _, _, n + 1, .cons r t => .cons r (Vals.take n t)
theorem Vals.drop : ∀ {xs : List V} {us : List Value} (n : Nat), Vals xs us → Vals (xs.drop n) (us.drop n)
  | _, _, 0, r => r
  | _, _, _ + 1, .nil => .nil
  | _, _, n + 1, .cons _ t => Vals.drop n t
theorem Vals.none_of : ∀ {xs : List V} {us : List Value} {i : Nat}, Vals xs us → xs[i]? = none → us[i]? = none := fun {xs us i} r e => by
  have h1 := r.length
  have h2 : xs.length ≤ i := List.getElem?_eq_none_iff.mp e
  exact List.getElem?_eq_none_iff.mpr (by omega)
def RelO : Option V → Option Value → Prop
  | some v, some u => RelV v u
  | none, none => True
  | _, _ => False
def KV {κ : Type} : List (κ × V) → List (κ × Value) → Prop := Paired fun (p : κ × V) (q : κ × Value) => p.1 = q.1 ∧ RelV p.2 q.2
def kV : Key → V
  | .inl i => .int i
  | .inr x => .str x
inductive HO where
  /-- a list -/
  | lst (xs : List V)
  /-- a tuple (never changes) -/
  | tup (xs : List V)
  /-- a dict whose keys are ints and texts; one whose keys are tuples of ints and texts (the empty one is both) -/
  | dK (kvs : List (Key × V)) | dT (kvs : List (List Key × V))
  /-- a set of ints: its members, its size -/
  | set (S : Int → Bool) (n : Nat)
  /-- an instance of the class at C, its dict at dx, its attributes -/
  | ins (C dx : Addr) (fs : List (Str × V))
  /-- the dict of the instance at x -/
  | own (x : Addr)
  /-- the dict of an exception -/
  | xd (fs : List (Str × V))
  /-- a bound method, f of x -/
  | met (f x : Addr)
  /-- a range object lo, lo + 1, .. below hi -/
  | rng (lo hi : Int)
  /-- a thing that is known to the object (the script; a dict while a loop walks it): read, never written while it is so -/
  | frz (o : Obj) (u : HO)
  /-- a code object's table -/
  | tbl (ps : Array Value)
  /-- any other thing, by what is true of its one object (a def of one's own: SetO a S n := HO.ext fun h => ..) -/
  | ext (φ : Heap → Prop)
abbrev Hp := Addr → Option HO
def upd (H : Hp) (a : Addr) (o : HO) : Hp := fun b => if b = a then some o else H b
theorem upd_same {H : Hp} {a : Addr} {o : HO} : upd H a o a = some o := by unfold upd; rw [if_pos rfl]
theorem upd_ne {H : Hp} {a b : Addr} {o : HO} (h : b ≠ a) : upd H a o b = H b := by unfold upd; rw [if_neg h]
theorem ne_of_none {H : Hp} {a b : Addr} {o : HO} (h : H a = some o) (h' : H b = none) : a ≠ b := by
  intro e; subst e; rw [h] at h'; cases h'
section
variable (P : Program) (w : World)
def ObjOk (H : Hp) (h : Heap) (a : Addr) : HO → Prop
  | .lst xs => xs.length ≤ sizeLine ∧ ∃ (its : List Value) (n : Nat), Vals xs its ∧ h.get? a = some { cls := .type "list", data := .seq its.toArray n }
  | .tup xs => xs.length ≤ sizeLine ∧ ∃ its : List Value, Vals xs its ∧ IsTup h a its.toArray
  | .dK kvs => kvs.length ≤ sizeLine ∧ (a == sysModules) = false ∧ ∃ vs, KV kvs vs ∧ h.DictOf (mixKind P w) a vs
  | .dT kvs => kvs.length ≤ sizeLine ∧ (a == sysModules) = false ∧ ∃ xs : List (List Key × Addr × Value),
      Paired (fun (p : List Key × V) (q : List Key × Addr × Value) => p.1 = q.1 ∧ H q.2.1 = some (.tup (p.1.map kV)) ∧ RelV p.2 q.2.2) kvs xs ∧
      ∃ o es ep, h.get? a = some o ∧ o.ExactDict ∧ o.data = .dict es ep ∧ es.toList = xs.map (entryOfKey (tupleKind (mixKind P w))) ∧ (xs.map (·.1)).Nodup
  | .set S n => h.SetOf (intKind P w) a S n
  | .ins C dx fs => H dx = some (.own a) ∧ fs.length ≤ 1000 ∧ dx ≠ a ∧ h.get? a = some (PySem.W.instObj C dx) ∧
      ∃ mA, h.Ns1 dx mA ∧ (∀ f, RelO (fs.lookup f) (mA f)) ∧ PySem.Within mA (fs.map (·.1))
  | .own _ => ∃ o, h.get? a = some o
  | .xd fs => ∃ mA, h.Ns1 a mA ∧ ∀ f, RelO (fs.lookup f) (mA f)
  | .rng lo hi => ∃ t u v, h.get? a = some { cls := .type "range", data := .fields #[.int lo t, .int hi u, .int 1 v] }
  | .frz o u => h.get? a = some o ∧ ObjOk H h a u
  | .tbl ps => h.get? a = some { cls := .none, data := .fields ps }
  | .met f x => h.get? a = some (PySem.W.methodObj (.ref f) (.ref x))
  | .ext φ => φ h ∧ (∃ o, h.get? a = some o) ∧ ∀ h1 h2 : Heap, φ h1 → (∀ o, h1.get? a = some o → h2.get? a = some o) → φ h2
def HOk (H : Hp) (h : Heap) : Prop := ∀ a o, H a = some o → ObjOk P w H h a o
end
section
variable {P : Program} {w : World} {H H' : Hp} {h h' : Heap} {a : Addr} {o : HO}
theorem ObjOk.lt (x : ObjOk P w H h a o) : a < h.objs.size := by
  cases o with
  | lst xs => obtain ⟨_, _, _, _, e⟩ := x; exact Heap.lt_size e
  | tup xs => obtain ⟨_, _, _, p⟩ := x; exact p.lt
  | dK kvs => obtain ⟨_, _, _, _, o, _, _, e, _⟩ := x; exact Heap.lt_size e
  | dT kvs => obtain ⟨_, _, _, _, o, _, _, e, _⟩ := x; exact Heap.lt_size e
  | set S n => obtain ⟨o, _, _, _, e, _⟩ := x; exact Heap.lt_size e
  | ins C dx fs => obtain ⟨_, _, _, e, _⟩ := x; exact Heap.lt_size e
  | own y => obtain ⟨_, e⟩ := x; exact Heap.lt_size e
  | xd fs => obtain ⟨_, ⟨_, _, _, e, _⟩, _⟩ := x; exact Heap.lt_size e
  | rng lo hi => obtain ⟨_, _, _, e⟩ := x; exact Heap.lt_size e
  | frz ob u => obtain ⟨e, _⟩ := x; exact Heap.lt_size e
  | tbl ps => exact Heap.lt_size (show h.get? a = some _ from x)
  | met f y => exact Heap.lt_size (show h.get? a = some _ from x)
  | ext φ => obtain ⟨_, ⟨_, e⟩, _⟩ := x; exact Heap.lt_size e
theorem Paired.mapP {α β : Type} {F G : α → β → Prop} : ∀ {l₁ : List α} {l₂ : List β}, Paired F l₁ l₂ → (∀ a b, F a b → G a b) → Paired G l₁ l₂
  | _, _, .nil, _ => .nil
  | _, _, .cons r t, f => .cons (f _ _ r) (Paired.mapP t f)
theorem ObjOk.stay (x : ObjOk P w H h a o) (k : ∀ b u, (b = a ∨ H b = some (.own a)) → h.get? b = some u → h'.get? b = some u)
    (ho : ∀ b, H b = some (.own a) → H' b = some (.own a)) (ht : ∀ b xs, H b = some (.tup xs) → H' b = some (.tup xs)) : ObjOk P w H' h' a o := by
  induction o with
  | lst xs => obtain ⟨z, its, n, r, e⟩ := x; exact ⟨z, its, n, r, k _ _ (.inl rfl) e⟩
  | tup xs => obtain ⟨z, its, r, ob, e, c⟩ := x; exact ⟨z, its, r, ob, k _ _ (.inl rfl) e, c⟩
  | dK kvs => obtain ⟨z, y, vs, r, ob, es, ep, e, c⟩ := x; exact ⟨z, y, vs, r, ob, es, ep, k _ _ (.inl rfl) e, c⟩
  | dT kvs =>
    obtain ⟨z, y, xs, r, ob, es, ep, e, c⟩ := x
    exact ⟨z, y, xs, Paired.mapP r fun p q z => ⟨z.1, ht _ _ z.2.1, z.2.2⟩, ob, es, ep, k _ _ (.inl rfl) e, c⟩
  | set S n => obtain ⟨ob, es, ep, t, e, c⟩ := x; exact ⟨ob, es, ep, t, k _ _ (.inl rfl) e, c⟩
  | ins C dx fs =>
    obtain ⟨d, z, ne, e, mA, ⟨od, es, ep, e2, c⟩, r⟩ := x
    exact ⟨ho _ d, z, ne, k _ _ (.inl rfl) e, mA, ⟨od, es, ep, k _ _ (.inr d) e2, c⟩, r⟩
  | own y => obtain ⟨ob, e⟩ := x; exact ⟨ob, k _ _ (.inl rfl) e⟩
  | xd fs => obtain ⟨mA, ⟨od, es, ep, e, c⟩, r⟩ := x; exact ⟨mA, ⟨od, es, ep, k _ _ (.inl rfl) e, c⟩, r⟩
  | rng lo hi => obtain ⟨t, u, v, e⟩ := x; exact ⟨t, u, v, k _ _ (.inl rfl) e⟩
  | frz ob u ih => obtain ⟨e, q⟩ := x; exact ⟨k _ _ (.inl rfl) e, ih q⟩
  | tbl ps =>
    have e : h.get? a = some { cls := .none, data := .fields ps } := x
    show h'.get? a = some { cls := .none, data := .fields ps }
    exact k a _ (.inl rfl) e
  | met f y =>
    have e : h.get? a = some (PySem.W.methodObj (.ref f) (.ref y)) := x
    show h'.get? a = some (PySem.W.methodObj (.ref f) (.ref y))
    exact k a _ (.inl rfl) e
  | ext φ => obtain ⟨p, ⟨o, e⟩, st⟩ := x; exact ⟨st _ _ p fun o q => k _ _ (.inl rfl) q, ⟨o, k _ _ (.inl rfl) e⟩, st⟩
theorem HOk.lt (x : HOk P w H h) (e : H a = some o) : a < h.objs.size := (x a o e).lt
theorem HOk.fresh (x : HOk P w H h) (e : h.objs.size ≤ a) : H a = none := by
  cases q : H a with
  | none => rfl
  | some u => exact absurd (Nat.lt_of_lt_of_le (x.lt q) e) (Nat.lt_irrefl _)
theorem HOk.kept (x : HOk P w H h) (k : ∀ b u, h.get? b = some u → h'.get? b = some u) : HOk P w H h' := fun a o e =>
  (x a o e).stay (fun b u _ q => k b u q) (fun _ q => q) fun _ _ q => q
theorem HOk.laid (x : HOk P w H h) (k : ∀ b u, h.get? b = some u → h'.get? b = some u) (hp : h.objs.size ≤ a) (new : ObjOk P w (upd H a o) h' a o) : HOk P w (upd H a o) h' := fun b u e => by
  have hn := x.fresh hp
  by_cases hb : b = a
  · subst hb; rw [upd_same] at e; cases e; exact new
  · rw [upd_ne hb] at e
    exact (x b u e).stay (fun c v _ q => k c v q) (fun c q => by rw [upd_ne (ne_of_none q hn)]; exact q) fun c xs q => by rw [upd_ne (ne_of_none q hn)]; exact q
end
def Rd (H : Hp) (a : Addr) (u : HO) : Prop := H a = some u ∨ ∃ o, H a = some (.frz o u)
theorem Rd.of {H : Hp} {a : Addr} {u : HO} (h : H a = some u) : Rd H a u := .inl h
theorem Rd.ok {P : Program} {w : World} {H : Hp} {h : Heap} {a : Addr} {u : HO} (r : Rd H a u) (x : HOk P w H h) : ObjOk P w H h a u := by
  rcases r with r | ⟨o, r⟩
  · exact x a u r
  · obtain ⟨_, q⟩ := x a _ r
    exact q
def Mut : Option HO → Prop
  | some (.lst _) => True
  | some (.dK _) => True
  | some (.dT _) => True
  | some (.set _ _) => True
  | some (.ins _ _ _) => True
  | some (.ext _) => True
  | _ => False
section
variable {P : Program} {w : World} {H : Hp} {h h' : Heap} {x e : Addr} {o' : HO}
theorem HOk.write (ok : HOk P w H h) (mu : Mut (H x)) (he : e = x ∨ H e = some (.own x)) (k : ∀ b u, b ≠ e → h.get? b = some u → h'.get? b = some u) (heo : ∃ u, h'.get? e = some u)
    (new : ObjOk P w (upd H x o') h' x o') : HOk P w (upd H x o') h' := fun b u q => by
  have nown : ∀ c y, H c = some (.own y) → c ≠ x := fun c y r z => by subst z; rw [r] at mu; exact mu
  have ntup : ∀ c xs, H c = some (.tup xs) → c ≠ x := fun c xs r z => by subst z; rw [r] at mu; exact mu
  by_cases hb : b = x
  · subst hb; rw [upd_same] at q; cases q; exact new
  · rw [upd_ne hb] at q
    by_cases hbe : b = e
    · have q' : H b = some (.own x) := by
        rcases he with z | z
        · exact absurd (hbe.trans z) hb
        · rw [hbe]; exact z
      rw [q] at q'; cases q'
      obtain ⟨v, hv⟩ := heo
      exact ⟨v, by rw [hbe]; exact hv⟩
    · refine (ok b u q).stay (fun c v hc r => k c v ?_ r) (fun c r => by rw [upd_ne (nown c b r)]; exact r) fun c xs r => by rw [upd_ne (ntup c xs r)]; exact r
      rcases hc with rfl | hc
      · exact hbe
      · rintro rfl
        rcases he with z | z
        · exact nown c b hc z
        · rw [hc] at z; cases z; exact hb rfl
end
structure Un (fs ex : List Addr) (H H' : Hp) (h h' : Heap) : Prop where
  keep : ∀ b o, h.get? b = some o → H b = none → b ∉ fs → b ∉ ex → h'.get? b = some o
  slot : ∀ b o, h.get? b = some o → H b = none → b ∈ fs → b ∉ ex → ∃ sl, h'.get? b = some { o with slots := sl }
  free : ∀ b o, h.get? b = some o → H b = none → b ∉ ex → H' b = none
  there : ∀ b o, h.get? b = some o → b ∉ ex → ∃ o', h'.get? b = some o'
  tups : ∀ b xs, H b = some (.tup xs) → H' b = some (.tup xs)
  frzs : ∀ b o u, H b = some (.frz o u) → H' b = some (.frz o u)
  tbls : ∀ b ps, H b = some (.tbl ps) → ∃ more, H' b = some (.tbl (ps ++ more))
section
variable {fs fs' ex ex' : List Addr} {H H1 H2 : Hp} {h h1 h2 h' : Heap} {a x e : Addr} {o : HO}
theorem Un.any (u : Un fs ex H H1 h h1) {b : Addr} {ob : Obj} (q : h.get? b = some ob) (n : H b = none) (hx : b ∉ ex) : ∃ sl, h1.get? b = some { ob with slots := sl } := by
  by_cases hb : b ∈ fs
  · exact u.slot b ob q n hb hx
  · exact ⟨ob.slots, u.keep b ob q n hb hx⟩
theorem Un.trans (a : Un fs ex H H1 h h1) (b : Un fs ex H1 H2 h1 h2) : Un fs ex H H2 h h2 where
  keep := fun c ob q n hc hx => b.keep c ob (a.keep c ob q n hc hx) (a.free c ob q n hx) hc hx
  slot := fun c ob q n hc hx => by
    obtain ⟨sl, e1⟩ := a.slot c ob q n hc hx
    obtain ⟨sl', e2⟩ := b.slot c _ e1 (a.free c ob q n hx) hc hx
    exact ⟨sl', e2⟩
  free := fun c ob q n hx => by
    obtain ⟨o', e1⟩ := a.there c ob q hx
    exact b.free c o' e1 (a.free c ob q n hx) hx
  there := fun c ob q hx => by
    obtain ⟨o', e1⟩ := a.there c ob q hx
    exact b.there c o' e1 hx
  tups := fun c xs q => b.tups c xs (a.tups c xs q)
  frzs := fun c ob xs q => b.frzs c ob xs (a.frzs c ob xs q)
  tbls := fun c ps q => by
    obtain ⟨m1, e1⟩ := a.tbls c ps q
    obtain ⟨m2, e2⟩ := b.tbls c _ e1
    exact ⟨m1 ++ m2, by rw [e2, Array.append_assoc]⟩
theorem Un.kept (k : ∀ b u, h.get? b = some u → h'.get? b = some u) : Un fs ex H H h h' :=
  ⟨fun b ob q _ _ _ => k b ob q, fun b ob q _ _ _ => ⟨ob.slots, k b ob q⟩, fun _ _ _ n _ => n, fun b ob q _ => ⟨ob, k b ob q⟩, fun _ _ q => q, fun _ _ _ q => q, fun _ ps q => ⟨#[], by rw [q]; simp⟩⟩
theorem Un.refl : Un fs ex H H h h := Un.kept fun _ _ q => q
theorem Un.laid (k : ∀ b u, h.get? b = some u → h'.get? b = some u) (hp : h.objs.size ≤ a) (hn : H a = none) : Un fs ex H (upd H a o) h h' where
  keep := fun b u q _ _ _ => k b u q
  slot := fun b u q _ _ _ => ⟨u.slots, k b u q⟩
  free := fun b u q n _ => by rw [upd_ne (Nat.ne_of_lt (Nat.lt_of_lt_of_le (Heap.lt_size q) hp))]; exact n
  there := fun b u q _ => ⟨u, k b u q⟩
  tups := fun b xs q => by rw [upd_ne (ne_of_none q hn)]; exact q
  frzs := fun b u xs q => by rw [upd_ne (ne_of_none q hn)]; exact q
  tbls := fun b ps q => ⟨#[], by rw [upd_ne (ne_of_none q hn), q]; simp⟩
theorem Un.write (mu : Mut (H x)) (he : e = x ∨ H e = some (.own x)) (k : ∀ b u, b ≠ e → h.get? b = some u → h'.get? b = some u) (heo : ∃ u, h'.get? e = some u) : Un fs ex H (upd H x o) h h' := by
  have hx : ∀ b, H b = none → b ≠ x := fun b n z => by subst z; rw [n] at mu; exact mu
  have hb : ∀ b, H b = none → b ≠ e := fun b n z => by
    subst z
    rcases he with r | r
    · exact hx b n r
    · rw [n] at r; cases r
  have hm : ∀ b u, H b = some u → ¬ Mut (some u) → b ≠ x := fun b u q nm z => by subst z; rw [q] at mu; exact nm mu
  refine ⟨fun b u q n _ _ => k b u (hb b n) q, fun b u q n _ _ => ⟨u.slots, k b u (hb b n) q⟩, fun b u q n _ => by rw [upd_ne (hx b n)]; exact n, fun b u q _ => ?_,
    fun b xs q => by rw [upd_ne (hm b _ q fun z => z)]; exact q, fun b u xs q => by rw [upd_ne (hm b _ q fun z => z)]; exact q, fun b ps q => ⟨#[], by rw [upd_ne (hm b _ q fun z => z), q]; simp⟩⟩
  by_cases hbe : b = e
  · subst hbe; exact heo
  · exact ⟨u, k b u hbe q⟩
theorem Un.mono (u : Un fs ex H H1 h h1) (hs : ∀ b ∈ fs, b ∈ fs') (hx : ∀ b ∈ ex, b ∈ ex') : Un fs' ex' H H1 h h1 :=
  ⟨fun b ob q n hb he => u.keep b ob q n (fun z => hb (hs b z)) fun z => he (hx b z), fun _ _ q n _ he => u.any q n fun z => he (hx _ z), fun b ob q n he => u.free b ob q n fun z => he (hx b z), fun b ob q he => u.there b ob q fun z => he (hx b z), u.tups, u.frzs, u.tbls⟩
end
def trk (h : Heap) (H : Hp) : List Addr := (List.range h.objs.size).filter fun a => (H a).isSome
def hidT (h : Heap) (H : Hp) : Heap := PySem.W.hideAll h (trk h H)
theorem hidT_size (h : Heap) (H : Hp) : (hidT h H).objs.size = h.objs.size := PySem.W.hideAll_size _ _
theorem hidT_get {h : Heap} {H : Hp} {b : Addr} {o : Obj} (e : h.get? b = some o) (n : H b = none) : (hidT h H).get? b = some o :=
  PySem.W.hideAll_get _ e fun hm => by
    have q : (H b).isSome = true := (List.mem_filter.mp hm).2
    rw [n] at q; simp at q
theorem of_hidT {h : Heap} {H : Hp} {b : Addr} {o : Obj} (e : (hidT h H).get? b = some o) : h.get? b = some o ∧ H b = none := by
  have e' : h.get? b = some o := PySem.W.of_hideAll (trk h H) e
  refine ⟨e', ?_⟩
  cases q : H b with
  | none => rfl
  | some x =>
    have hm : b ∈ trk h H := List.mem_filter.mpr ⟨List.mem_range.mpr (Heap.lt_size e'), by simp [q]⟩
    have z : (hidT h H).get? b = none := PySem.W.hideAll_none (trk h H) hm
    rw [z] at e; cases e
def allNews (g h : Heap) (L : Addr) : List (Addr × Obj) := (List.range h.objs.size).filterMap fun a => if a = L ∨ (g.get? a).isSome = true then none else (h.get? a).map fun o => (a, o)
def rest (g h : Heap) (L d : Addr) : List (Addr × Obj) := (allNews g h L).filter fun p => decide (p.1 ≠ d)
end L2
namespace L2
open PySem PySem.Spec PyProof.Rows
structure Mod (K : PySem.W.Frag) (mg : Str → Option Value) (base : Heap) : Prop where
  kin : K.In base
  glob : base.Ns mainGlobals mg
  blt : ∃ mb, base.Ns builtinsNs mb ∧ ∀ x : Str, x ≠ "__name__" → mb x = bootBuiltins x
  nolimit : base.NoLimit
structure Cx where
  prog : Program
  w : World
  K : PySem.W.Frag
  mg : Str → Option Value
  base : Heap
  A : Around
  N : List Str
  s₀ : Shared
  H₀ : Hp
  env : Env
  outer : List Env
  stack : List Env
  ex : List Addr
  fn : Str → Bool
  calm : Bool
  pn : List (Addr × Obj)
  xe : Value → Shared → Prop
def frs (l : List Env) : List Addr := l.filterMap (·.frame)
abbrev Cx.fs (X : Cx) : List Addr := frs X.outer
def Vis (sc : Scope) (x : Str) : Prop := sc.names.lookup x = some .local ∨ sc.names.lookup x = some .cell ∨ sc.names.lookup x = some .free
def Loc (sc : Scope) (x : Str) : Prop := sc.names.lookup x = some .local ∨ sc.names.lookup x = some .cell
def Look (env : Env) (h : Heap) (m : Str → Option Value) (x : Str) (u : Value) : Prop :=
  (env.kindOf x = some .local ∧ m x = some u) ∨ ((env.kindOf x = some .cell ∨ env.kindOf x = some .free) ∧ ∃ c, env.cells.lookup x = some c ∧ h.IsCell c (some u))
structure Cx.Ok (X : Cx) : Prop where
  mod : Mod X.K X.mg X.base
  kind : X.env.scope.kind = .function
  glob : X.env.globals = mainGlobals
  blt : X.env.builtins = builtinsNs
  above : X.s₀.heap.objs.size ≤ X.env.locals
  inj : ∀ x y c, X.env.cells.lookup x = some c → X.env.cells.lookup y = some c → x = y
  has : ∀ x, (X.env.kindOf x = some .cell ∨ X.env.kindOf x = some .free) → ∃ c, X.env.cells.lookup x = some c
  cab : ∀ x c, X.fn x = true → X.env.cells.lookup x = some c → X.s₀.heap.objs.size ≤ c
  hd : X.calm = true → X.A.handled = none
  frames : X.A.frames = some X.stack
  stk : X.stack = X.outer ∨ (X.stack = X.env :: X.outer ∧ X.env.frame = some X.env.locals)
  exf : ∀ b ∈ X.ex, b ≠ X.env.locals ∧ ∀ x c, X.env.cells.lookup x = some c → c ≠ b
  bs : ∀ b o, X.base.get? b = some o → X.s₀.heap.get? b = some o ∧ X.H₀ b = none
  bsz : X.base.objs.size ≤ X.s₀.heap.objs.size
  noex : ∀ b o, X.base.get? b = some o → b ∉ X.ex
  exfs : ∀ b ∈ X.ex, b ∉ X.fs
  funs : X.s₀.heap.FunFrames X.base X.outer
  frf : ∀ b ∈ X.fs, X.H₀ b = none
structure Inv (X : Cx) (pins : List (Addr × Obj)) (σ : List (Option V)) (H : Hp) (s : Shared) : Prop where
  ok : X.Ok
  os : s.os = X.s₀.os
  bare : AllBare s.gens
  base : Un X.fs X.ex X.H₀ H X.s₀.heap s.heap
  loc : ∃ m, s.heap.Ns X.env.locals m ∧ ∀ (i : Nat) (x : Str) (v : V), X.N[i]? = some x → σ[i]? = some (some v) → Vis X.env.scope x → ∃ u, RelV v u ∧ Look X.env s.heap m x u
  cell : ∀ x c, X.env.cells.lookup x = some c → ∃ v, s.heap.IsCell c v
  free : H X.env.locals = none
  freeC : ∀ x c, X.env.cells.lookup x = some c → H c = none
  pin : ∀ p ∈ X.pn ++ pins, s.heap.get? p.1 = some p.2 ∧ H p.1 = none ∧ p.1 ≠ X.env.locals ∧ p.1 ∉ X.fs ∧ ∀ v, p.2.data ≠ .cell v
  hok : HOk X.prog X.w H s.heap
  len : σ.length = X.N.length
section
variable {X : Cx} {pins : List (Addr × Obj)} {σ : List (Option V)} {H H' : Hp} {s : Shared} {h' : Heap}
theorem Cx.Ok.nofr (ok : X.Ok) {b : Addr} {o : Obj} (e : X.base.get? b = some o) : b ∉ X.fs := fun hb => by
  have := (ok.funs.mem hb).1
  rw [e] at this; cases this
theorem Inv.bs (I : Inv X pins σ H s) : ∀ b o, X.base.get? b = some o → s.heap.get? b = some o ∧ H b = none := fun b o e =>
  ⟨I.base.keep b o (I.ok.bs b o e).1 (I.ok.bs b o e).2 (I.ok.nofr e) (I.ok.noex b o e), I.base.free b o (I.ok.bs b o e).1 (I.ok.bs b o e).2 (I.ok.noex b o e)⟩
theorem Inv.bk (I : Inv X pins σ H s) : ∀ b o, X.base.get? b = some o → s.heap.get? b = some o := fun b o e => (I.bs b o e).1
theorem Inv.mod (I : Inv X pins σ H s) : Mod X.K X.mg X.base := I.ok.mod
theorem Inv.kIn (I : Inv X pins σ H s) : X.K.In s.heap := I.ok.mod.kin.keeps I.bk
theorem Inv.nolimit (I : Inv X pins σ H s) : s.heap.NoLimit := I.ok.mod.nolimit.keeps I.bk
theorem Inv.fr (I : Inv X pins σ H s) : ∃ m, Fr X.base X.env.locals s.heap m :=
  let ⟨m, hn, _⟩ := I.loc
  ⟨m, hn, I.bk, Nat.le_trans I.ok.bsz I.ok.above⟩
theorem Inv.lt (I : Inv X pins σ H s) : X.env.locals < s.heap.objs.size := let ⟨_, hn, _⟩ := I.loc; hn.lt
theorem Inv.sz (I : Inv X pins σ H s) : X.s₀.heap.objs.size ≤ s.heap.objs.size := Nat.le_trans I.ok.above (Nat.le_of_lt I.lt)
theorem Inv.nofs (I : Inv X pins σ H s) {a : Addr} (h : s.heap.objs.size ≤ a) : a ∉ X.fs := fun hb => by
  obtain ⟨_, o, ho, _⟩ := I.ok.funs.mem hb
  exact absurd (Nat.lt_of_lt_of_le (Heap.lt_size ho) (Nat.le_trans I.sz h)) (Nat.lt_irrefl _)
theorem Inv.cne (I : Inv X pins σ H s) : ∀ x c, X.env.cells.lookup x = some c → c ≠ X.env.locals := fun x c e z => by
  obtain ⟨v, o, ho, hd⟩ := I.cell x c e
  obtain ⟨m, ⟨o', es, ep, ho', hd', _⟩, _⟩ := I.loc
  rw [z, ho'] at ho; cases ho; rw [hd'] at hd; cases hd
theorem Inv.funs (I : Inv X pins σ H s) : s.heap.FunFrames X.base X.outer := by
  have all : ∀ (l : List Env), (∀ b ∈ frs l, b ∈ X.fs) → X.s₀.heap.FunFrames X.base l → s.heap.FunFrames X.base l := by
    intro l
    induction l with
    | nil => intro _ _; trivial
    | cons env r ih =>
      intro hs hl
      obtain ⟨hk, ⟨L, o, hf, hn, ho, hd⟩, hr⟩ := hl
      have hL : L ∈ X.fs := hs L (by unfold frs; rw [List.filterMap_cons, hf]; exact List.mem_cons_self)
      obtain ⟨sl, e⟩ := I.base.slot L o ho (I.ok.frf L hL) hL fun z => I.ok.exfs L z hL
      exact ⟨hk, ⟨L, _, hf, hn, e, hd⟩, ih (fun b hb => hs b (by unfold frs; rw [List.filterMap_cons, hf]; exact List.mem_cons_of_mem _ hb)) hr⟩
  exact all X.outer (fun _ hb => hb) I.ok.funs
theorem Inv.stack (I : Inv X pins σ H s) : s.heap.FunFrames X.base X.stack := by
  rcases I.ok.stk with e | ⟨e, hf⟩
  · rw [e]; exact I.funs
  · rw [e]
    obtain ⟨m, hn, _⟩ := I.loc
    refine .cons (by rw [I.ok.kind]; decide) hf hn ?_ I.funs
    exact Heap.get?_none_of_le (Nat.le_trans I.ok.bsz I.ok.above)
theorem Inv.stkSub (I : Inv X pins σ H s) : ∀ b ∈ frs X.stack, b ∈ X.env.locals :: X.fs := fun b hb => by
  rcases I.ok.stk with e | ⟨e, hf⟩
  · rw [e] at hb; exact List.mem_cons_of_mem _ hb
  · rw [e] at hb
    unfold frs at hb
    rw [List.filterMap_cons, hf] at hb
    exact hb
theorem Inv.stkFree (I : Inv X pins σ H s) : ∀ b ∈ frs X.stack, H b = none := fun b hb => by
  rcases List.mem_cons.mp (I.stkSub b hb) with e | hb
  · rw [e]; exact I.free
  · obtain ⟨_, o, ho, _⟩ := I.ok.funs.mem hb
    exact I.base.free b o ho (I.ok.frf b hb) fun z => I.ok.exfs b z hb
theorem Inv.step {g' : Array GenState} {t' : Nat} {d' : Drawn} {ch : List Addr} (I : Inv X pins σ H s)
    (hch : ∀ b ∈ ch, (b ∈ X.ex ∨ X.s₀.heap.objs.size ≤ b) ∧ b ≠ X.env.locals ∧ (∀ x c, X.env.cells.lookup x = some c → c ≠ b) ∧ ∀ p ∈ X.pn ++ pins, p.1 ≠ b)
    (keep : ∀ b o, b ≠ X.env.locals → b ∉ X.fs → b ∉ ch → s.heap.get? b = some o → H b = none → h'.get? b = some o)
    (slot : ∀ b o, b ≠ X.env.locals → b ∈ X.fs → b ∉ ch → s.heap.get? b = some o → H b = none → ∃ sl, h'.get? b = some { o with slots := sl }) (free : ∀ b o, b ∉ ch → s.heap.get? b = some o → H b = none → H' b = none)
    (there : ∀ b o, b ∉ ch → s.heap.get? b = some o → ∃ o', h'.get? b = some o')
    (tups : ∀ b xs, H b = some (.tup xs) → H' b = some (.tup xs)) (frzs : ∀ b o u, H b = some (.frz o u) → H' b = some (.frz o u)) (tbls : ∀ b ps, H b = some (.tbl ps) → ∃ more, H' b = some (.tbl (ps ++ more)))
    (ns : ∀ m, s.heap.Ns X.env.locals m → h'.Ns X.env.locals m) (hok : HOk X.prog X.w H' h') (hg : AllBare g') :
    Inv X pins σ H' { s with heap := h', gens := g', drawn := d', toks := t' } := by
  have neL : ∀ b o, X.s₀.heap.get? b = some o → b ≠ X.env.locals := fun b o e => Nat.ne_of_lt (Nat.lt_of_lt_of_le (Heap.lt_size e) I.ok.above)
  have neC : ∀ b o, X.s₀.heap.get? b = some o → b ∉ X.ex → b ∉ ch := fun b o e hx hb => by
    rcases (hch b hb).1 with z | z
    · exact hx z
    · exact absurd (Nat.lt_of_lt_of_le (Heap.lt_size e) z) (Nat.lt_irrefl _)
  have cellK : ∀ x c, X.env.cells.lookup x = some c → ∀ v, s.heap.IsCell c v → h'.IsCell c v := fun x c e v ⟨o, ho, hd⟩ => by
    have nch : c ∉ ch := fun z => (hch c z).2.2.1 x c e rfl
    by_cases hc : c ∈ X.fs
    · obtain ⟨sl, q⟩ := slot c o (I.cne x c e) hc nch ho (I.freeC x c e)
      exact ⟨_, q, hd⟩
    · exact ⟨o, keep c o (I.cne x c e) hc nch ho (I.freeC x c e), hd⟩
  refine ⟨I.ok, I.os, hg, ⟨fun b o e n hb hx => ?_, fun b o e n hb hx => ?_, fun b o e n hx => ?_, fun b o e hx => ?_, fun b xs e => tups b xs (I.base.tups b xs e), fun b o xs e => frzs b o xs (I.base.frzs b o xs e), fun b ps e => ?_⟩, ?_, fun x c e => ?_, ?_, fun x c e => ?_, fun p hp => ?_, hok, I.len⟩
  · exact keep b o (neL b o e) hb (neC b o e hx) (I.base.keep b o e n hb hx) (I.base.free b o e n hx)
  · obtain ⟨sl, e1⟩ := I.base.slot b o e n hb hx
    obtain ⟨sl', e2⟩ := slot b _ (neL b o e) hb (neC b o e hx) e1 (I.base.free b o e n hx)
    exact ⟨sl', e2⟩
  · obtain ⟨o', e1⟩ := I.base.there b o e hx
    exact free b o' (neC b o e hx) e1 (I.base.free b o e n hx)
  · obtain ⟨o', e1⟩ := I.base.there b o e hx
    exact there b o' (neC b o e hx) e1
  · obtain ⟨m1, e1⟩ := I.base.tbls b ps e
    obtain ⟨m2, e2⟩ := tbls b _ e1
    exact ⟨m1 ++ m2, by rw [e2, Array.append_assoc]⟩
  · obtain ⟨m, hn, hl⟩ := I.loc
    refine ⟨m, ns m hn, fun i x v e1 e2 e3 => ?_⟩
    obtain ⟨u, r, l⟩ := hl i x v e1 e2 e3
    refine ⟨u, r, ?_⟩
    rcases l with l | ⟨k, c, e, z⟩
    · exact .inl l
    · exact .inr ⟨k, c, e, cellK x c e _ z⟩
  · obtain ⟨v, z⟩ := I.cell x c e
    exact ⟨v, cellK x c e v z⟩
  · obtain ⟨m, ⟨o, _, _, ho, _⟩, _⟩ := I.loc
    exact free _ o (fun z => (hch _ z).2.1 rfl) ho I.free
  · obtain ⟨v, o, ho, hd⟩ := I.cell x c e
    exact free c o (fun z => (hch c z).2.2.1 x c e rfl) ho (I.freeC x c e)
  · obtain ⟨e, n, ne, nf, d⟩ := I.pin p hp
    have nch : p.1 ∉ ch := fun z => (hch p.1 z).2.2.2 p hp rfl
    exact ⟨keep p.1 p.2 ne nf nch e n, free p.1 p.2 nch e n, ne, nf, d⟩
theorem Inv.un {t' : Nat} (I : Inv X pins σ H s) (u : Un X.fs [] H H' s.heap h') (hok : HOk X.prog X.w H' h') : Inv X pins σ H' { s with heap := h', toks := t' } := by
  obtain ⟨m, ⟨o, es, ep, ho, r⟩, _⟩ := id I.loc
  obtain ⟨sl, hL⟩ := u.any ho I.free (by simp)
  exact I.step (g' := s.gens) (d' := s.drawn) (ch := []) (fun _ z => nomatch z) (fun b o _ hb _ e n => u.keep b o e n hb (by simp)) (fun b o _ hb _ e n => u.slot b o e n hb (by simp)) (fun b o _ e n => u.free b o e n (by simp)) (fun b o _ e => u.there b o e (by simp)) u.tups u.frzs u.tbls (fun m' hm => by
    obtain ⟨o', es', ep', ho', r'⟩ := hm
    rw [ho] at ho'; cases ho'
    exact ⟨_, es', ep', hL, r'⟩) hok I.bare
theorem Inv.call {g' : Array GenState} {t' : Nat} {d' : Drawn} {ch : List Addr} (I : Inv X pins σ H s) (u : Un (frs X.stack) ch H H' s.heap h') (hok : HOk X.prog X.w H' h') (hg : AllBare g')
    (hch : ∀ b ∈ ch, (b ∈ X.ex ∨ X.s₀.heap.objs.size ≤ b) ∧ b ≠ X.env.locals ∧ (∀ x c, X.env.cells.lookup x = some c → c ≠ b) ∧ ∀ p ∈ X.pn ++ pins, p.1 ≠ b) :
    Inv X pins σ H' { s with heap := h', gens := g', drawn := d', toks := t' } := by
  obtain ⟨m, ⟨o, es, ep, ho, r⟩, _⟩ := id I.loc
  obtain ⟨sl, hL⟩ := u.any ho I.free fun z => (hch _ z).2.1 rfl
  exact I.step (ch := ch) hch (fun b o hL hb hc e n => u.keep b o e n (fun z => (List.mem_cons.mp (I.stkSub b z)).elim hL hb) hc) (fun b o _ _ hc e n => u.any e n hc) (fun b o hc e n => u.free b o e n hc) (fun b o hc e => u.there b o e hc) u.tups u.frzs u.tbls (fun m' hm => by
    obtain ⟨o', es', ep', ho', r'⟩ := hm
    rw [ho] at ho'; cases ho'
    exact ⟨_, es', ep', hL, r'⟩) hok hg
theorem Inv.turned {t' : Nat} {it : Addr} (I : Inv X pins σ H s) (k : ∀ b o, b ≠ it → s.heap.get? b = some o → h'.get? b = some o) (hn : H it = none) (hL : it ≠ X.env.locals)
    (h1 : it ∈ X.ex ∨ X.s₀.heap.objs.size ≤ it) (h2 : ∀ x c, X.env.cells.lookup x = some c → c ≠ it) (h3 : ∀ p ∈ X.pn ++ pins, p.1 ≠ it) : Inv X pins σ H { s with heap := h', toks := t' } := by
  have nit : ∀ b u, H b = some u → b ≠ it := fun b u e z => by rw [z, hn] at e; cases e
  refine I.step (g' := s.gens) (d' := s.drawn) (ch := [it]) (fun b hb => ?_) (fun b o _ _ hc e _ => k b o (fun z => hc (by simp [z])) e) (fun b o _ _ hc e _ => ⟨o.slots, k b o (fun z => hc (by simp [z])) e⟩) (fun _ _ _ _ n => n)
    (fun b o hc e => ⟨o, k b o (fun z => hc (by simp [z])) e⟩) (fun _ _ e => e) (fun _ _ _ e => e) (fun b ps e => ⟨#[], by rw [e]; simp⟩) (fun m hm => ?_) (fun b u e => ?_) I.bare
  · have e : b = it := by simpa using hb
    subst e
    exact ⟨h1, hL, h2, h3⟩
  · obtain ⟨o, es, ep, ho, r⟩ := hm
    exact ⟨o, es, ep, k _ o (Ne.symm hL) ho, r⟩
  · refine (I.hok b u e).stay (fun c v hc q => k c v ?_ q) (fun _ q => q) fun _ _ q => q
    rcases hc with z | z
    · rw [z]; exact nit b u e
    · exact nit c _ z
theorem Inv.tok (I : Inv X pins σ H s) (t : Nat) : Inv X pins σ H { s with toks := t } := I.un (h' := s.heap) (t' := t) Un.refl I.hok
theorem Inv.kept {t' : Nat} (I : Inv X pins σ H s) (k : ∀ b u, s.heap.get? b = some u → h'.get? b = some u) : Inv X pins σ H { s with heap := h', toks := t' } := I.un (Un.kept k) (I.hok.kept k)
theorem Inv.laid {a : Addr} {o : HO} {t' : Nat} (I : Inv X pins σ H s) (k : ∀ b u, s.heap.get? b = some u → h'.get? b = some u) (hp : s.heap.objs.size ≤ a) (new : ObjOk X.prog X.w (upd H a o) h' a o) :
    Inv X pins σ (upd H a o) { s with heap := h', toks := t' } := I.un (Un.laid k hp (I.hok.fresh hp)) (I.hok.laid k hp new)
theorem Inv.write {x e : Addr} {o : HO} {t' : Nat} (I : Inv X pins σ H s) (mu : Mut (H x)) (he : e = x ∨ H e = some (.own x)) (k : ∀ b u, b ≠ e → s.heap.get? b = some u → h'.get? b = some u) (heo : ∃ u, h'.get? e = some u)
    (new : ObjOk X.prog X.w (upd H x o) h' x o) : Inv X pins σ (upd H x o) { s with heap := h', toks := t' } := I.un (Un.write mu he k heo) (I.hok.write mu he k heo new)
theorem Inv.weak {σ' : List (Option V)} (I : Inv X pins σ H s) (hl : σ'.length = σ.length) (w : ∀ (i : Nat) v, σ'[i]? = some (some v) → σ[i]? = some (some v)) : Inv X pins σ' H s :=
  ⟨I.ok, I.os, I.bare, I.base, let ⟨m, hn, hl'⟩ := I.loc; ⟨m, hn, fun i x v e1 e2 e3 => hl' i x v e1 (w i v e2) e3⟩, I.cell, I.free, I.freeC, I.pin, I.hok, hl.trans I.len⟩
theorem Inv.pins_of {pins' : List (Addr × Obj)} (I : Inv X pins σ H s) (h : ∀ p ∈ pins', s.heap.get? p.1 = some p.2 ∧ H p.1 = none ∧ p.1 ≠ X.env.locals ∧ p.1 ∉ X.fs ∧ ∀ v, p.2.data ≠ .cell v) : Inv X pins' σ H s :=
  ⟨I.ok, I.os, I.bare, I.base, I.loc, I.cell, I.free, I.freeC, fun p hp => (List.mem_append.mp hp).elim (fun z => I.pin p (List.mem_append_left _ z)) (h p), I.hok, I.len⟩
theorem nodup_ix {N : List Str} (hN : N.Nodup) {i j : Nat} {x : Str} (a : N[i]? = some x) (b : N[j]? = some x) : i = j := by
  obtain ⟨h1, e1⟩ := List.getElem?_eq_some_iff.mp a
  obtain ⟨h2, e2⟩ := List.getElem?_eq_some_iff.mp b
  exact (List.getElem_inj hN).mp (e1.trans e2.symm)
theorem store_ok2 {M : Model} {A : Around} {E : Value → Shared → Prop} {i : Nat} {x : Str} {v : V} {u : Value} {Q : Unit → Shared → Prop} (I : Inv X pins σ H s) (hN : X.N.Nodup) (hi : X.N[i]? = some x) (hx : Loc X.env.scope x) (r : RelV v u)
    (h : ∀ s', Inv X pins (σ.set i (some v)) H s' → (∃ a, Heap.SameBut a s.heap s'.heap ∧ (a = X.env.locals ∨ X.env.cells.lookup x = some a)) → Q () s') (hf : X.fn x = true ∨ X.env.scope.names.lookup x = some .local := by first | exact .inl rfl | exact .inr rfl | assumption) : wpAny M A (storeName X.env x u) Q E s := by
  obtain ⟨m, hn, hl⟩ := id I.loc
  have hcls : (X.env.scope.kind == .class || (X.env.scope.kind == .module && X.env.locals != X.env.globals)) = false := by rw [I.ok.kind]; rfl
  have hiσ : i < σ.length := by rw [I.len]; exact (List.getElem?_eq_some_iff.mp hi).1
  have cne := I.cne
  have tracked : ∀ {a : Addr} {h' : Heap}, (∃ o, s.heap.get? a = some o ∧ H a = none) → Heap.SameBut a s.heap h' → HOk X.prog X.w H h' := fun {a h'} ha hs b ob e => by
    obtain ⟨_, _, hfree⟩ := ha
    refine (I.hok b ob e).stay (fun c w' hc q => (hs.2 c ?_).trans q) (fun _ q => q) fun _ _ q => q
    rintro rfl
    rcases hc with rfl | hc
    · rw [hfree] at e; cases e
    · rw [hfree] at hc; cases hc
  rcases hx with hk | hk
  · refine wpAny_storeName_local hk hn (fun h' hn' hs => ?_) hcls
    obtain ⟨oL, _, _, hoL, _⟩ := id hn
    refine h _ ⟨I.ok, I.os, I.bare, ⟨fun b o e n hb hx => ?_, fun b o e n hb hx => ?_, I.base.free, fun b o e hx => ?_, I.base.tups, I.base.frzs, I.base.tbls⟩, ⟨_, hn', fun j y v' e1 e2 e3 => ?_⟩, fun y c e => ?_, I.free, I.freeC, fun p hp => ?_, tracked ⟨oL, hoL, I.free⟩ hs, by simpa using I.len⟩ ⟨_, hs, .inl rfl⟩
    · exact (hs.2 b (Nat.ne_of_lt (Nat.lt_of_lt_of_le (Heap.lt_size e) I.ok.above))).trans (I.base.keep b o e n hb hx)
    · obtain ⟨sl, e1⟩ := I.base.slot b o e n hb hx
      exact ⟨sl, (hs.2 b (Nat.ne_of_lt (Nat.lt_of_lt_of_le (Heap.lt_size e) I.ok.above))).trans e1⟩
    · obtain ⟨o', e1⟩ := I.base.there b o e hx
      exact ⟨o', (hs.2 b (Nat.ne_of_lt (Nat.lt_of_lt_of_le (Heap.lt_size e) I.ok.above))).trans e1⟩
    · by_cases hj : j = i
      · subst hj
        rw [hi] at e1; cases e1
        rw [List.getElem?_set_self hiσ] at e2
        cases e2
        exact ⟨u, r, .inl ⟨hk, by simp⟩⟩
      · rw [List.getElem?_set_ne (Ne.symm hj)] at e2
        obtain ⟨u', r', q⟩ := hl j y v' e1 e2 e3
        refine ⟨u', r', ?_⟩
        rcases q with ⟨k, e⟩ | ⟨k, c, e, z⟩
        · refine .inl ⟨k, ?_⟩
          have : y ≠ x := fun e => hj (nodup_ix hN e1 (e ▸ hi))
          simp [this, e]
        · exact .inr ⟨k, c, e, z.sameBut hs (cne y c e)⟩
    · obtain ⟨w', z⟩ := I.cell y c e
      exact ⟨w', z.sameBut hs (cne y c e)⟩
    · obtain ⟨e, n, ne, nf, d⟩ := I.pin p hp
      exact ⟨(hs.2 p.1 ne).trans e, n, ne, nf, d⟩
  · have hfn : X.fn x = true := by
      rcases hf with z | z
      · exact z
      · rw [z] at hk; cases hk
    obtain ⟨c, hc⟩ := I.ok.has x (.inl hk)
    obtain ⟨w', z⟩ := I.cell x c hc
    refine wpAny_storeName_cell I.ok.kind hk hc z (fun h' hc' hs => ?_)
    obtain ⟨oc, hoc, hocd⟩ := id z
    refine h { s with heap := h' } ⟨I.ok, I.os, I.bare, ⟨fun b o e n hb hx => ?_, fun b o e n hb hx => ?_, I.base.free, fun b o e hx => ?_, I.base.tups, I.base.frzs, I.base.tbls⟩, ⟨m, hn.sameBut hs (Ne.symm (cne x c hc)), fun j y v' e1 e2 e3 => ?_⟩, fun y c' e => ?_, I.free, I.freeC, fun p hp => ?_, tracked ⟨oc, hoc, I.freeC x c hc⟩ hs, by simpa using I.len⟩ ⟨c, hs, .inr hc⟩
    · exact (hs.2 b (Nat.ne_of_lt (Nat.lt_of_lt_of_le (Heap.lt_size e) (I.ok.cab x c hfn hc)))).trans (I.base.keep b o e n hb hx)
    · obtain ⟨sl, e1⟩ := I.base.slot b o e n hb hx
      exact ⟨sl, (hs.2 b (Nat.ne_of_lt (Nat.lt_of_lt_of_le (Heap.lt_size e) (I.ok.cab x c hfn hc)))).trans e1⟩
    · obtain ⟨o', e1⟩ := I.base.there b o e hx
      exact ⟨o', (hs.2 b (Nat.ne_of_lt (Nat.lt_of_lt_of_le (Heap.lt_size e) (I.ok.cab x c hfn hc)))).trans e1⟩
    · by_cases hj : j = i
      · subst hj
        rw [hi] at e1; cases e1
        rw [List.getElem?_set_self hiσ] at e2
        cases e2
        exact ⟨u, r, .inr ⟨.inl hk, c, hc, hc'⟩⟩
      · rw [List.getElem?_set_ne (Ne.symm hj)] at e2
        obtain ⟨u', r', q⟩ := hl j y v' e1 e2 e3
        refine ⟨u', r', ?_⟩
        rcases q with q | ⟨k, c', e, z'⟩
        · exact .inl q
        · refine .inr ⟨k, c', e, z'.sameBut hs ?_⟩
          rintro rfl
          exact hj (nodup_ix hN e1 (I.ok.inj _ _ _ e hc ▸ hi))
    · by_cases hcc : c' = c
      · subst hcc; exact ⟨_, hc'⟩
      · obtain ⟨w2, z2⟩ := I.cell y c' e
        exact ⟨w2, z2.sameBut hs hcc⟩
    · obtain ⟨e, n, ne, nf, d⟩ := I.pin p hp
      refine ⟨(hs.2 p.1 ?_).trans e, n, ne, nf, d⟩
      intro q
      rw [q, hoc] at e
      have q' : oc = p.2 := Option.some.inj e
      exact d w' (by rw [← q']; exact hocd)
theorem store_ok {M : Model} {A : Around} {E : Value → Shared → Prop} {i : Nat} {x : Str} {v : V} {u : Value} {Q : Unit → Shared → Prop} (I : Inv X pins σ H s) (hN : X.N.Nodup) (hi : X.N[i]? = some x) (hx : Loc X.env.scope x) (r : RelV v u)
    (h : ∀ s', Inv X pins (σ.set i (some v)) H s' → Q () s') (hf : X.fn x = true ∨ X.env.scope.names.lookup x = some .local := by first | exact .inl rfl | exact .inr rfl | assumption) : wpAny M A (storeName X.env x u) Q E s :=
  store_ok2 I hN hi hx r (fun s' I' _ => h s' I') hf
theorem Inv.call' {s' : Shared} {ch : List Addr} (I : Inv X pins σ H s) (ho : s'.os = s.os) (u : Un (frs X.stack) ch H H' s.heap s'.heap) (hok : HOk X.prog X.w H' s'.heap) (hg : AllBare s'.gens)
    (hch : ∀ b ∈ ch, (b ∈ X.ex ∨ X.s₀.heap.objs.size ≤ b) ∧ b ≠ X.env.locals ∧ (∀ x c, X.env.cells.lookup x = some c → c ≠ b) ∧ ∀ p ∈ X.pn ++ pins, p.1 ≠ b) : Inv X pins σ H' s' := by
  obtain ⟨h', g', d', t', o'⟩ := s'
  have e : o' = s.os := ho
  subst e
  exact I.call (g' := g') (t' := t') (d' := d') u hok hg hch
end
abbrev XK := Value → Option Addr → Hp → Prop
abbrev St := List (Option V)
abbrev VK := V → Hp → Prop
abbrev TE := St → Hp → VK → Prop
abbrev TT := St → Hp → (Bool → Hp → Prop) → Prop
abbrev TA := St → Hp → (List V → Hp → Prop) → Prop
structure Ends where
  nx : St → Hp → Prop
  rt : VK
  bk : St → Hp → Prop := fun _ _ => False
  ct : St → Hp → Prop := fun _ _ => False
abbrev TS := Ends → St → Hp → Prop
def EP (X : Cx) (pins : List (Addr × Obj)) (σ : St) (Q : VK) (u : Value) (s' : Shared) : Prop := ∃ v H', Inv X pins σ H' s' ∧ RelV v u ∧ Q v H'
def TP (X : Cx) (pins : List (Addr × Obj)) (σ : St) (Q : Bool → Hp → Prop) (b : Bool) (s' : Shared) : Prop := ∃ H', Inv X pins σ H' s' ∧ Q b H'
def AP (X : Cx) (pins : List (Addr × Obj)) (σ : St) (Q : List V → Hp → Prop) (us : List Value) (s' : Shared) : Prop := ∃ vs H', Inv X pins σ H' s' ∧ Vals vs us ∧ Q vs H'
def SP (X : Cx) (pins : List (Addr × Obj)) (D : Ends) (f : Flow) (s' : Shared) : Prop :=
  match f with
  | .next => ∃ σ' H', Inv X pins σ' H' s' ∧ D.nx σ' H'
  | .brk => ∃ σ' H', Inv X pins σ' H' s' ∧ D.bk σ' H'
  | .cont => ∃ σ' H', Inv X pins σ' H' s' ∧ D.ct σ' H'
  | .ret u => ∃ v σ' H', Inv X pins σ' H' s' ∧ RelV v u ∧ D.rt v H'
def PE (X : Cx) (e : Expr) (t : TE) : Prop :=
  ∀ (pins : List (Addr × Obj)) (s : Shared) (σ : St) (H : Hp) (Q : VK), Inv X pins σ H s → t σ H Q → wpAny (model X.prog X.w) X.A (eval e X.env) (EP X pins σ Q) X.xe s
def PT (X : Cx) (e : Expr) (t : TT) : Prop :=
  ∀ (pins : List (Addr × Obj)) (s : Shared) (σ : St) (H : Hp) (Q : Bool → Hp → Prop), Inv X pins σ H s → t σ H Q → wpAny (model X.prog X.w) X.A (isTrue e X.env (eval e X.env)) (TP X pins σ Q) X.xe s
def PW (X : Cx) (e : Expr) (t : TT) : Prop :=
  ∀ (whole : Sem Value) (pins : List (Addr × Obj)) (s : Shared) (σ : St) (H : Hp) (Q : Bool → Hp → Prop), Inv X pins σ H s → t σ H Q → wpAny (model X.prog X.w) X.A (isTrue e X.env whole) (TP X pins σ Q) X.xe s
theorem PW.pt {X : Cx} {e : Expr} {t : TT} (h : PW X e t) : PT X e t := h _
def PA (X : Cx) (es : List Expr) (t : TA) : Prop :=
  ∀ (pos : Pos) (pins : List (Addr × Obj)) (s : Shared) (σ : St) (H : Hp) (Q : List V → Hp → Prop), Inv X pins σ H s → t σ H Q → wpAny (model X.prog X.w) X.A (spliced (backTo pos (starEach es X.env))) (AP X pins σ Q) X.xe s
def PS (X : Cx) (st : Stmt) (t : TS) : Prop :=
  ∀ (pins : List (Addr × Obj)) (s : Shared) (σ : St) (H : Hp) (D : Ends), Inv X pins σ H s → t D σ H → wpAny (model X.prog X.w) X.A (exec st X.env) (SP X pins D) X.xe s
def PSs (X : Cx) (st : List Stmt) (t : TS) : Prop :=
  ∀ (pins : List (Addr × Obj)) (s : Shared) (σ : St) (H : Hp) (D : Ends), Inv X pins σ H s → t D σ H → wpAny (model X.prog X.w) X.A (execs st X.env) (SP X pins D) X.xe s
theorem thn {α : Type} {t : Sem α} {Q Q' : α → Shared → Prop} {M : Model} {A : Around} {E : Value → Shared → Prop} {s : Shared} (h : wpAny M A t Q E s) (hQ : ∀ a s, Q a s → Q' a s) : wpAny M A t Q' E s := wpAny_mono h hQ fun _ _ x => x
end L2
namespace L2
open PySem PySem.Spec PyProof.Rows
section
variable {X : Cx}
theorem bin {a b : Expr} {ta tb : TE} (ha : PE X a ta) (hb : PE X b tb) {pins : List (Addr × Obj)} {s : Shared} {σ : St} {H : Hp} {R : V → V → Hp → Prop} (I : Inv X pins σ H s) (h : ta σ H fun x H1 => tb σ H1 fun y H2 => R x y H2)
    {α : Type} {Q : α → Shared → Prop} {f : Value → Value → Sem α}
    (hf : ∀ v u s2 x y H2, Inv X pins σ H2 s2 → RelV x v → RelV y u → R x y H2 → wpAny (model X.prog X.w) X.A (f v u) Q X.xe s2) :
    wpAny (model X.prog X.w) X.A (eval a X.env) (fun v s₁ => wpAny (model X.prog X.w) X.A (eval b X.env) (fun u s₂ => wpAny (model X.prog X.w) X.A (f v u) Q X.xe s₂) X.xe s₁) X.xe s := by
  refine thn (ha pins s σ H _ I h) fun v s1 ⟨x, H1, I1, r1, q1⟩ => ?_
  refine thn (hb pins s1 σ H1 _ I1 q1) fun u s2 ⟨y, H2, I2, r2, q2⟩ => ?_
  exact hf v u s2 x y H2 I2 r1 r2 q2
def tVar (i : Nat) : TE := fun σ H Q => ∃ v, σ[i]? = some (some v) ∧ Q v H
def tC (v : V) : TE := fun _ H Q => Q v H
theorem pe_var {i : Nat} {x : Str} {pos : Pos} (hN : X.N[i]? = some x) (hv : Vis X.env.scope x) (hd : (x == ("__debug__" : Str)) = false := by decide) (hcd : (x == ("__classdict__" : Str)) = false := by decide) : PE X (.Name x pos) (tVar i) := by
  intro pins s σ H Q I h
  obtain ⟨v, e, h⟩ := h
  obtain ⟨m, hn, hl⟩ := I.loc
  obtain ⟨u, r, l⟩ := hl i x v hN e hv
  have fin : EP X pins σ Q u s := ⟨v, H, I, r, h⟩
  rcases l with ⟨hk, hm⟩ | ⟨hk, c, hc, hcell⟩
  · exact wpAny_Name (wpAny_loadName_local I.ok.kind hk hn hm fin) hd
  · rcases hk with hk | hk
    · exact wpAny_Name (wpAny_loadName_cell I.ok.kind hk hc hcell fin) hd
    · exact wpAny_Name (wpAny_loadName_free I.ok.kind hk hc hcell fin hcd) hd
theorem pe_int {i j pos} : PE X (.Constant (.int i) j pos) (tC (.int i)) := fun _ _ _ H _ I h => wpAny_Constant_int ⟨.int i, H, I.tok _, ⟨_, rfl⟩, h⟩
theorem pe_bl {b j pos} : PE X (.Constant (.bool b) j pos) (tC (.bl b)) := fun _ _ _ H _ I h => Constant_bool ⟨.bl b, H, I, rfl, h⟩
theorem pe_str {x j pos} : PE X (.Constant (.str x) j pos) (tC (.str x)) := fun _ _ _ H _ I h => Calls.Constant_str ⟨.str x, H, I.tok _, ⟨_, rfl⟩, h⟩
def Gl (X : Cx) (x : Str) : Prop := X.env.kindOf x = some .globalImplicit
theorem ld_glob {E : Value → Shared → Prop} {pins : List (Addr × Obj)} {s : Shared} {σ : St} {H : Hp} {x : Str} {u : Value} {pos : Pos} {Q : Value → Shared → Prop} (I : Inv X pins σ H s) (hg : Gl X x) (hm : X.mg x = some u) (h : Q u s)
    (hd : (x == ("__debug__" : Str)) = false := by decide) : wpAny (model X.prog X.w) X.A (eval (.Name x pos) X.env) Q E s :=
  Calls.Name_function_global I.ok.kind hg (Calls.loadGlobal_global (by rw [I.ok.glob]; exact I.mod.glob.keeps I.bk) hm h) hd
theorem ld_blt {E : Value → Shared → Prop} {pins : List (Addr × Obj)} {s : Shared} {σ : St} {H : Hp} {x : Str} {u : Value} {pos : Pos} {Q : Value → Shared → Prop} (I : Inv X pins σ H s) (hg : Gl X x) (hm : X.mg x = none) (hv : bootBuiltins x = some u) (h : Q u s)
    (hn : x ≠ "__name__" := by decide) (hd : (x == ("__debug__" : Str)) = false := by decide) : wpAny (model X.prog X.w) X.A (eval (.Name x pos) X.env) Q E s := by
  obtain ⟨mb, h1, h2⟩ := I.mod.blt
  exact Calls.Name_function_global I.ok.kind hg (Calls.loadGlobal_builtin (by rw [I.ok.glob]; exact I.mod.glob.keeps I.bk) hm (by rw [I.ok.blt]; exact h1.keeps I.bk) ((h2 x hn).trans hv) h) hd
def t2I (ta tb : TE) (k : Int → Int → Hp → Prop) : St → Hp → Prop := fun σ H => ta σ H fun x H1 => tb σ H1 fun y H2 => ∃ i j, x = .int i ∧ y = .int j ∧ k i j H2
def tAdd (ta tb : TE) : TE := fun σ H Q => t2I ta tb (fun i j H2 => Q (.int (i + j)) H2) σ H
def tSub (ta tb : TE) : TE := fun σ H Q => t2I ta tb (fun i j H2 => Q (.int (i - j)) H2) σ H
def tMul (ta tb : TE) : TE := fun σ H Q => t2I ta tb (fun i j H2 => (-(2 ^ 64) < i ∧ i < 2 ^ 64) ∧ Q (.int (i * j)) H2) σ H
variable {a b : Expr} {ta tb : TE} {pos : Pos}
def PC (X : Cx) (op : CmpOp) (a b : Expr) (t : TE) : Prop :=
  ∀ (pins : List (Addr × Obj)) (s : Shared) (σ : St) (H : Hp) (Q : VK), Inv X pins σ H s → t σ H Q →
    wpAny (model X.prog X.w) X.A (eval a X.env) (fun v s₁ => wpAny (model X.prog X.w) X.A (eval b X.env) (fun u s₂ => wpAny (model X.prog X.w) X.A (compareOp op v u) (EP X pins σ Q) X.xe s₂) X.xe s₁) X.xe s
theorem nobehind (b : Expr) {op : CmpOp} (h : op ≠ .In) (h2 : op ≠ .NotIn) : behindInMarks op b = false := by
  have e1 : (op == CmpOp.In) = false := by cases op <;> first | rfl | exact absurd rfl h
  have e2 : (op == CmpOp.NotIn) = false := by cases op <;> first | rfl | exact absurd rfl h2
  cases b <;> simp [behindInMarks, e1, e2]
def tCmp (p : Int → Int → Bool) (ta tb : TE) : TE := fun σ H Q => t2I ta tb (fun i j H2 => Q (.bl (p i j)) H2) σ H
abbrev tLt : TE → TE → TE := tCmp fun i j => decide (i < j)
abbrev tLe : TE → TE → TE := tCmp fun i j => decide (i ≤ j)
abbrev tGt : TE → TE → TE := tCmp fun i j => decide (j < i)
abbrev tGe : TE → TE → TE := tCmp fun i j => decide (j ≤ i)
abbrev tEqI : TE → TE → TE := tCmp fun i j => decide (i = j)
abbrev tNeI : TE → TE → TE := tCmp fun i j => !decide (i = j)
def tIsN (ta : TE) : TE := fun σ H Q => ta σ H fun x H1 => Q (.bl (decide (x = .non))) H1
def tNotN (ta : TE) : TE := fun σ H Q => ta σ H fun x H1 => Q (.bl (!decide (x = .non))) H1
def tB (t : TE) : TT := fun σ H Q => t σ H fun x H1 => ∃ c, x = .bl c ∧ Q c H1
theorem pt_cmp {op : CmpOp} {t : TE} (h : PC X op a b t) (h1 : behindInMarks op b = false := by first | exact nobehind _ (by decide) (by decide) | rfl) : PT X (.Compare a [op] [b] pos) (tB t) := by
  intro pins s σ H Q I hw
  refine wpAny_isTrue_Compare1 (thn (h pins s σ H _ I hw) fun v s1 h1 => thn h1 fun u s2 h2 => thn h2 fun c s3 ⟨x, H1, I1, r1, q1⟩ => ?_) h1
  obtain ⟨d, rfl, q⟩ := q1
  cases r1
  exact wpAny_truthy_bool ⟨H1, I1, q⟩
theorem pt_val {e : Expr} {t : TE} (h : PE X e t) (he : ∀ whole, isTrue e X.env whole = (do let v ← whole; standAt e.pos; holding [v] (truthy v)) := by intro _; rfl) : PT X e (tB t) := by
  intro pins s σ H Q I hw
  refine isTrue_plain (thn (h pins s σ H _ I hw) fun v s1 ⟨x, H1, I1, r1, q1⟩ => ?_) (he _)
  obtain ⟨d, rfl, q⟩ := q1
  cases r1
  exact wpAny_truthy_bool ⟨H1, I1, q⟩
variable {tA tB' : TT} {rest : List Expr}
def tAnd (t u : TT) : TT := fun σ H Q => t σ H fun c H1 => if c = true then u σ H1 Q else Q false H1
def tOr (t u : TT) : TT := fun σ H Q => t σ H fun c H1 => if c = true then Q true H1 else u σ H1 Q
def tNot (t : TT) : TT := fun σ H Q => t σ H fun c H1 => Q (!c) H1
theorem pw_and1 (ha : PT X a tA) : PW X (.BoolOp .And [a] pos) tA := by
  intro wh pins s σ H Q I h
  refine isTrue_and (thn (ha pins s σ H Q I h) fun c s1 e => ?_)
  cases c with
  | true => exact isTrue_and_nil e
  | false => exact e
theorem pw_or1 (ha : PT X a tA) : PW X (.BoolOp .Or [a] pos) tA := by
  intro wh pins s σ H Q I h
  refine isTrue_or (thn (ha pins s σ H Q I h) fun c s1 e => ?_)
  cases c with
  | false => exact isTrue_or_nil e
  | true => exact e
theorem pw_and (ha : PT X a tA) (hb : PW X (.BoolOp .And (b :: rest) pos) tB') : PW X (.BoolOp .And (a :: b :: rest) pos) (tAnd tA tB') := by
  intro wh pins s σ H Q I h
  refine isTrue_and (thn (ha pins s σ H _ I h) fun c s1 ⟨H1, I1, q1⟩ => ?_)
  cases c with
  | true => exact hb wh pins s1 σ H1 Q I1 q1
  | false => exact ⟨H1, I1, q1⟩
theorem pw_or (ha : PT X a tA) (hb : PW X (.BoolOp .Or (b :: rest) pos) tB') : PW X (.BoolOp .Or (a :: b :: rest) pos) (tOr tA tB') := by
  intro wh pins s σ H Q I h
  refine isTrue_or (thn (ha pins s σ H _ I h) fun c s1 ⟨H1, I1, q1⟩ => ?_)
  cases c with
  | true => exact ⟨H1, I1, q1⟩
  | false => exact hb wh pins s1 σ H1 Q I1 q1
theorem pt_not (ha : PT X a tA) : PT X (.UnaryOp .Not a pos) (tNot tA) := by
  intro pins s σ H Q I h
  exact isTrue_not (ha pins s σ H (fun c H1 => Q (!c) H1) I h)
def tAndV (ta tb : TE) : TE := fun σ H Q => ta σ H fun x H1 => ∃ c, x = .bl c ∧ if c = true then tb σ H1 Q else Q (.bl false) H1
def tOrV (ta tb : TE) : TE := fun σ H Q => ta σ H fun x H1 => ∃ c, x = .bl c ∧ if c = true then Q (.bl true) H1 else tb σ H1 Q
def tNotV (ta : TE) : TE := fun σ H Q => ta σ H fun x H1 => ∃ c, x = .bl c ∧ Q (.bl (!c)) H1
def tIf (t : TT) (ta tb : TE) : TE := fun σ H Q => t σ H fun c H1 => if c = true then ta σ H1 Q else tb σ H1 Q
end
end L2
namespace L2
open PySem PySem.Spec PyProof.Rows
def SqL (K : PySem.W.Frag) (H : Hp) (a : Addr) (xs : List V) : Prop :=
  Rd H a (.lst xs) ∨
    ∃ (o : Obj) (its : Array Value) (n : Nat), K.lookup a = some o ∧ o.cls = .type "list" ∧ o.dict = none ∧ o.data = .seq its n ∧ its.size ≤ sizeLine ∧ Vals xs its.toList
def SqT (K : PySem.W.Frag) (H : Hp) (a : Addr) (xs : List V) : Prop :=
  Rd H a (.tup xs) ∨
    ∃ (o : Obj) (its : Array Value) (n : Nat), K.lookup a = some o ∧ o.cls = .type "tuple" ∧ o.data = .seq its n ∧ its.size ≤ sizeLine ∧ Vals xs its.toList
def absV : Value → Option V
  | .none => some .non
  | .bool b => some (.bl b)
  | .int i _ => some (.int i)
  | .str x _ => some (.str x)
  | .bytes b _ => some (.byt b)
  | .float b _ => some (.flt b)
  | .ref a => some (.ref a)
  | .type n => some (.ty n)
  | _ => none
theorem RelV.abs {x : V} {u : Value} (r : RelV x u) : absV u = some x := by
  cases x with
  | non => cases r; rfl
  | bl _ => cases r; rfl
  | int _ => obtain ⟨t, rfl⟩ := r; rfl
  | str _ => obtain ⟨t, rfl⟩ := r; rfl
  | byt _ => obtain ⟨t, rfl⟩ := r; rfl
  | flt _ => obtain ⟨t, rfl⟩ := r; rfl
  | ref _ => cases r; rfl
  | ty _ => cases r; rfl
theorem RelV.inj {x y : V} {u : Value} (r : RelV x u) (q : RelV y u) : x = y := Option.some.inj (r.abs.symm.trans q.abs)
theorem Vals.inj : ∀ {xs ys : List V} {us : List Value}, Vals xs us → Vals ys us → xs = ys
  | _, _, _, .nil, .nil => rfl
  | _, _, _, .cons r t, .cons r' t' => by rw [r.inj r', Vals.inj t t']
section
variable {X : Cx} {pins : List (Addr × Obj)} {σ : St} {H : Hp} {s : Shared} {a : Addr} {xs ys : List V}
theorem SqL.of {K : PySem.W.Frag} (h : H a = some (.lst xs)) : SqL K H a xs := .inl (.inl h)
theorem SqT.of {K : PySem.W.Frag} (h : H a = some (.tup xs)) : SqT K H a xs := .inl (.inl h)
theorem Inv.list (I : Inv X pins σ H s) (h : SqL X.K H a xs) : ∃ its : List Value, Vals xs its ∧ PlainL s.heap a its.toArray ∧ xs.length ≤ sizeLine := by
  rcases h with h | ⟨o, its, n, hk, hc, hd, hs, hz, r⟩
  · obtain ⟨z, its, n, r, e⟩ := h.ok I.hok
    exact ⟨its, r, ⟨_, n, e, rfl, rfl, rfl⟩, z⟩
  · refine ⟨its.toList, r, ⟨o, n, I.kIn a o hk, hc, hd, by simpa using hs⟩, ?_⟩
    have e := r.length
    simp only [Array.length_toList] at e
    omega
theorem Inv.tuple (I : Inv X pins σ H s) (h : SqT X.K H a xs) : ∃ its : List Value, Vals xs its ∧ IsTup s.heap a its.toArray ∧ xs.length ≤ sizeLine := by
  rcases h with h | ⟨o, its, n, hk, hc, hs, hz, r⟩
  · obtain ⟨z, its, r, p⟩ := h.ok I.hok
    exact ⟨its, r, p, z⟩
  · refine ⟨its.toList, r, ⟨o, I.kIn a o hk, hc, n, by simpa using hs⟩, ?_⟩
    have e := r.length
    simp only [Array.length_toList] at e
    omega
theorem Inv.list_inj (I : Inv X pins σ H s) (h : SqL X.K H a xs) (h' : SqL X.K H a ys) : xs = ys := by
  obtain ⟨its, r, ⟨o, n, e, _, _, d⟩, _⟩ := I.list h
  obtain ⟨its', r', ⟨o', n', e', _, _, d'⟩, _⟩ := I.list h'
  rw [e] at e'; cases e'
  rw [d] at d'
  injection d' with d1 _
  have : its = its' := by simpa using congrArg Array.toList d1
  subst this
  exact r.inj r'
end
abbrev Cx.wish (X : Cx) (E : Value → Shared → Prop) : Cx := { X with xe := E }
abbrev Cx.nox (X : Cx) : Cx := X.wish fun _ _ => False
theorem Cx.Ok.wish {X : Cx} (ok : X.Ok) (E : Value → Shared → Prop) : (X.wish E).Ok :=
  ⟨ok.mod, ok.kind, ok.glob, ok.blt, ok.above, ok.inj, ok.has, ok.cab, ok.hd, ok.frames, ok.stk, ok.exf, ok.bs, ok.bsz, ok.noex, ok.exfs, ok.funs, ok.frf⟩
theorem Cx.Ok.unwish {X : Cx} {E : Value → Shared → Prop} (ok : (X.wish E).Ok) : X.Ok :=
  ⟨ok.mod, ok.kind, ok.glob, ok.blt, ok.above, ok.inj, ok.has, ok.cab, ok.hd, ok.frames, ok.stk, ok.exf, ok.bs, ok.bsz, ok.noex, ok.exfs, ok.funs, ok.frf⟩
section
variable {X : Cx} {pins : List (Addr × Obj)} {σ : St} {H : Hp} {s : Shared} {E : Value → Shared → Prop}
theorem Inv.wish (I : Inv X pins σ H s) (E : Value → Shared → Prop) : Inv (X.wish E) pins σ H s := ⟨I.ok.wish E, I.os, I.bare, I.base, I.loc, I.cell, I.free, I.freeC, I.pin, I.hok, I.len⟩
theorem Inv.unwish (I : Inv (X.wish E) pins σ H s) : Inv X pins σ H s := ⟨I.ok.unwish, I.os, I.bare, I.base, I.loc, I.cell, I.free, I.freeC, I.pin, I.hok, I.len⟩
theorem SP.unwish {D : Ends} {f : Flow} {s' : Shared} (h : SP (X.wish E) pins D f s') : SP X pins D f s' := by
  cases f with
  | next => obtain ⟨σ', H', I, q⟩ := h; exact ⟨σ', H', I.unwish, q⟩
  | brk => obtain ⟨σ', H', I, q⟩ := h; exact ⟨σ', H', I.unwish, q⟩
  | cont => obtain ⟨σ', H', I, q⟩ := h; exact ⟨σ', H', I.unwish, q⟩
  | ret u => obtain ⟨v, σ', H', I, r, q⟩ := h; exact ⟨v, σ', H', I.unwish, r, q⟩
theorem PE.nox {e : Expr} {t : TE} (h : PE X.nox e t) : PE X e t := fun pins s σ H Q I hw =>
  wpAny_mono (h pins s σ H Q (I.wish _) hw) (fun _ _ ⟨v, H', I', r, q⟩ => ⟨v, H', I'.unwish, r, q⟩) fun _ _ z => False.elim z
theorem PT.nox {e : Expr} {t : TT} (h : PT X.nox e t) : PT X e t := fun pins s σ H Q I hw =>
  wpAny_mono (h pins s σ H Q (I.wish _) hw) (fun _ _ ⟨H', I', q⟩ => ⟨H', I'.unwish, q⟩) fun _ _ z => False.elim z
theorem PSs.nox {st : List Stmt} {t : TS} (h : PSs X.nox st t) : PSs X st t := fun pins s σ H D I hw =>
  wpAny_mono (h pins s σ H D (I.wish _) hw) (fun _ _ q => q.unwish) fun _ _ z => False.elim z
end
section
variable {X : Cx} {st : Stmt} {rest : List Stmt} {t u : TS} {e : Expr} {te : TE} {pos : Pos}
def tNext : TS := fun D σ H => D.nx σ H
def tSeq (t u : TS) : TS := fun D σ H => t { D with nx := u D } σ H
theorem pss_nil : PSs X [] tNext := fun _ _ σ H _ I h => wpAny_execs_nil ⟨σ, H, I, h⟩
theorem pss_cons (h1 : PS X st t) (h2 : PSs X rest u) : PSs X (st :: rest) (tSeq t u) := by
  intro pins s σ H D I h
  refine wpAny_execs_cons (thn (h1 pins s σ H { D with nx := u D } I h) fun f s1 q => ?_)
  cases f with
  | next =>
    obtain ⟨σ', H', I', q⟩ := q
    exact h2 pins s1 σ' H' D I' q
  | ret v => exact q
  | brk => exact q
  | cont => exact q
theorem pss_one (h1 : PS X st t) : PSs X [st] t := by
  intro pins s σ H D I h
  refine wpAny_execs_cons (thn (h1 pins s σ H D I h) fun f s1 q => ?_)
  cases f with
  | next => exact wpAny_execs_nil q
  | ret v => exact q
  | brk => exact q
  | cont => exact q
def tBreak : TS := fun D σ H => D.bk σ H
def tCont : TS := fun D σ H => D.ct σ H
theorem Inv.quiet {pins : List (Addr × Obj)} {σ : St} {H : Hp} {s : Shared} (I : Inv X pins σ H s) : interactive X.env = false := by simp [interactive, I.ok.kind]
def tDrop (te : TE) : TS := fun D σ H => te σ H fun _ H1 => D.nx σ H1
theorem ps_expr (he : PE X e te) (hs : swapsWith e none pos.line X.env = pure false := by rfl) : PS X (.Expr e pos) (tDrop te) := by
  intro pins s σ H D I h
  exact wpAny_Expr_any (thn (he pins s σ H _ I h) fun v s1 ⟨x, H1, I1, r1, q1⟩ => ⟨σ, H1, I1, q1⟩) I.quiet hs
def tRet (te : TE) : TS := fun D σ H => te σ H D.rt
theorem ps_ret (he : PE X e te) : PS X (.Return (some e) pos) (tRet te) := by
  intro pins s σ H D I h
  exact wpAny_Return_some (thn (he pins s σ H _ I h) fun v s1 ⟨x, H1, I1, r1, q1⟩ => ⟨x, σ, H1, I1, r1, q1⟩)
def tRetN : TS := fun D _ H => D.rt .non H
def tIfS (c : TT) (t u : TS) : TS := fun D σ H => c σ H fun b H1 => if b = true then t D σ H1 else u D σ H1
theorem ps_if {c : Expr} {a b : List Stmt} {tc : TT} (hc : PT X c tc) (ha : PSs X a t) (hb : PSs X b u) : PS X (.If c a b pos) (tIfS tc t u) := by
  intro pins s σ H D I h
  refine wpAny_If (thn (hc pins s σ H _ I h) fun d s1 ⟨H1, I1, q1⟩ => ?_)
  cases d with
  | true => exact ha pins s1 σ H1 D I1 q1
  | false => exact hb pins s1 σ H1 D I1 q1
def tNever : TS := fun _ _ _ => False
theorem ps_never : PS X st tNever := fun _ _ _ _ _ _ h => h.elim
end
abbrev TG := V → St → Hp → (St → Hp → Prop) → Prop
abbrev TGs := List V → St → Hp → (St → Hp → Prop) → Prop
def PG (X : Cx) (target : Expr) (t : TG) : Prop :=
  ∀ (pins : List (Addr × Obj)) (s : Shared) (σ : St) (H : Hp) (v : V) (u : Value) (Q : St → Hp → Prop), Inv X pins σ H s → RelV v u → t v σ H Q →
    wpAny (model X.prog X.w) X.A (assign target X.env u) (fun _ s' => ∃ σ' H', Inv X pins σ' H' s' ∧ Q σ' H') X.xe s
def PGs (X : Cx) (ts : List Expr) (t : TGs) : Prop :=
  ∀ (pins : List (Addr × Obj)) (s : Shared) (σ : St) (H : Hp) (vs : List V) (us : List Value) (Q : St → Hp → Prop), Inv X pins σ H s → Vals vs us → t vs σ H Q →
    wpAny (model X.prog X.w) X.A (assignInOrder ((assignEach ts X.env).map (·.2)) us) (fun _ s' => ∃ σ' H', Inv X pins σ' H' s' ∧ Q σ' H') X.xe s
abbrev TSet := V → V → V → Hp → (Hp → Prop) → Prop
def PSet (X : Cx) (t : TSet) : Prop :=
  ∀ (pins : List (Addr × Obj)) (s : Shared) (σ : St) (H : Hp) (o i v : V) (ov iv u : Value) (Q : Hp → Prop), Inv X pins σ H s → RelV o ov → RelV i iv → RelV v u → t o i v H Q →
    wpAny (model X.prog X.w) X.A (setItem ov iv u) (fun _ s' => ∃ H', Inv X pins σ H' s' ∧ Q H') X.xe s
abbrev TIp := V → V → Hp → VK → Prop
def PIp (X : Cx) (op : Operator) (t : TIp) : Prop :=
  ∀ (pins : List (Addr × Obj)) (s : Shared) (σ : St) (H : Hp) (x y : V) (v u : Value) (Q : VK), Inv X pins σ H s → RelV x v → RelV y u → t x y H Q →
    wpAny (model X.prog X.w) X.A (inplaceOp op v u) (EP X pins σ Q) X.xe s
section
variable {X : Cx} {pos : Pos}
def gName (i : Nat) : TG := fun v σ H Q => Q (σ.set i (some v)) H
theorem pg_name {i : Nat} {x : Str} (hN : X.N.Nodup) (hi : X.N[i]? = some x) (hx : Loc X.env.scope x) (hf : X.fn x = true ∨ X.env.scope.names.lookup x = some .local := by first | exact .inl rfl | exact .inr rfl | assumption) : PG X (.Name x pos) (gName i) := by
  intro pins s σ H v u Q I r h
  exact wpAny_assign_Name (store_ok I hN hi hx r (fun s' I' => ⟨_, H, I', h⟩) hf)
def gNil : TGs := fun vs σ H Q => vs = [] ∧ Q σ H
def gCons (t : TG) (u : TGs) : TGs := fun vs σ H Q => ∃ v r, vs = v :: r ∧ t v σ H fun σ' H' => u r σ' H' Q
theorem pgs_nil : PGs X [] gNil := by
  intro pins s σ H vs us Q I r h
  obtain ⟨e, h⟩ := h
  subst e
  cases r
  exact assignInOrder_nil ⟨σ, H, I, h⟩
theorem pgs_cons {e : Expr} {es : List Expr} {t : TG} {u : TGs} (h1 : PG X e t) (h2 : PGs X es u)
    (hs : (assignEach (e :: es) X.env).map (·.2) = assign e X.env :: (assignEach es X.env).map (·.2) := by rfl) : PGs X (e :: es) (gCons t u) := by
  intro pins s σ H vs us Q I r h
  obtain ⟨v, vr, e1, h⟩ := h
  subst e1
  cases r with
  | cons r rr =>
    rw [hs]
    refine assignInOrder_cons (thn (h1 pins s σ H _ _ _ I r h) fun _ s1 ⟨σ1, H1, I1, q1⟩ => ?_)
    exact h2 pins s1 σ1 H1 _ _ Q I1 rr q1
def gTup (K : PySem.W.Frag) (n : Nat) (t : TGs) : TG := fun v σ H Q => ∃ a xs, v = .ref a ∧ SqT K H a xs ∧ xs.length = n ∧ t xs σ H Q
theorem pg_tup {es : List Expr} {k : Nat} {t : TGs} {n : Nat} (hc : X.calm = true) (h : PGs X es t)
    (hn : (assignEach es X.env).length = n := by rfl) (hst : (assignEach es X.env).findIdx? (·.1) = none := by rfl) : PG X (.Tuple es k pos) (gTup X.K n t) := by
  intro pins s σ H v u Q I r hw
  obtain ⟨a, xs, e1, hq, hl, hw⟩ := hw
  subst e1
  cases r
  obtain ⟨its, rv, ht, hz⟩ := I.tuple hq
  refine assign_Tuple_tuple (I.ok.hd hc) ht (by simp [hn, ← hl, rv.length]) hst fun h' hx => ?_
  have I1 : Inv X pins σ H { s with heap := h' } := I.kept (t' := s.toks) fun b o e => hx b o (Nat.ne_of_lt (Heap.lt_size e)) e
  exact h pins _ σ H xs _ Q I1 (by simpa using rv) hw
def gSub (to ti : TE) (t : TSet) : TG := fun v σ H Q => to σ H fun o H1 => ti σ H1 fun i H2 => t o i v H2 fun H3 => Q σ H3
theorem pg_sub {o i : Expr} {to ti : TE} {t : TSet} (ho : PE X o to) (hi : PE X i ti) (hs : PSet X t)
    (ha : ∀ v, assign (.Subscript o i pos) X.env v = (do
      let ov ← holding [v] (eval o X.env)
      let iv ← holding [v, ov] (eval i X.env)
      standAt pos
      holding [v, ov, iv] (setItem ov iv v)
      release [v, ov, iv] []) := by intro _; rfl) : PG X (.Subscript o i pos) (gSub to ti t) := by
  intro pins s σ H v u Q I r h
  rw [ha]
  refine wpAny_bind (wpAny_holding (thn (ho pins s σ H _ I h) fun ov s1 ⟨x, H1, I1, r1, q1⟩ => ?_))
  refine wpAny_bind (wpAny_holding (thn (hi pins s1 σ H1 _ I1 q1) fun iv s2 ⟨y, H2, I2, r2, q2⟩ => ?_))
  refine wpAny_bind (wpAny_standAt (wpAny_bind (wpAny_holding (thn (hs pins s2 σ H2 x y v ov iv u _ I2 r1 r2 r q2) fun _ s3 ⟨H3, I3, q3⟩ => ?_))))
  exact wpAny_release ⟨σ, H3, I3, q3⟩
def tAsg (te : TE) (g : TG) : TS := fun D σ H => te σ H fun x H1 => g x σ H1 D.nx
theorem ps_asg {tg e : Expr} {te : TE} {g : TG} (he : PE X e te) (hg : PG X tg g) (hs : swapsWithSole [tg] e pos.line X.env = pure false := by rfl) (hw : swappedStores [tg] e X.env = pure none := by rfl)
    (h1 : (assignEach [tg] X.env).map (·.2) = [assign tg X.env] := by rfl) : PS X (.Assign [tg] e pos) (tAsg te g) := by
  intro pins s σ H D I h
  refine wpAny_Assign_stores (thn (he pins s σ H _ I h) fun v s1 ⟨x, H1, I1, r1, q1⟩ => ?_) hs hw
  rw [h1]
  exact thn (hg pins s1 σ H1 x v _ I1 r1 q1) fun _ s2 q => q
theorem ps_set {i : Nat} {x : Str} {e : Expr} {te : TE} {pos' : Pos} (hN : X.N.Nodup) (hi : X.N[i]? = some x) (hx : Loc X.env.scope x) (he : PE X e te) (hs : swapsWith e (some (.Name x pos')) pos.line X.env = pure false := by rfl) (hf : X.fn x = true ∨ X.env.scope.names.lookup x = some .local := by first | exact .inl rfl | exact .inr rfl | assumption) :
    PS X (.Assign [.Name x pos'] e pos) (tAsg te (gName i)) := by
  intro pins s σ H D I h
  refine wpAny_Assign_Name (thn (he pins s σ H _ I h) fun v s1 ⟨y, H1, I1, r1, q1⟩ => ?_) hs
  exact store_ok I1 hN hi hx r1 (fun s2 I2 => ⟨_, H1, I2, q1⟩) hf
def tPar (i j : Nat) (ta : TA) : TS := fun D σ H => ta σ H fun vs H1 => ∃ v w, vs = [v, w] ∧ D.nx ((σ.set i (some v)).set j (some w)) H1
theorem ps_par {i j : Nat} {x y : Str} {a b : Expr} {ta : TA} {px py pt : Pos} {kt k2 pt2} (hc : X.calm = true) (hN : X.N.Nodup) (hi : X.N[i]? = some x) (hj : X.N[j]? = some y) (hij : i ≠ j)
    (hx : X.env.scope.names.lookup x = some .local) (hy : X.env.scope.names.lookup y = some .local) (ha : PA X [a, b] ta)
    (hw : swappedStores [.Tuple [.Name x px, .Name y py] kt pt] (.Tuple [a, b] k2 pt2) X.env = pure (some [x, y]))
    (hs : swapsWithSole [.Tuple [.Name x px, .Name y py] kt pt] (.Tuple [a, b] k2 pt2) pos.line X.env = pure false := by rfl) :
    PS X (.Assign [.Tuple [.Name x px, .Name y py] kt pt] (.Tuple [a, b] k2 pt2) pos) (tPar i j ta) := by
  intro pins s σ H D I h
  rw [exec_Assign_arm]
  refine wpAny_bind (wpAny_standAt ?_)
  rw [hs]
  refine wpAny_bind (wpAny_pure ?_)
  rw [if_neg (by decide)]
  refine wpAny_bind (Tuple_ (thn (ha _ pins s σ H _ I h) fun us s1 ⟨vs, H1, I1, r1, q1⟩ => ?_))
  obtain ⟨v, w, e1, q1⟩ := q1
  subst e1
  obtain ⟨u1, u2, rfl, rv, rw'⟩ : ∃ u1 u2, us = [u1, u2] ∧ RelV v u1 ∧ RelV w u2 := by
    cases r1 with
    | cons p q =>
      cases q with
      | cons p' q' =>
        cases q'
        exact ⟨_, _, rfl, p, p'⟩
  refine wpAny_newObj_type ?_ (by show 2 ≤ sizeLine; decide)
  have I2 : Inv X pins σ H1 { s1 with heap := s1.heap.push { cls := .type "tuple", data := .seq [u1, u2].toArray } } := I1.kept (t' := s1.toks) fun b o e => Heap.get?_push_of_some _ e
  rw [hw]
  refine wpAny_bind (wpAny_pure ?_)
  show wpAny (model X.prog X.w) X.A (do rule "assign.swapped-stores"; let items ← unpackItems (.ref s1.heap.objs.size) 2 none; assignInOrder [fun v => bindName X.env y v, fun v => bindName X.env x v] items.reverse; pure Flow.next) _ _ _
  refine wpAny_bind (wpAny_rule (wpAny_bind (unpackItems_tuple (items := #[u1, u2]) (I.ok.hd hc) (IsTup.new s1.heap _) fun h' hx' => ?_)))
  have I3 := I2.kept (h' := h') (t' := s1.toks) fun b o e => hx' b o (Nat.ne_of_lt (Heap.lt_size e)) e
  show wpAny _ _ (assignInOrder [fun v => bindName X.env y v, fun v => bindName X.env x v] [u2, u1] >>= fun _ => pure Flow.next) _ _ _
  refine wpAny_bind (assignInOrder_cons (wpAny_bindName (store_ok I3 hN hj (.inl hy) rw' (fun s2 I4 => ?_) (.inr hy))))
  refine assignInOrder_cons (wpAny_bindName (store_ok I4 hN hi (.inl hx) rv (fun s3 I5 => assignInOrder_nil (wpAny_pure ?_)) (.inr hx)))
  rw [List.set_comm _ _ (Ne.symm hij)] at I5
  exact ⟨_, H1, I5, q1⟩
def tAug (i : Nat) (te : TE) (ti : TIp) : TS := fun D σ H => ∃ x, σ[i]? = some (some x) ∧ te σ H fun y H1 => ti x y H1 fun z H2 => D.nx (σ.set i (some z)) H2
def tAugS (to ti te : TE) (tget : V → V → Hp → VK → Prop) (tip : TIp) (tset : TSet) : TS := fun D σ H => to σ H fun o H1 => ti σ H1 fun i H2 => tget o i H2 fun x H3 => te σ H3 fun y H4 => tip x y H4 fun z H5 => tset o i z H5 fun H6 => D.nx σ H6
def PGet (X : Cx) (t : V → V → Hp → VK → Prop) : Prop :=
  ∀ (pins : List (Addr × Obj)) (s : Shared) (σ : St) (H : Hp) (o i : V) (ov iv : Value) (Q : VK), Inv X pins σ H s → RelV o ov → RelV i iv → t o i H Q →
    wpAny (model X.prog X.w) X.A (getItem ov iv) (EP X pins σ Q) X.xe s
def ipI (f : Int → Int → Int) : TIp := fun x y H Q => ∃ i j, x = .int i ∧ y = .int j ∧ Q (.int (f i j)) H
end
section
variable {X : Cx} {pos : Pos}
def tWhile (c : TT) (tb : TS) : TS := fun D σ H => ∃ W : Nat → St → Hp → Prop, (∃ m, W m σ H) ∧ ∀ m σ H, W m σ H →
  c σ H fun b H1 => if b = true then ∃ N : St → Hp → Prop, (∀ σ' H', N σ' H' → ∃ m', m' < m ∧ W m' σ' H') ∧ tb { D with nx := N, ct := N, bk := D.nx } σ H1 else D.nx σ H1
theorem ps_while {c : Expr} {body : List Stmt} {tc : TT} {tb : TS} (hp : PassesOwn (model X.prog X.w) X.A X.env X.xe) (hc : PT X c tc) (hb : PSs X body tb) : PS X (.While c body [] pos) (tWhile tc tb) := by
  intro pins s σ H D I h
  obtain ⟨W, ⟨m0, w0⟩, turn⟩ := h
  refine wpAny_While (codeAny_whileLoop (fun n s' => ∃ σ' H', Inv X pins σ' H' s' ∧ W n σ' H') ?_ m0 ⟨σ, H, I, w0⟩)
  rintro n s1 ⟨σ1, H1, I1, w1⟩
  refine wpAny_passesOwn hp (thn (hc pins s1 σ1 H1 _ I1 (turn n σ1 H1 w1)) fun b s2 ⟨H2, I2, q2⟩ => ?_)
  cases b with
  | true =>
    obtain ⟨N, hN, q2⟩ := q2
    rw [if_pos rfl]
    refine wpAny_passesOwn hp (thn (hb pins s2 σ1 H2 _ I2 q2) fun f s3 q3 => ?_)
    cases f with
    | next =>
      obtain ⟨σ3, H3, I3, n3⟩ := q3
      obtain ⟨m', hm, w3⟩ := hN σ3 H3 n3
      exact ⟨m', hm, σ3, H3, I3, w3⟩
    | cont =>
      obtain ⟨σ3, H3, I3, n3⟩ := q3
      obtain ⟨m', hm, w3⟩ := hN σ3 H3 n3
      exact ⟨m', hm, σ3, H3, I3, w3⟩
    | brk => exact q3
    | ret v => exact q3
  | false =>
    rw [if_neg Bool.false_ne_true]
    exact wpAny_execs_nil ⟨σ1, H2, I2, q2⟩
end
structure It where
  go : Nat → Hp → Prop
  yld : Nat → Hp → V → Hp → Prop
  stop : Nat → Hp → Prop
def FpOk (X : Cx) (pins : List (Addr × Obj)) (H : Hp) (b : Addr) : Prop :=
  H b = none ∧ b ≠ X.env.locals ∧ b ∉ X.fs ∧ (b ∈ X.ex ∨ X.s₀.heap.objs.size ≤ b) ∧ (∀ x c, X.env.cells.lookup x = some c → c ≠ b) ∧ ∀ p ∈ X.pn ++ pins, p.1 ≠ b
theorem Inv.fpOk {X : Cx} {pins : List (Addr × Obj)} {σ : St} {H H' : Hp} {s : Shared} {b : Addr} (I : Inv X pins σ H s) (hb : s.heap.objs.size ≤ b) (hn : H' b = none) : FpOk X pins H' b := by
  refine ⟨hn, Nat.ne_of_gt (Nat.lt_of_lt_of_le I.lt hb), I.nofs hb, .inr (Nat.le_trans I.sz hb), fun x c e z => ?_, fun p hp z => ?_⟩
  · obtain ⟨v, q⟩ := I.cell x c e
    exact absurd (Nat.lt_of_lt_of_le q.lt (by rw [z]; exact hb)) (Nat.lt_irrefl _)
  · exact absurd (Nat.lt_of_lt_of_le (Heap.lt_size (I.pin p hp).1) (by rw [z]; exact hb)) (Nat.lt_irrefl _)
structure Turn (P : Program) (w : World) (K : PySem.W.Frag) (tg : Expr) (J : It) (fp : List Addr) (it : Addr) (tn : Nat → Heap → Prop) : Prop where
  mem : it ∈ fp
  obj : ∀ i h, tn i h → ∀ b ∈ fp, ∃ o, h.get? b = some o ∧ ∀ v, o.data ≠ .cell v
  keep : ∀ i h h', tn i h → (∀ b ∈ fp, ∀ o, h.get? b = some o → h'.get? b = some o) → tn i h'
  item : ∀ (X : Cx), X.prog = P → X.w = w → X.K = K → X.calm = true → ∀ (i : Nat) (pins : List (Addr × Obj)) (s : Shared) (σ : St) (H : Hp) (E : Value → Shared → Prop), Inv X pins σ H s → (∀ b ∈ fp, FpOk X pins H b) → tn i s.heap → J.go i H →
    wpAny (model P w) X.A (pyNext (.ref it)) (fun r s1 => ∃ u, r = some u ∧
      wpAny (model P w) X.A (letOwnedTupleGo tg (.ref it) u) (fun _ s2 => ∃ x H', Inv X pins σ H' s2 ∧ RelV x u ∧ J.yld i H x H' ∧ tn (i + 1) s2.heap ∧ ∀ b ∈ fp, H' b = none) E s1) E s
  done : ∀ (X : Cx), X.prog = P → X.w = w → X.K = K → X.calm = true → ∀ (i : Nat) (pins : List (Addr × Obj)) (s : Shared) (σ : St) (H : Hp) (E : Value → Shared → Prop), Inv X pins σ H s → (∀ b ∈ fp, FpOk X pins H b) → tn i s.heap → J.stop i H →
    wpAny (model P w) X.A (pyNext (.ref it)) (fun r s1 => r = none ∧ Inv X pins σ H s1) E s
  self : ∀ (A : Around) (i : Nat) (s : Shared) (Q : Value → Shared → Prop) (E : Value → Shared → Prop), tn i s.heap → Q (.ref it) s → wpAny (model P w) A (pyIter (.ref it)) Q E s
abbrev TI := St → Hp → (It → Hp → Prop) → Prop
def PIE (X : Cx) (pins : List (Addr × Obj)) (σ : St) (tg : Expr) (R : It → Hp → Prop) (itv : Value) (s2 : Shared) : Prop :=
  ∃ (it : Addr) (fp : List Addr) (tn : Nat → Heap → Prop) (J : It) (H' : Hp), itv = .ref it ∧ Inv X pins σ H' s2 ∧ Turn X.prog X.w X.K tg J fp it tn ∧ tn 0 s2.heap ∧ (∀ b ∈ fp, FpOk X pins H' b) ∧ R J H'
def PI (X : Cx) (tg iter : Expr) (wi : TI) : Prop :=
  ∀ (pins : List (Addr × Obj)) (s : Shared) (σ : St) (H : Hp) (R : It → Hp → Prop), Inv X pins σ H s → wi σ H R →
    wpAny (model X.prog X.w) X.A (eval iter X.env) (fun v s1 => wpAny (model X.prog X.w) X.A (pyIter v) (PIE X pins σ tg R) X.xe s1) X.xe s
theorem go_of {M : Model} {A : Around} {E : Value → Shared → Prop} {s : Shared} {tg : Expr} {it : Addr} {u : Value} {o : Obj} {n : String} {vs : Array Value} {Q : Unit → Shared → Prop} (ho : s.heap.get? it = some o) (hc : o.cls = .type n) (hd : o.data = .fields vs)
    (hn : ["enumerate", "zip", "dict_itemiterator", "dict_reverseitemiterator", "odict_iterator", "itertools.zip_longest", "itertools.pairwise"].contains n = false) (hQ : Q () s) : wpAny M A (letOwnedTupleGo tg (.ref it) u) Q E s := by
  unfold letOwnedTupleGo
  cases tg <;> first
    | exact wpAny_pure hQ
    | (cases u <;> first
        | exact wpAny_pure hQ
        | (refine wpAny_bind (wpAny_load ho ?_)
           rw [hc, hd]
           show wpAny M A (if (["enumerate", "zip", "dict_itemiterator", "dict_reverseitemiterator", "odict_iterator", "itertools.zip_longest", "itertools.pairwise"].contains n && vs[0]? == some (rawInt _)) = true then _ else _) Q E s
           rw [if_neg (by intro h; rw [hn, Bool.false_and] at h; cases h)]
           exact wpAny_pure hQ))
def Itl (K : PySem.W.Frag) (a : Addr) : It :=
  ⟨fun i H => ∃ xs x, SqL K H a xs ∧ xs[i]? = some x, fun i H x H' => H' = H ∧ ∀ xs, SqL K H a xs → xs[i]? = some x, fun i H => ∃ xs, SqL K H a xs ∧ xs.length ≤ i⟩
def Itt (K : PySem.W.Frag) (a : Addr) : It :=
  ⟨fun i H => ∃ xs x, SqT K H a xs ∧ xs[i]? = some x, fun i H x H' => H' = H ∧ ∀ xs, SqT K H a xs → xs[i]? = some x, fun i H => ∃ xs, SqT K H a xs ∧ xs.length ≤ i⟩
def Itr (lo : Int) (n : Nat) : It := ⟨fun i _ => i < n, fun i H x H' => H' = H ∧ x = .int (lo + i), fun i _ => n ≤ i⟩
theorem turn_list {P : Program} {w : World} {K : PySem.W.Frag} {tg : Expr} (a it : Addr) : Turn P w K tg (Itl K a) [it] it (fun i h => h.IsListIter it a i) where
  mem := by simp
  obj := fun i h st b hb => by
    have e : b = it := by simpa using hb
    subst e
    obtain ⟨o, e, c, d⟩ := st
    exact ⟨o, e, fun v z => by rw [d] at z; cases z⟩
  keep := fun i h h' st k => st.at fun o e => k it (by simp) o e
  item := by
    intro X hP hw hK hc i pins s σ H E I hf st hg
    subst hP hw hK
    obtain ⟨xs, x, hq, hx⟩ := hg
    obtain ⟨its, rv, p, hz⟩ := I.list hq
    obtain ⟨u, hu, ru⟩ := rv.get hx
    obtain ⟨f0, f1, f2, f3, f4, f5⟩ := hf it (by simp)
    refine wpAny_pyNext_list_item st p.isList (x := u) (by simpa using hu) fun h' st' sb => ?_
    have I1 : Inv X pins σ H { s with heap := h' } := I.turned (t' := s.toks) (fun b o hb e => (sb.2 b hb).trans e) f0 f1 f3 f4 f5
    obtain ⟨o, e, c, d⟩ := id st'
    exact ⟨u, rfl, go_of (s := { s with heap := h' }) e c d (by decide) ⟨x, H, I1, ru, ⟨rfl, fun ys hy => by rw [I.list_inj hy hq]; exact hx⟩, st', fun b hb => (hf b hb).1⟩⟩
  done := by
    intro X hP hw hK hc i pins s σ H E I hf st hg
    subst hP hw hK
    obtain ⟨xs, hq, hx⟩ := hg
    obtain ⟨its, rv, p, hz⟩ := I.list hq
    obtain ⟨f0, f1, f2, f3, f4, f5⟩ := hf it (by simp)
    have hl := rv.length
    exact wpAny_pyNext_list_end (I.ok.hd hc) st p.isList (by simp; omega) fun h' eb => ⟨rfl, I.turned (t' := s.toks) (fun b o hb e => eb b o hb e) f0 f1 f3 f4 f5⟩
  self := fun _ _ _ _ _ st h => wpAny_pyIter_listiter st h
theorem turn_range {P : Program} {w : World} {K : PySem.W.Frag} {tg : Expr} (it : Addr) (lo : Int) (n : Nat) : Turn P w K tg (Itr lo n) [it] it (fun i h => IsRangeIter h it (lo + (i : Nat) * 1) ((n : Int) - (i : Nat)) 1) where
  mem := by simp
  obj := fun i h st b hb => by
    have e : b = it := by simpa using hb
    subst e
    exact ⟨_, st, fun v z => by
      have z' : Data.fields _ = Data.cell v := z
      cases z'⟩
  keep := fun i h h' st k => k it (by simp) _ st
  item := by
    intro X hP hw hK hc i pins s σ H E I hf st hg
    subst hP hw hK
    obtain ⟨f0, f1, f2, f3, f4, f5⟩ := hf it (by simp)
    have W := Walks.range (prog := X.prog) (w := X.w) (I.ok.hd hc) it lo 1 n
    refine W.item i s _ _ hg st fun v h' tk hv st' kk => ?_
    obtain ⟨t, rfl⟩ := hv
    have I1 : Inv X pins σ H { s with heap := h', toks := tk } := I.turned (fun b o hb e => kk b o (by simpa using hb) e) f0 f1 f3 f4 f5
    refine ⟨_, rfl, go_of (s := { s with heap := h', toks := tk }) (n := "range_iterator") st' rfl rfl (by decide) ⟨.int (lo + i), H, I1, ⟨t, ?_⟩, ⟨rfl, rfl⟩, st', fun b hb => (hf b hb).1⟩⟩
    rw [Int.mul_one]
  done := by
    intro X hP hw hK hc i pins s σ H E I hf st hg
    subst hP hw hK
    obtain ⟨f0, f1, f2, f3, f4, f5⟩ := hf it (by simp)
    exact wpAny_pyNext_range_end (I.ok.hd hc) st (by have : n ≤ i := hg; omega) fun h' eb => ⟨rfl, I.turned (t' := s.toks) (fun b o hb e => eb b o hb e) f0 f1 f3 f4 f5⟩
  self := fun _ _ _ _ _ st h => wpAny_pyIter_rangeiter st h
end L2
namespace L2
open PySem PySem.Spec PyProof.Rows
section
variable {X : Cx} {tg : Expr}
def iList (K : PySem.W.Frag) (tl : TE) : TI := fun σ H R => tl σ H fun x H1 => ∃ a, x = .ref a ∧ (∃ xs, SqL K H1 a xs) ∧ R (Itl K a) H1
def iTup (K : PySem.W.Frag) (tl : TE) : TI := fun σ H R => tl σ H fun x H1 => ∃ a, x = .ref a ∧ (∃ xs, SqT K H1 a xs) ∧ R (Itt K a) H1
theorem pi_list {l : Expr} {tl : TE} (hl : PE X l tl) : PI X tg l (iList X.K tl) := by
  intro pins s σ H R I h
  refine thn (hl pins s σ H _ I h) fun v s1 ⟨x, H1, I1, r1, q1⟩ => ?_
  obtain ⟨a, e, ⟨xs, hq⟩, q⟩ := q1
  subst e
  cases r1
  obtain ⟨its, rv, p, hz⟩ := I1.list hq
  refine wpAny_pyIter_list p.isList ?_
  refine ⟨s1.heap.objs.size, [s1.heap.objs.size], _, _, H1, rfl, I1.kept (t' := s1.toks) fun b o e => Heap.get?_push_of_some _ e, turn_list a _, ⟨_, Heap.get?_push_size _ rfl, rfl, rfl⟩, fun b hb => ?_, q⟩
  have e : b = s1.heap.objs.size := by simpa using hb
  subst e
  exact I1.fpOk (Nat.le_refl _) (I1.hok.fresh (Nat.le_refl _))
theorem range_it {pins : List (Addr × Obj)} {σ : St} {H : Hp} {s : Shared} {R : It → Hp → Prop} {E : Value → Shared → Prop} {lo hi : Int} {t u v : Tok} {tk : Nat} (I : Inv X pins σ H s) (h1 : -(2 ^ 62) ≤ lo) (h2 : lo < 2 ^ 62) (h3 : -(2 ^ 62) ≤ hi) (h4 : hi < 2 ^ 62)
    (q : R (Itr lo (hi - lo).toNat) H) : wpAny (model X.prog X.w) X.A (pyIter (.ref s.heap.objs.size)) (PIE X pins σ tg R) E { s with heap := s.heap.push { cls := .type "range", data := .fields #[.int lo t, .int hi u, .int 1 v] }, toks := tk } := by
  refine wpAny_pyIter_range (IsRange.new ..) (small_one h1 h2 h3 h4) ?_
  have I1 : Inv X pins σ H { s with heap := s.heap.push { cls := .type "range", data := .fields #[.int lo t, .int hi u, .int 1 v] }, toks := tk } := I.kept fun b o e => Heap.get?_push_of_some _ e
  refine ⟨(s.heap.push { cls := .type "range", data := .fields #[.int lo t, .int hi u, .int 1 v] }).objs.size, [(s.heap.push { cls := .type "range", data := .fields #[.int lo t, .int hi u, .int 1 v] }).objs.size], _, _, H, rfl,
    I1.kept (t' := tk) fun b o e => Heap.get?_push_of_some _ e, turn_range _ lo (hi - lo).toNat, ?_, fun b hb => ?_, q⟩
  · have e1 : lo + ((0 : Nat) : Int) * 1 = lo := by simp
    have e2 : (((hi - lo).toNat : Nat) : Int) - ((0 : Nat) : Int) = Builtin.Range.rangeSize lo hi 1 := by rw [rangeSize_one]; split <;> omega
    show IsRangeIter _ _ (lo + ((0 : Nat) : Int) * 1) ((((hi - lo).toNat : Nat) : Int) - ((0 : Nat) : Int)) 1
    rw [e1, e2]
    exact Heap.get?_push_size _ rfl
  · have e : b = (s.heap.push { cls := .type "range", data := .fields #[.int lo t, .int hi u, .int 1 v] }).objs.size := by simpa using hb
    subst e
    exact I1.fpOk (Nat.le_refl _) (I1.hok.fresh (Nat.le_refl _))
def iRng1 (ta : TA) : TI := fun σ H R => ta σ H fun vs H1 => ∃ j : Int, vs = [.int j] ∧ -(2 ^ 62) ≤ j ∧ j < 2 ^ 62 ∧ R (Itr 0 j.toNat) H1
def iRng2 (ta : TA) : TI := fun σ H R => ta σ H fun vs H1 => ∃ i j : Int, vs = [.int i, .int j] ∧ (-(2 ^ 62) ≤ i ∧ i < 2 ^ 62 ∧ -(2 ^ 62) ≤ j ∧ j < 2 ^ 62) ∧ R (Itr i (j - i).toNat) H1
theorem pi_range1 {a : Expr} {ta : TA} {p pos : Pos} (hg : Gl X "range") (hm : X.mg "range" = none) (ha : PA X [a] ta) (hs : starEach [a] X.env = [(false, eval a X.env)] := by rfl) : PI X tg (.Call (.Name "range" p) [a] [] pos) (iRng1 ta) := by
  intro pins s σ H R I h
  refine Call_ (ld_blt I hg hm boot_range (PyProof.Rows.callWith_type1 (thn (ha pos pins s σ H _ I h) fun us s1 ⟨vs, H1, I1, r1, q1⟩ => ?_) hs rfl))
  obtain ⟨j, e, q1, q2, q⟩ := q1
  subst e
  cases r1 with
  | cons r rr =>
    cases rr
    obtain ⟨t, rfl⟩ := r
    exact call_range_1 (range_it I1 (by omega) (by omega) q1 q2 (by simpa using q))
theorem pi_range2 {a b : Expr} {ta : TA} {p pos : Pos} (hg : Gl X "range") (hm : X.mg "range" = none) (ha : PA X [a, b] ta) (hs : starEach [a, b] X.env = [(false, eval a X.env), (false, eval b X.env)] := by rfl) (hs2 : starEach [b] X.env = [(false, eval b X.env)] := by rfl) :
    PI X tg (.Call (.Name "range" p) [a, b] [] pos) (iRng2 ta) := by
  intro pins s σ H R I h
  refine Call_ (ld_blt I hg hm boot_range (PyProof.Rows.callWith_type1 (thn (ha pos pins s σ H _ I h) fun us s1 ⟨vs, H1, I1, r1, q1⟩ => ?_) (by rw [hs, hs2]) (by rw [hs2]; rfl)))
  obtain ⟨i, j, e, ⟨q1, q2, q3, q4⟩, q⟩ := q1
  subst e
  cases r1 with
  | cons r rr =>
    cases rr with
    | cons r' rr =>
      cases rr
      obtain ⟨t, rfl⟩ := r
      obtain ⟨t', rfl⟩ := r'
      exact call_range_2 (range_it I1 q1 q2 q3 q4 q)
def tFor (wi : TI) (g : TG) (tb : TS) : TS := fun D σ H => wi σ H fun J H1 => ∃ W : Nat → Nat → St → Hp → Prop, (∃ m, W 0 m σ H1) ∧ ∀ i m σ H, W i m σ H →
  (J.stop i H ∧ D.nx σ H) ∨ (J.go i H ∧ ∃ N : St → Hp → Prop, (∀ σ' H', N σ' H' → ∃ m', m' < m ∧ W (i + 1) m' σ' H') ∧ ∀ x H', J.yld i H x H' → g x σ H' fun σ2 H2 => tb { D with nx := N, ct := N, bk := D.nx } σ2 H2)
def pinsAt (fp : List Addr) (h : Heap) : List (Addr × Obj) := fp.filterMap fun b => (h.get? b).map fun o => (b, o)
theorem mem_pinsAt {fp : List Addr} {h : Heap} {b : Addr} {o : Obj} (hb : b ∈ fp) (e : h.get? b = some o) : (b, o) ∈ pinsAt fp h := List.mem_filterMap.mpr ⟨b, hb, by rw [e]; rfl⟩
theorem of_pinsAt {fp : List Addr} {h : Heap} {p : Addr × Obj} (hp : p ∈ pinsAt fp h) : p.1 ∈ fp ∧ h.get? p.1 = some p.2 := by
  obtain ⟨b, hb, e⟩ := List.mem_filterMap.mp hp
  cases q : h.get? b with
  | none => rw [q] at e; cases e
  | some o =>
    rw [q] at e
    have e' : (b, o) = p := Option.some.inj e
    subst e'
    exact ⟨hb, q⟩
theorem Inv.pinned {pins : List (Addr × Obj)} {σ : St} {H : Hp} {s : Shared} {fp : List Addr} (I : Inv X pins σ H s) (hf : ∀ b ∈ fp, FpOk X pins H b) (ho : ∀ b ∈ fp, ∃ o, s.heap.get? b = some o ∧ ∀ v, o.data ≠ .cell v) : Inv X (pins ++ pinsAt fp s.heap) σ H s :=
  I.pins_of fun p hp => (List.mem_append.mp hp).elim (fun z => I.pin p (List.mem_append_right _ z)) fun z => by
    obtain ⟨hb, e⟩ := of_pinsAt z
    obtain ⟨f0, f1, f2, _⟩ := hf p.1 hb
    obtain ⟨o, e', d⟩ := ho p.1 hb
    rw [e] at e'; cases e'
    exact ⟨e, f0, f1, f2, d⟩
theorem Inv.unpinned {pins pl : List (Addr × Obj)} {σ : St} {H : Hp} {s : Shared} (I : Inv X (pins ++ pl) σ H s) : Inv X pins σ H s := I.pins_of fun p hp => I.pin p (List.mem_append_right _ (List.mem_append_left _ hp))
theorem ps_for {iter : Expr} {body : List Stmt} {wi : TI} {g : TG} {tb : TS} {pos : Pos} (hp : PassesOwn (model X.prog X.w) X.A X.env X.xe) (hc : X.calm = true) (hi : PI X tg iter wi) (hg : PG X tg g) (hb : PSs X body tb)
    (hs : ∀ x, foldedSetIterable iter X.env x = pure x := by intro _; rfl) : PS X (.For tg iter body [] pos) (tFor wi g tb) := by
  intro pins s σ H D I h
  refine wpAny_For (thn (hi pins s σ H _ I h) fun v s1 h1 => thn h1 fun itv s2 h2 => ?_) hs
  obtain ⟨it, fp, tn, J, H2, e, I2, T, st2, f2, W, ⟨m0, w0⟩, turn⟩ := h2
  subst e
  -- what stays true of the iterator's objects through the loop
  have stat : ∀ {H' : Hp}, (∀ b ∈ fp, H' b = none) → ∀ b ∈ fp, FpOk X pins H' b := fun hn b hb => ⟨hn b hb, (f2 b hb).2⟩
  refine codeAny_forLoop_any (fun n s' => ∃ i σ' H', Inv X pins σ' H' s' ∧ tn i s'.heap ∧ (∀ b ∈ fp, H' b = none) ∧ W i n σ' H') ?_ m0 ⟨0, σ, H2, I2, st2, fun b hb => (f2 b hb).1, w0⟩
  rintro n s3 ⟨i, σ3, H3, I3, st3, fr3, w3⟩
  rcases turn i n σ3 H3 w3 with ⟨stop, qn⟩ | ⟨go, N, hN, step⟩
  · refine wpAny_passesOwn hp (thn (T.done X rfl rfl rfl hc i pins s3 σ3 H3 X.xe I3 (stat fr3) st3 stop) fun r s4 ⟨hr, I4⟩ => ?_)
    subst hr
    exact wpAny_execs_nil ⟨σ3, H3, I4, qn⟩
  · refine wpAny_passesOwn hp (thn (T.item X rfl rfl rfl hc i pins s3 σ3 H3 X.xe I3 (stat fr3) st3 go) fun r s4 ⟨u, hr, h4⟩ => ?_)
    subst hr
    refine wpAny_passesOwn hp (thn h4 fun _ s5 ⟨x, H5, I5, r5, y5, st5, fr5⟩ => ?_)
    have I5' := I5.pinned (stat fr5) (T.obj _ _ st5)
    refine wpAny_passesOwn hp (thn (hg _ s5 σ3 H5 x u _ I5' r5 (step x H5 y5)) fun _ s6 ⟨σ6, H6, I6, q6⟩ => ?_)
    refine wpAny_passesOwn hp (thn (hb _ s6 σ6 H6 _ I6 q6) fun f s7 q7 => ?_)
    have again : ∀ {σ7 : St} {H7 : Hp}, Inv X (pins ++ pinsAt fp s5.heap) σ7 H7 s7 → N σ7 H7 → ∃ m, m < n ∧ ∃ i σ' H', Inv X pins σ' H' s7 ∧ tn i s7.heap ∧ (∀ b ∈ fp, H' b = none) ∧ W i m σ' H' := fun {σ7 H7} I7 n7 => by
      obtain ⟨m', hm, w7⟩ := hN σ7 H7 n7
      refine ⟨m', hm, i + 1, σ7, H7, I7.unpinned, T.keep _ _ _ st5 fun b hb o e => (I7.pin (b, o) (List.mem_append_right _ (List.mem_append_right _ (mem_pinsAt hb e)))).1, fun b hb => ?_, w7⟩
      obtain ⟨o, e, d⟩ := T.obj _ _ st5 b hb
      exact (I7.pin (b, o) (List.mem_append_right _ (List.mem_append_right _ (mem_pinsAt hb e)))).2.1
    cases f with
    | next => obtain ⟨σ7, H7, I7, n7⟩ := q7; exact again I7 n7
    | cont => obtain ⟨σ7, H7, I7, n7⟩ := q7; exact again I7 n7
    | brk => obtain ⟨σ7, H7, I7, q7⟩ := q7; exact ⟨σ7, H7, I7.unpinned, q7⟩
    | ret v => obtain ⟨x7, σ7, H7, I7, r7, q7⟩ := q7; exact ⟨x7, σ7, H7, I7.unpinned, r7, q7⟩
end
theorem for_list {K : PySem.W.Frag} {a : Addr} {xs : List V} {g : TG} {tb : TS} {D : Ends} {σ : St} {H : Hp} (Pv : Nat → St → Hp → Prop) (h0 : Pv 0 σ H) (hl : ∀ i σ H, i ≤ xs.length → Pv i σ H → SqL K H a xs)
    (hs : ∀ i x σ H, xs[i]? = some x → Pv i σ H → g x σ H fun σ2 H2 => tb { D with nx := Pv (i + 1), ct := Pv (i + 1), bk := D.nx } σ2 H2) (hd : ∀ σ H, Pv xs.length σ H → D.nx σ H) :
    ∃ W : Nat → Nat → St → Hp → Prop, (∃ m, W 0 m σ H) ∧ ∀ i m σ H, W i m σ H →
      ((Itl K a).stop i H ∧ D.nx σ H) ∨ ((Itl K a).go i H ∧ ∃ N : St → Hp → Prop, (∀ σ' H', N σ' H' → ∃ m', m' < m ∧ W (i + 1) m' σ' H') ∧ ∀ x H', (Itl K a).yld i H x H' → g x σ H' fun σ2 H2 => tb { D with nx := N, ct := N, bk := D.nx } σ2 H2) := by
  refine ⟨fun i m σ H => m = xs.length - i ∧ i ≤ xs.length ∧ Pv i σ H, ⟨xs.length, by simp, Nat.zero_le _, h0⟩, ?_⟩
  rintro i m σ H ⟨rfl, hi, p⟩
  have q := hl i σ H hi p
  by_cases hlt : i < xs.length
  · refine .inr ⟨⟨xs, xs[i], q, by simp [hlt]⟩, Pv (i + 1), fun σ' H' p' => ⟨xs.length - (i + 1), by omega, rfl, hlt, p'⟩, fun x H' y => ?_⟩
    obtain ⟨e, y⟩ := y
    subst e
    exact hs i x σ _ (y xs q) p
  · have e : i = xs.length := by omega
    subst e
    exact .inl ⟨⟨xs, q, Nat.le_refl _⟩, hd σ H p⟩
theorem for_range {lo : Int} {n : Nat} {g : TG} {tb : TS} {D : Ends} {σ : St} {H : Hp} (Pv : Nat → St → Hp → Prop) (h0 : Pv 0 σ H)
    (hs : ∀ i σ H, i < n → Pv i σ H → g (.int (lo + i)) σ H fun σ2 H2 => tb { D with nx := Pv (i + 1), ct := Pv (i + 1), bk := D.nx } σ2 H2) (hd : ∀ σ H, Pv n σ H → D.nx σ H) :
    ∃ W : Nat → Nat → St → Hp → Prop, (∃ m, W 0 m σ H) ∧ ∀ i m σ H, W i m σ H →
      ((Itr lo n).stop i H ∧ D.nx σ H) ∨ ((Itr lo n).go i H ∧ ∃ N : St → Hp → Prop, (∀ σ' H', N σ' H' → ∃ m', m' < m ∧ W (i + 1) m' σ' H') ∧ ∀ x H', (Itr lo n).yld i H x H' → g x σ H' fun σ2 H2 => tb { D with nx := N, ct := N, bk := D.nx } σ2 H2) := by
  refine ⟨fun i m σ H => m = n - i ∧ i ≤ n ∧ Pv i σ H, ⟨n, by simp, Nat.zero_le _, h0⟩, ?_⟩
  rintro i m σ H ⟨rfl, hi, p⟩
  by_cases hlt : i < n
  · refine .inr ⟨hlt, Pv (i + 1), fun σ' H' p' => ⟨n - (i + 1), by omega, rfl, hlt, p'⟩, fun x H' y => ?_⟩
    obtain ⟨e, y⟩ := y
    subst e y
    exact hs i σ _ hlt p
  · have e : i = n := by omega
    subst e
    exact .inl ⟨Nat.le_refl _, hd σ H p⟩
end L2
namespace L2
open PySem PySem.Spec PyProof.Rows
abbrev R2 := V → V → Hp → VK → Prop
def OpR (X : Cx) (f : Value → Value → Sem Value) (r : R2) : Prop :=
  ∀ (pins : List (Addr × Obj)) (s : Shared) (σ : St) (H : Hp) (x y : V) (v u : Value) (Q : VK), Inv X pins σ H s → RelV x v → RelV y u → r x y H Q →
    wpAny (model X.prog X.w) X.A (f v u) (EP X pins σ Q) X.xe s
def UnR (X : Cx) (f : Value → Sem Value) (r : V → Hp → VK → Prop) : Prop :=
  ∀ (pins : List (Addr × Obj)) (s : Shared) (σ : St) (H : Hp) (x : V) (v : Value) (Q : VK), Inv X pins σ H s → RelV x v → r x H Q →
    wpAny (model X.prog X.w) X.A (f v) (EP X pins σ Q) X.xe s
def CallR (X : Cx) (f : Value) (r : List V → Hp → VK → Prop) : Prop :=
  ∀ (pins : List (Addr × Obj)) (s : Shared) (σ : St) (H : Hp) (xs : List V) (us : List Value) (Q : VK), Inv X pins σ H s → Vals xs us → r xs H Q →
    wpAny (model X.prog X.w) X.A (call f us) (EP X pins σ Q) X.xe s
def TruR (X : Cx) (r : V → Hp → (Bool → Hp → Prop) → Prop) : Prop :=
  ∀ (pins : List (Addr × Obj)) (s : Shared) (σ : St) (H : Hp) (x : V) (v : Value) (Q : Bool → Hp → Prop), Inv X pins σ H s → RelV x v → r x H Q →
    wpAny (model X.prog X.w) X.A (truthy v) (TP X pins σ Q) X.xe s
def tOp (r : R2) (ta tb : TE) : TE := fun σ H Q => ta σ H fun x H1 => tb σ H1 fun y H2 => r x y H2 Q
def tUn (r : V → Hp → VK → Prop) (ta : TE) : TE := fun σ H Q => ta σ H fun x H1 => r x H1 Q
def rI (C : Int → Int → Prop) (g : Int → Int → V) : R2 := fun x y H Q => ∃ i j, x = .int i ∧ y = .int j ∧ C i j ∧ Q (g i j) H
def rI0 (g : Int → Int → V) : R2 := fun x y H Q => ∃ i j, x = .int i ∧ y = .int j ∧ Q (g i j) H
def rU (g : Int → V) : V → Hp → VK → Prop := fun x H Q => ∃ i, x = .int i ∧ Q (g i) H
section
variable {X : Cx} {a b c : Expr} {ta tb tc : TE} {pos : Pos}
theorem binT (ha : PE X a ta) (hb : PE X b tb) {pins : List (Addr × Obj)} {s : Shared} {σ : St} {H : Hp} {R : V → V → Hp → Prop} (I : Inv X pins σ H s)
    (h : ta σ H fun x H1 => tb σ H1 fun y H2 => R x y H2) {Q : Value → Shared → Prop} {f : Value → Value → Sem Value}
    (hf : ∀ v u s2 x y H2, Inv X pins σ H2 s2 → RelV x v → RelV y u → R x y H2 → wpAny (model X.prog X.w) X.A (f v u) Q X.xe s2) :
    wpAny (model X.prog X.w) X.A (eval a X.env) (fun v s₁ => wpAny (model X.prog X.w) X.A (eval b X.env) (fun u s₂ => wpAny (model X.prog X.w) X.A (f v u) Q X.xe s₂) X.xe s₁) X.xe s := by
  refine thn (ha pins s σ H _ I h) fun v s1 ⟨x, H1, I1, r1, q1⟩ => ?_
  refine thn (hb pins s1 σ H1 _ I1 q1) fun u s2 ⟨y, H2, I2, r2, q2⟩ => ?_
  exact hf v u s2 x y H2 I2 r1 r2 q2
theorem pe_op {op : Operator} {r : R2} (ho : OpR X (binaryOp op) r) (ha : PE X a ta) (hb : PE X b tb) : PE X (.BinOp a op b pos) (tOp r ta tb) := by
  intro pins s σ H Q I h
  exact wpAny_BinOp (binT ha hb I h fun v u s2 x y H2 I2 rx ry q => ho pins s2 σ H2 x y v u Q I2 rx ry q)
theorem pe_un {op : UnaryOp} {r : V → Hp → VK → Prop} (ho : UnR X (unaryOp op) r) (ha : PE X a ta) : PE X (.UnaryOp op a pos) (tUn r ta) := by
  intro pins s σ H Q I h
  exact UnaryOp_ (thn (ha pins s σ H _ I h) fun v s1 ⟨x, H1, I1, r1, q1⟩ => ho pins s1 σ H1 x v Q I1 r1 q1)
theorem opI {f : Value → Value → Sem Value} {C : Int → Int → Prop} {g : Int → Int → Int}
    (rule : ∀ (i j : Int) (t u : Tok) (s : Shared) (Q : Value → Shared → Prop) (E : Value → Shared → Prop), C i j → Q (.int (g i j) s.toks) { s with toks := s.toks + 1 } → wpAny (model X.prog X.w) X.A (f (.int i t) (.int j u)) Q E s) :
    OpR X f (rI C fun i j => .int (g i j)) := by
  intro pins s σ H x y v u Q I rx ry h
  obtain ⟨i, j, rfl, rfl, hc, q⟩ := h
  obtain ⟨t, rfl⟩ := rx
  obtain ⟨t', rfl⟩ := ry
  exact rule i j t t' s _ _ hc ⟨.int (g i j), H, I.tok _, ⟨_, rfl⟩, q⟩
theorem opI0 {f : Value → Value → Sem Value} {g : Int → Int → Int}
    (rule : ∀ (i j : Int) (t u : Tok) (s : Shared) (Q : Value → Shared → Prop) (E : Value → Shared → Prop), Q (.int (g i j) s.toks) { s with toks := s.toks + 1 } → wpAny (model X.prog X.w) X.A (f (.int i t) (.int j u)) Q E s) :
    OpR X f (rI0 fun i j => .int (g i j)) := by
  intro pins s σ H x y v u Q I rx ry h
  obtain ⟨i, j, rfl, rfl, q⟩ := h
  obtain ⟨t, rfl⟩ := rx
  obtain ⟨t', rfl⟩ := ry
  exact rule i j t t' s _ _ ⟨.int (g i j), H, I.tok _, ⟨_, rfl⟩, q⟩
theorem opB0 {f : Value → Value → Sem Value} {g : Int → Int → Bool}
    (rule : ∀ (i j : Int) (t u : Tok) (s : Shared) (Q : Value → Shared → Prop) (E : Value → Shared → Prop), Q (.bool (g i j)) s → wpAny (model X.prog X.w) X.A (f (.int i t) (.int j u)) Q E s) :
    OpR X f (rI0 fun i j => .bl (g i j)) := by
  intro pins s σ H x y v u Q I rx ry h
  obtain ⟨i, j, rfl, rfl, q⟩ := h
  obtain ⟨t, rfl⟩ := rx
  obtain ⟨t', rfl⟩ := ry
  exact rule i j t t' s _ _ ⟨.bl (g i j), H, I, rfl, q⟩
def CDiv (i j : Int) : Prop := 0 < j ∧ j < 1073741824
def CDivN (i j : Int) : Prop := j ≠ 0 ∧ j.natAbs < 1073741824
def CPow (i j : Int) : Prop := 0 ≤ j ∧ j ≤ 1000000 ∧ i.natAbs < 2 ^ 64
def CMul (i j : Int) : Prop := (-(2 ^ 64) < i ∧ i < 2 ^ 64) ∨ (-(2 ^ 64) < j ∧ j < 2 ^ 64)
theorem CMul.ok {i j : Int} (h : CMul i j) : IntMulOk i j := by
  rcases h with ⟨h1, h2⟩ | ⟨h1, h2⟩
  · exact .of_left (intBits_le_64 h1 h2)
  · exact .of_right (intBits_le_64 h1 h2)
theorem op_add : OpR X (binaryOp .Add) (rI0 fun i j => .int (i + j)) := opI0 fun _ _ _ _ _ _ _ q => add_int q
theorem op_sub : OpR X (binaryOp .Sub) (rI0 fun i j => .int (i - j)) := opI0 fun _ _ _ _ _ _ _ q => sub_int q
theorem op_mod : OpR X (binaryOp .Mod) (rI (fun _ j => 0 < j) fun i j => .int (i % j)) := opI fun i j _ _ _ _ _ hc q => by
  have h1 : (0 : Int) < j := hc
  exact mod_int' (by omega) (by rw [Int.fmod_eq_emod_of_nonneg i (by omega)]; exact q)
theorem op_pow : OpR X (binaryOp .Pow) (rI CPow fun i j => .int (i ^ j.toNat)) := opI fun _ _ _ _ _ _ _ hc q => pow_int_small hc.1 hc.2.1 hc.2.2 q
theorem unI {f : Value → Sem Value} {g : Int → Int}
    (rule : ∀ (i : Int) (t : Tok) (s : Shared) (Q : Value → Shared → Prop) (E : Value → Shared → Prop), Q (.int (g i) s.toks) { s with toks := s.toks + 1 } → wpAny (model X.prog X.w) X.A (f (.int i t)) Q E s) :
    UnR X f (rU fun i => .int (g i)) := by
  intro pins s σ H x v Q I rx h
  obtain ⟨i, rfl, q⟩ := h
  obtain ⟨t, rfl⟩ := rx
  exact rule i t s _ _ ⟨.int (g i), H, I.tok _, ⟨_, rfl⟩, q⟩
theorem un_neg : UnR X (unaryOp .USub) (rU fun i => .int (-i)) := unI fun _ _ _ _ _ q => neg_int q
end
def scal : V → V → Bool
  | .non, .non => true | .non, .int _ => true | .int _, .non => true | .non, .bl _ => true | .bl _, .non => true | .non, .str _ => true | .str _, .non => true
  | .int _, .int _ => true | .bl _, .bl _ => true | .str _, .str _ => true | .byt _, .byt _ => true
  | .int _, .str _ => true | .str _, .int _ => true | .bl _, .str _ => true | .str _, .bl _ => true
  | _, _ => false
def rEq : R2 := fun x y H Q => scal x y = true ∧ Q (.bl (decide (x = y))) H
def rNe : R2 := fun x y H Q => scal x y = true ∧ Q (.bl (!decide (x = y))) H
theorem dec_int {i j : Int} : decide (V.int i = V.int j) = (i == j) := by
  rw [Bool.eq_iff_iff]
  simp
theorem dec_bl {i j : Bool} : decide (V.bl i = V.bl j) = (i == j) := by
  rw [Bool.eq_iff_iff]
  simp
theorem dec_str {i j : Str} : decide (V.str i = V.str j) = (i == j) := by
  rw [Bool.eq_iff_iff]
  simp
theorem dec_byt {i j : Array UInt8} : decide (V.byt i = V.byt j) = (i.toList == j.toList) := by
  rw [Bool.eq_iff_iff]
  cases i
  cases j
  simp
section
variable {X : Cx} {a b c : Expr} {ta tb tc : TE} {pos : Pos}
theorem fin_bl {pins : List (Addr × Obj)} {σ : St} {H : Hp} {s : Shared} {Q : VK} {k k' : Bool} (I : Inv X pins σ H s) (q : Q (.bl k) H) (e : k = k') : EP X pins σ Q (.bool k') s := by
  subst e
  exact ⟨.bl k, H, I, rfl, q⟩
theorem op_eq : OpR X (compareOp .Eq) rEq := by
  intro pins s σ H x y v u Q I rx ry h
  obtain ⟨hs, q⟩ := h
  cases x with
  | non =>
    cases rx
    cases y with
    | non => cases ry; exact PySem.EqNone.eq_none_none (fin_bl I q (by simp))
    | bl j => cases ry; exact PySem.EqNone.eq_none_bool (fin_bl I q (by simp))
    | int j => obtain ⟨t', rfl⟩ := ry; exact PySem.EqNone.eq_none_int (fin_bl I q (by simp))
    | str j => obtain ⟨t', rfl⟩ := ry; exact PySem.EqNone.eq_none_str (fin_bl I q (by simp))
    | _ => exact absurd (show false = true from hs) Bool.false_ne_true
  | bl i =>
    cases rx
    cases y with
    | non => cases ry; exact PySem.EqNone.eq_bool_none (fin_bl I q (by simp))
    | bl j => cases ry; exact eq_bool (fin_bl I q dec_bl)
    | str j => obtain ⟨t', rfl⟩ := ry; exact PySem.EqMixed.eq_bool_str (fin_bl I q (by simp))
    | _ => exact absurd (show false = true from hs) Bool.false_ne_true
  | int i =>
    obtain ⟨t, rfl⟩ := rx
    cases y with
    | non => cases ry; exact PySem.EqNone.eq_int_none (fin_bl I q (by simp))
    | int j => obtain ⟨t', rfl⟩ := ry; exact eq_int (fin_bl I q dec_int)
    | str j => obtain ⟨t', rfl⟩ := ry; exact PySem.EqMixed.eq_int_str (fin_bl I q (by simp))
    | _ => exact absurd (show false = true from hs) Bool.false_ne_true
  | str i =>
    obtain ⟨t, rfl⟩ := rx
    cases y with
    | non => cases ry; exact PySem.EqNone.eq_str_none (fin_bl I q (by simp))
    | bl j => cases ry; exact PySem.EqMixed.eq_str_bool (fin_bl I q (by simp))
    | int j => obtain ⟨t', rfl⟩ := ry; exact PySem.EqMixed.eq_str_int (fin_bl I q (by simp))
    | str j => obtain ⟨t', rfl⟩ := ry; exact eq_str (fin_bl I q dec_str)
    | _ => exact absurd (show false = true from hs) Bool.false_ne_true
  | byt i =>
    obtain ⟨t, rfl⟩ := rx
    cases y with
    | byt j => obtain ⟨t', rfl⟩ := ry; exact PySem.W.eq_bytes (fin_bl I q dec_byt)
    | _ => exact absurd (show false = true from hs) Bool.false_ne_true
  | _ => cases y <;> exact absurd (show false = true from hs) Bool.false_ne_true
theorem op_ne : OpR X (compareOp .NotEq) rNe := by
  intro pins s σ H x y v u Q I rx ry h
  obtain ⟨hs, q⟩ := h
  cases x with
  | non =>
    cases rx
    cases y with
    | non => cases ry; exact PySem.EqNone.ne_none_none (fin_bl I q (by simp))
    | bl j => cases ry; exact PySem.EqNone.ne_none_bool (fin_bl I q (by simp))
    | int j => obtain ⟨t', rfl⟩ := ry; exact PySem.EqNone.ne_none_int (fin_bl I q (by simp))
    | str j => obtain ⟨t', rfl⟩ := ry; exact PySem.EqNone.ne_none_str (fin_bl I q (by simp))
    | _ => exact absurd (show false = true from hs) Bool.false_ne_true
  | bl i =>
    cases rx
    cases y with
    | non => cases ry; exact PySem.EqNone.ne_bool_none (fin_bl I q (by simp))
    | bl j => cases ry; exact ne_bool (fin_bl I q (congrArg not dec_bl))
    | str j => obtain ⟨t', rfl⟩ := ry; exact PySem.EqMixed.ne_bool_str (fin_bl I q (by simp))
    | _ => exact absurd (show false = true from hs) Bool.false_ne_true
  | int i =>
    obtain ⟨t, rfl⟩ := rx
    cases y with
    | non => cases ry; exact PySem.EqNone.ne_int_none (fin_bl I q (by simp))
    | int j => obtain ⟨t', rfl⟩ := ry; exact ne_int (fin_bl I q (congrArg not dec_int))
    | str j => obtain ⟨t', rfl⟩ := ry; exact PySem.EqMixed.ne_int_str (fin_bl I q (by simp))
    | _ => exact absurd (show false = true from hs) Bool.false_ne_true
  | str i =>
    obtain ⟨t, rfl⟩ := rx
    cases y with
    | non => cases ry; exact PySem.EqNone.ne_str_none (fin_bl I q (by simp))
    | bl j => cases ry; exact PySem.EqMixed.ne_str_bool (fin_bl I q (by simp))
    | int j => obtain ⟨t', rfl⟩ := ry; exact PySem.EqMixed.ne_str_int (fin_bl I q (by simp))
    | str j => obtain ⟨t', rfl⟩ := ry; exact ne_str (fin_bl I q (congrArg not dec_str))
    | _ => exact absurd (show false = true from hs) Bool.false_ne_true
  | byt i =>
    obtain ⟨t, rfl⟩ := rx
    cases y with
    | byt j => obtain ⟨t', rfl⟩ := ry; exact PySem.W.ne_bytes (fin_bl I q (congrArg not dec_byt))
    | _ => exact absurd (show false = true from hs) Bool.false_ne_true
  | _ => cases y <;> exact absurd (show false = true from hs) Bool.false_ne_true
theorem op_lt : OpR X (compareOp .Lt) (rI0 fun i j => .bl (decide (i < j))) := opB0 fun _ _ _ _ _ _ _ q => lt_int q
theorem op_gt : OpR X (compareOp .Gt) (rI0 fun i j => .bl (decide (j < i))) := opB0 fun _ _ _ _ _ _ _ q => gt_int q
def isObj : HO → Bool
  | .lst _ => true
  | .ins _ _ _ => true
  | _ => false
theorem nomark (b : Expr) {op : CmpOp} (h : op ≠ .In := by decide) (h2 : op ≠ .NotIn := by decide) : behindInMarks op b = false := by
  have e1 : (op == CmpOp.In) = false := by cases op <;> first | rfl | exact absurd rfl h
  have e2 : (op == CmpOp.NotIn) = false := by cases op <;> first | rfl | exact absurd rfl h2
  cases b <;> simp [behindInMarks, e1, e2]
theorem pe_cmpR {op : CmpOp} {r : R2} (ho : OpR X (compareOp op) r) (ha : PE X a ta) (hb : PE X b tb) (hm : behindInMarks op b = false) : PE X (.Compare a [op] [b] pos) (tOp r ta tb) := by
  intro pins s σ H Q I h
  exact wpAny_Compare1 (binT ha hb I h fun v u s2 x y H2 I2 rx ry q => ho pins s2 σ H2 x y v u Q I2 rx ry q) hm
def tTest (t : TE) : TT := fun σ H Q => t σ H fun x H' => ∃ k, x = .bl k ∧ Q k H'
theorem pt_cmpR {op : CmpOp} {r : R2} (ho : OpR X (compareOp op) r) (ha : PE X a ta) (hb : PE X b tb) (hm : behindInMarks op b = false) : PT X (.Compare a [op] [b] pos) (tTest (tOp r ta tb)) := by
  intro pins s σ H Q I h
  refine wpAny_isTrue_Compare1 (thn (ha pins s σ H _ I h) fun v s1 ⟨x, H1, I1, r1, q1⟩ => thn (hb pins s1 σ H1 _ I1 q1) fun u s2 ⟨y, H2, I2, r2, q2⟩ =>
    thn (ho pins s2 σ H2 x y v u _ I2 r1 r2 q2) fun c s3 ⟨z, H3, I3, r3, k, e, q3⟩ => ?_) hm
  subst e
  cases r3
  exact wpAny_truthy_bool ⟨H3, I3, q3⟩
def tChain (r r' : R2) (ta tb tc : TE) : TE := fun σ H Q => ta σ H fun x H1 => tb σ H1 fun y H2 => r x y H2 fun z H3 => ∃ k, z = .bl k ∧
  (if k = true then tc σ H3 fun w' H4 => r' y w' H4 Q else Q (.bl false) H3)
def TruV (K : PySem.W.Frag) (x : V) (H : Hp) (k : Bool) : Prop :=
  match x with
  | .non => k = false
  | .bl b => k = b
  | .int i => k = (i != 0)
  | .str y => y.length ≤ sizeLine ∧ k = ((y.length : Int) != 0)
  | .byt y => y.size ≤ sizeLine ∧ k = ((y.size : Int) != 0)
  | .ref p => (∃ xs, SqL K H p xs ∧ k = !xs.isEmpty) ∨ (∃ xs, SqT K H p xs ∧ k = !xs.isEmpty) ∨ ∃ kvs, H p = some (.dK kvs) ∧ k = !kvs.isEmpty
  | _ => False
theorem isEmpty_kv {κ : Type} {kvs : List (κ × V)} {vs : List (κ × Value)} (r : KV kvs vs) : (!vs.isEmpty) = !kvs.isEmpty := by
  cases r <;> rfl
theorem isEmpty_of {xs : List V} {its : List Value} (r : Vals xs its) : (!its.toArray.isEmpty) = !xs.isEmpty := by
  cases r <;> simp
theorem line63 : (sizeLine : Nat) < 2 ^ 63 := by rw [sizeLine_eq]; decide
theorem tru_ok : TruR X (fun x H Q => ∃ k, TruV X.K x H k ∧ Q k H) := by
  intro pins s σ H x v Q I rx h
  obtain ⟨k, e, q⟩ := h
  have hl := line63
  have hs : sizeLine = 16777216 := sizeLine_eq
  cases x with
  | non =>
    cases rx
    have e' : k = false := e
    subst e'
    exact truthy_none ⟨H, I, q⟩
  | bl b =>
    cases rx
    have e' : k = b := e
    subst e'
    exact wpAny_truthy_bool ⟨H, I, q⟩
  | int i =>
    obtain ⟨t, rfl⟩ := rx
    have e' : k = (i != 0) := e
    subst e'
    exact PySem.P.truthy_int ⟨H, I, q⟩
  | str y =>
    obtain ⟨t, rfl⟩ := rx
    obtain ⟨hy, e'⟩ : y.length ≤ sizeLine ∧ k = ((y.length : Int) != 0) := e
    subst e'
    exact PySem.P.truthy_str (by omega) ⟨H, I.tok _, q⟩
  | byt y =>
    obtain ⟨t, rfl⟩ := rx
    obtain ⟨hy, e'⟩ : y.size ≤ sizeLine ∧ k = ((y.size : Int) != 0) := e
    subst e'
    exact PySem.W.truthy_bytes (by omega) ⟨H, I.tok _, q⟩
  | ref p =>
    cases rx
    have e' : (∃ xs, SqL X.K H p xs ∧ k = !xs.isEmpty) ∨ (∃ xs, SqT X.K H p xs ∧ k = !xs.isEmpty) ∨ ∃ kvs, H p = some (.dK kvs) ∧ k = !kvs.isEmpty := e
    rcases e' with ⟨xs, hx, e'⟩ | ⟨xs, hx, e'⟩ | ⟨kvs, hx, e'⟩
    · subst e'
      obtain ⟨its, r, pl, hz⟩ := I.list hx
      have hlen := r.length
      exact wpAny_truthy_list pl.isList (by simp only [List.size_toArray]; omega) ⟨H, I.tok _, by rw [isEmpty_of r]; exact q⟩
    · subst e'
      obtain ⟨its, r, pl, hz⟩ := I.tuple hx
      have hlen := r.length
      exact truthy_tuple pl (by simp only [List.size_toArray]; omega) ⟨H, I.tok _, by rw [isEmpty_of r]; exact q⟩
    · subst e'
      obtain ⟨hz, hS, vs, r, m⟩ : kvs.length ≤ sizeLine ∧ (p == sysModules) = false ∧ ∃ vs, KV kvs vs ∧ s.heap.DictOf (mixKind X.prog X.w) p vs := I.hok p _ hx
      have hlen : kvs.length = vs.length := Paired.length r
      exact wpAny_truthy_dict hS m (by omega) ⟨H, I.tok _, by rw [isEmpty_kv r]; exact q⟩
  | _ => exact (show False from e).elim
def PlainIxT (b : Expr) : Prop := ∀ o i, subscripted b false o i = operate [o, i] (getItem o i)
theorem vals1 {x : V} {us : List Value} (r : Vals [x] us) : ∃ u, us = [u] ∧ RelV x u := by
  cases r with
  | cons r1 r2 => cases r2; exact ⟨_, rfl, r1⟩
theorem vals2 {x y : V} {us : List Value} (r : Vals [x, y] us) : ∃ u w', us = [u, w'] ∧ RelV x u ∧ RelV y w' := by
  cases r with
  | cons r1 r2 =>
    cases r2 with
    | cons r3 r4 => cases r4; exact ⟨_, _, rfl, r1, r3⟩
theorem call_abs : CallR X (.builtin "abs") (fun xs H Q => ∃ i, xs = [.int i] ∧ Q (.int (if i < 0 then -i else i)) H) := by
  intro pins s σ H xs us Q I r h
  obtain ⟨i, rfl, q⟩ := h
  obtain ⟨u, rfl, t, rfl⟩ := vals1 r
  exact call_abs_int fun u tk => ⟨.int (if i < 0 then -i else i), H, I.tok _, ⟨_, rfl⟩, q⟩
theorem call_min2 (hc : X.calm = true) : CallR X (.builtin "min") (fun xs H Q => ∃ i j, xs = [.int i, .int j] ∧ Q (.int (if j < i then j else i)) H) := by
  intro pins s σ H xs us Q I r h
  obtain ⟨i, j, rfl, q⟩ := h
  obtain ⟨u, w', rfl, ⟨t, rfl⟩, ⟨t', rfl⟩⟩ := vals2 r
  refine min_two_ints (I.ok.hd hc) fun h' tk k => ⟨_, H, I.kept k, ?_, q⟩
  by_cases hj : j < i
  · rw [if_pos hj, if_pos hj]; exact ⟨_, rfl⟩
  · rw [if_neg hj, if_neg hj]; exact ⟨_, rfl⟩
def LenV (K : PySem.W.Frag) (x : V) (H : Hp) (n : Nat) : Prop :=
  match x with
  | .str y => y.length ≤ sizeLine ∧ n = y.length
  | .byt y => y.size ≤ sizeLine ∧ n = y.size
  | .ref p => (∃ xs, SqL K H p xs ∧ n = xs.length) ∨ ∃ xs, SqT K H p xs ∧ n = xs.length
  | _ => False
theorem call_len : CallR X (.builtin "len") (fun xs H Q => ∃ x n, xs = [x] ∧ LenV X.K x H n ∧ Q (.int n) H) := by
  intro pins s σ H xs us Q I r h
  obtain ⟨x, n, rfl, e, q⟩ := h
  obtain ⟨u, rfl, rx⟩ := vals1 r
  have hl := line63
  have hs : sizeLine = 16777216 := sizeLine_eq
  cases x with
  | str y =>
    obtain ⟨t, rfl⟩ := rx
    obtain ⟨hy, e'⟩ : y.length ≤ sizeLine ∧ n = y.length := e
    subst e'
    exact len_str (by omega) ⟨.int _, H, I.tok _, ⟨_, rfl⟩, q⟩
  | byt y =>
    obtain ⟨t, rfl⟩ := rx
    obtain ⟨hy, e'⟩ : y.size ≤ sizeLine ∧ n = y.size := e
    subst e'
    exact PySem.W.len_bytes (by omega) ⟨.int _, H, I.tok _, ⟨_, rfl⟩, q⟩
  | ref p =>
    cases rx
    have e' : (∃ xs, SqL X.K H p xs ∧ n = xs.length) ∨ ∃ xs, SqT X.K H p xs ∧ n = xs.length := e
    rcases e' with ⟨xs, hx, e'⟩ | ⟨xs, hx, e'⟩
    · subst e'
      obtain ⟨its, r', pl, hz⟩ := I.list hx
      have hlen := r'.length
      exact Calls.call_len_list pl.isList (by simp only [List.size_toArray]; omega) ⟨.int xs.length, H, I.tok _, ⟨_, by simp only [List.size_toArray]; rw [hlen]⟩, q⟩
    · subst e'
      obtain ⟨its, r', pl, hz⟩ := I.tuple hx
      have hlen := r'.length
      exact len_tuple pl (by simp only [List.size_toArray]; omega) ⟨.int xs.length, H, I.tok _, ⟨_, by simp only [List.size_toArray]; rw [hlen]⟩, q⟩
  | _ => exact (show False from e).elim
end
end L2
namespace L2
open PySem PySem.Spec PyProof.Rows
structure ObjM (h : Heap) (x dx C : Addr) (mA : Str → Option Value) : Prop where
  obj : h.get? x = some (PySem.W.instObj C dx)
  ns : h.Ns1 dx mA
  ne : dx ≠ x
section
variable {prog : Program} {w : World} {A : Around} {E : Value → Shared → Prop} {s : Shared} {K : PySem.W.Frag} {x dx C f : Addr} {mA : Str → Option Value} {name : Str} {v : Value}
end
def putF (f : Str) (v : V) : List (Str × V) → List (Str × V)
  | [] => [(f, v)]
  | (g, x) :: r => if g = f then (g, v) :: r else (g, x) :: putF f v r
theorem RelO.none_of {o : Option Value} (r : RelO none o) : o = none := by
  cases o with
  | none => rfl
  | some u => exact (show False from r).elim
section
variable {P : Program} {w : World} {H H' : Hp} {h h' : Heap} {a C dx : Addr} {fs fs' : List (Str × V)}
end
structure Cls (K : PySem.W.Frag) (C : Addr) : Prop where
  pg : PySem.W.plainGet K C Str.empty = true
  hd : PySem.W.hasDictIn K C = true
  po : PySem.W.plainOver K C = true
  sa : PySem.W.findIn K (.ref C) "__setattr__" = some (some (.builtin "object.__setattr__"))
theorem Cls.get {K : PySem.W.Frag} {C : Addr} (c : Cls K C) (f : Str) : PySem.W.plainGet K C f = true := c.pg
def NoAttr (K : PySem.W.Frag) (C : Addr) (f : Str) : Prop := PySem.W.findIn K (.ref C) f = some none
structure Con (K : PySem.W.Frag) (C : Addr) (f : Str) (v : V) (u : Value) : Prop where
  at_ : PySem.W.findIn K (.ref C) f = some (some u)
  rel : RelV v u
  get : PySem.W.specialIn K u "__get__" = some none
  cp : PySem.W.copiedNames.contains f = false
structure Meth (K : PySem.W.Frag) (C : Addr) (m : Str) (f : Addr) : Prop where
  at_ : PySem.W.findIn K (.ref C) m = some (some (.ref f))
  fn : PySem.W.isFn K (.ref f) = true
  kp : PySem.W.keepIn K (.ref f) = true
section
variable {X : Cx} {pins : List (Addr × Obj)} {σ : St} {H : Hp} {s : Shared} {a C dx : Addr} {fs : List (Str × V)} {f : Str} {v : V} {A : Around} {E : Value → Shared → Prop}
end
def tFld (K : PySem.W.Frag) (ta : TE) (f : Str) : TE := fun σ H Q => ta σ H fun x H1 => ∃ a C dx fs v, x = .ref a ∧ H1 a = some (.ins C dx fs) ∧ Cls K C ∧ NoAttr K C f ∧ fs.lookup f = some v ∧ Q v H1
def tCon (K : PySem.W.Frag) (ta : TE) (f : Str) : TE := fun σ H Q => ta σ H fun x H1 => ∃ a C dx fs v u, x = .ref a ∧ H1 a = some (.ins C dx fs) ∧ Cls K C ∧ Con K C f v u ∧ fs.lookup f = none ∧ Q v H1
def sFld (K : PySem.W.Frag) (ta tv : TE) (f : Str) : TS := fun D σ H => tv σ H fun y H1 => ta σ H1 fun x H2 => ∃ a C dx fs, x = .ref a ∧ H2 a = some (.ins C dx fs) ∧ Cls K C ∧ NoAttr K C f ∧ fs.length < 1000 ∧
  D.nx σ (upd H2 a (.ins C dx (putF f y fs)))
def InOp (X : Cx) (op : Operator) (rd : V → V → Hp → VK → Prop) : Prop :=
  ∀ (pins : List (Addr × Obj)) (s : Shared) (σ : St) (H : Hp) (x y : V) (u v : Value) (Q : VK), Inv X pins σ H s → RelV x u → RelV y v → rd x y H Q → wpAny (model X.prog X.w) X.A (inplaceOp op u v) (EP X pins σ Q) X.xe s
def sFldAug (K : PySem.W.Frag) (ta tv : TE) (rd : V → V → Hp → VK → Prop) (f : Str) : TS := fun D σ H => ta σ H fun x H1 => ∃ a C dx fs v, x = .ref a ∧ H1 a = some (.ins C dx fs) ∧ Cls K C ∧ NoAttr K C f ∧ fs.lookup f = some v ∧
  tv σ H1 fun y H2 => rd v y H2 fun z H3 => ∃ dx' fs', H3 a = some (.ins C dx' fs') ∧ fs'.length < 1000 ∧ D.nx σ (upd H3 a (.ins C dx' (putF f z fs')))
section
variable {X : Cx} {o e value : Expr} {f : Str} {pos pos' tpos : Pos} {ta tv : TE}
def rAdd : V → V → Hp → VK → Prop := fun x y H Q => ∃ i j, x = .int i ∧ y = .int j ∧ Q (.int (i + j)) H
def rSub : V → V → Hp → VK → Prop := fun x y H Q => ∃ i j, x = .int i ∧ y = .int j ∧ Q (.int (i - j)) H
end
section
variable {X : Cx} {pins : List (Addr × Obj)} {σ : St} {H : Hp} {s : Shared} {A : Around} {E : Value → Shared → Prop} {Q : Value → Shared → Prop} {c : Value} {b : Bool}
inductive TyOf (K : PySem.W.Frag) (H : Hp) : V → Value → Prop where
  | non : TyOf K H .non (.type "NoneType")
  | bl (x : Bool) : TyOf K H (.bl x) (.type "bool")
  | int (i : Int) : TyOf K H (.int i) (.type "int")
  | str (x : Str) : TyOf K H (.str x) (.type "str")
  | flt (x : UInt64) : TyOf K H (.flt x) (.type "float")
  | lst {a : Addr} {xs : List V} (e : H a = some (.lst xs)) : TyOf K H (.ref a) (.type "list")
  | frz {a : Addr} {o : Obj} {xs : List V} (e : H a = some (.frz o (.lst xs))) : TyOf K H (.ref a) (.type "list")
  | tup {a : Addr} {xs : List V} (e : H a = some (.tup xs)) : TyOf K H (.ref a) (.type "tuple")
  | dK {a : Addr} {kvs : List (Key × V)} (e : H a = some (.dK kvs)) : TyOf K H (.ref a) (.type "dict")
  | dT {a : Addr} {kvs : List (List Key × V)} (e : H a = some (.dT kvs)) : TyOf K H (.ref a) (.type "dict")
  | ins {a C dx : Addr} {fs : List (Str × V)} (e : H a = some (.ins C dx fs)) (cl : Cls K C) (ha : PySem.W.findIn K (.ref C) "__class__" = some (some (.builtin "object.__class__")))
      (hn : PySem.W.specialIn K (.builtin "object.__class__") "__get__" = some (some (.builtin "getset_descriptor.__get__"))) (htk : PySem.W.takesIn K (.builtin "object.__class__") = some true)
      (hm : PySem.W.mroIn K C (.type "object") = some true) : TyOf K H (.ref a) (.ref C)
end
end L2
namespace L2
open PySem PySem.Spec PyProof.Rows
structure Room (k : Nat) (A : Around) : Prop where
  hd : A.handled = none
  dp : A.depth + 3 * k + 5 < recursionLimit
  un : A.units + 16 * k + 200 < cLine
theorem Room.mono {j k : Nat} {A : Around} (r : Room k A) (h : j ≤ k) : Room j A := ⟨r.hd, by have := r.dp; omega, by have := r.un; omega⟩
theorem Room.deeper {k : Nat} {A : Around} (r : Room (k + 1) A) (env : Env) : Room k (A.deeper env) :=
  ⟨r.hd, by have := r.dp; show A.depth + 1 + 3 * k + 5 < _; omega, by have := r.un; show A.units + 3 + 16 * k + 200 < _; omega⟩
theorem Room.depth {k : Nat} {A : Around} (r : Room k A) : A.depth < recursionLimit := by have := r.dp; omega
theorem Room.units {k : Nat} {A : Around} (r : Room k A) : A.units + 64 < cLine := by have := r.un; omega
def tNil : TA := fun _ H Q => Q [] H
def tCons (ta : TE) (tr : TA) : TA := fun σ H Q => ta σ H fun x H1 => tr σ H1 fun xs H2 => Q (x :: xs) H2
section
variable {X : Cx} {e : Expr} {es : List Expr} {te : TE} {t : TA} {pos : Pos}
theorem pa_nil : PA X [] tNil := fun _ _ _ _ H Q I h => Calls.spliced_nil ⟨[], H, I, .nil, h⟩
theorem pa_cons (ha : PE X e te) (hr : PA X es t) (hs : starEach (e :: es) X.env = (false, eval e X.env) :: starEach es X.env := by rfl) : PA X (e :: es) (tCons te t) := by
  intro pos pins s σ H Q I h
  rw [hs]
  show wpAny _ _ (spliced ((false, eval e X.env) :: backTo pos (starEach es X.env))) _ _ s
  refine Calls.spliced_cons (thn (ha pins s σ H _ I h) fun u s1 ⟨x, H1, I1, r1, q1⟩ => ?_)
  exact thn (hr pos pins s1 σ H1 _ I1 q1) fun us s2 ⟨xs, H2, I2, r2, q2⟩ => ⟨x :: xs, H2, I2, .cons r1 r2, q2⟩
def tTup (t : TA) : TE := fun σ H Q => t σ H fun xs H1 => xs.length ≤ sizeLine ∧ ∀ p, H1 p = none → Q (.ref p) (upd H1 p (.tup xs))
def tLst (t : TA) : TE := fun σ H Q => t σ H fun xs H1 => xs.length ≤ sizeLine ∧ ∀ p, H1 p = none → Q (.ref p) (upd H1 p (.lst xs))
theorem pe_tup {x1} (h : PA X es t) : PE X (.Tuple es x1 pos) (tTup t) := by
  intro pins s σ H Q I hq
  refine wpAny_Tuple_spliced (thn (h pos pins s σ H _ I hq) fun us s1 ⟨xs, H1, I1, r, z, q⟩ => ⟨by rw [← r.length]; exact z, ?_⟩)
  have hf : H1 s1.heap.objs.size = none := I1.hok.fresh (Nat.le_refl _)
  refine ⟨.ref s1.heap.objs.size, upd H1 s1.heap.objs.size (.tup xs), I1.laid (t' := s1.toks) (fun b u e => Heap.get?_push_of_some _ e) (Nat.le_refl _) ?_, rfl, q _ hf⟩
  exact ⟨z, us, r, ⟨_, Heap.get?_push_size _ rfl, rfl, _, rfl⟩⟩
theorem pe_lst (h : PA X es t) : PE X (.List es pos) (tLst t) := by
  intro pins s σ H Q I hq
  refine wpAny_List_spliced (thn (h pos pins s σ H _ I hq) fun us s1 ⟨xs, H1, I1, r, z, q⟩ => ⟨by rw [← r.length]; exact z, ?_⟩)
  have hf : H1 s1.heap.objs.size = none := I1.hok.fresh (Nat.le_refl _)
  refine ⟨.ref s1.heap.objs.size, upd H1 s1.heap.objs.size (.lst xs), I1.laid (t' := s1.toks) (fun b u e => Heap.get?_push_of_some _ e) (Nat.le_refl _) ?_, rfl, q _ hf⟩
  exact ⟨z, us, 0, r, Heap.get?_push_size _ rfl⟩
end
abbrev Sp := List V → Hp → VK → XK → Prop
abbrev CXT := List Env → Hp → Shared → XK → Value → Shared → Prop
structure Env0 (P : Program) (w : World) (K : PySem.W.Frag) (mg : Str → Option Value) (base : Heap) (A : Around) (outer : List Env) (s : Shared) (H : Hp) : Prop where
  frames : A.frames = some outer
  mod : Mod K mg base
  bs : ∀ b o, base.get? b = some o → s.heap.get? b = some o ∧ H b = none
  bsz : base.objs.size ≤ s.heap.objs.size
  funs : s.heap.FunFrames base outer
  frf : ∀ b ∈ frs outer, H b = none
  hok : HOk P w H s.heap
  bare : AllBare s.gens
def CE (outer : List Env) (P : Program) (w : World) (H : Hp) (s : Shared) (Q : VK) (u : Value) (s' : Shared) : Prop :=
  ∃ v H', s'.os = s.os ∧ AllBare s'.gens ∧ Un (frs outer) [] H H' s.heap s'.heap ∧ HOk P w H' s'.heap ∧ RelV v u ∧ Q v H'
def CR (CX : CXT) (outer : List Env) (P : Program) (w : World) (H : Hp) (s : Shared) (Q : VK) (E : XK) (r : Result) (s' : Shared) : Prop :=
  match r with
  | .ok (.ret u) => CE outer P w H s Q u s'
  | .ok _ => False
  | .error e => CX outer H s E e s'
structure FnOk (P : Program) (w : World) (K : PySem.W.Frag) (mg : Str → Option Value) (base : Heap) (CX : CXT) (k : Nat) (f : Addr) (fd : FuncData) (ps : List Str) (sp : Sp) : Prop where
  len : ∀ vs H Q E, sp vs H Q E → vs.length = ps.length
  run : ∀ (A : Around) (outer : List Env) (s : Shared) (H : Hp) (args : Args) (us : List Value) (vs : List V) (Q : VK) (E : XK), Room k A → Env0 P w K mg base A outer s H → BindsTo s fd args (ps.zip us) → Vals vs us → sp vs H Q E →
    codeAny (model P w) A (.call (.ref f) args) (CR CX outer P w H s Q E) s
theorem FnOk.mono {P : Program} {w : World} {K : PySem.W.Frag} {mg : Str → Option Value} {base : Heap} {CX : CXT} {j k : Nat} {f : Addr} {fd : FuncData} {ps : List Str} {sp : Sp} (F : FnOk P w K mg base CX j f fd ps sp) (h : j ≤ k) :
    FnOk P w K mg base CX k f fd ps sp := ⟨F.len, fun A outer s H args us vs Q E hr => F.run A outer s H args us vs Q E (hr.mono h)⟩
theorem FnOk.imp {P : Program} {w : World} {K : PySem.W.Frag} {mg : Str → Option Value} {base : Heap} {CX : CXT} {k : Nat} {f : Addr} {fd : FuncData} {ps : List Str} {sp sp' : Sp} (F : FnOk P w K mg base CX k f fd ps sp)
    (h : ∀ vs H Q E, sp' vs H Q E → sp vs H Q E) : FnOk P w K mg base CX k f fd ps sp' :=
  ⟨fun vs H Q E q => F.len vs H Q E (h _ _ _ _ q), fun A outer s H args us vs Q E hr he hb hv hs => F.run A outer s H args us vs Q E hr he hb hv (h _ _ _ _ hs)⟩
section
variable {X : Cx} {pins : List (Addr × Obj)} {σ : St} {H : Hp} {s s' : Shared}
theorem Inv.env0 (I : Inv X pins σ H s) : Env0 X.prog X.w X.K X.mg X.base X.A X.stack s H :=
  ⟨I.ok.frames, I.ok.mod, I.bs, Nat.le_trans I.ok.bsz I.sz, I.stack, I.stkFree, I.hok, I.bare⟩
theorem Inv.after {Q : VK} {u : Value} (I : Inv X pins σ H s) (h : CE X.stack X.prog X.w H s Q u s') : EP X pins σ Q u s' := by
  obtain ⟨v, H', os, bare, un, hok, r, q⟩ := h
  obtain ⟨hh, g, d, t, os'⟩ := s'
  obtain rfl : os' = s.os := os
  exact ⟨v, H', I.call (h' := hh) (g' := g) (d' := d) (t' := t) (ch := []) un hok bare (fun b z => absurd z (by simp)), r, q⟩
end
def tCall (sp : Sp) (dvs : List V) (E : XK) (t : TA) : TE := fun σ H Q => t σ H fun vs H1 => sp (vs ++ dvs) H1 Q E
def tMeth (C : Addr) (m : Str) (sp : Sp) (dvs : List V) (E : XK) (ta : TE) (t : TA) : TE := fun σ H Q => ta σ H fun x H1 => ∃ a dx fs, x = .ref a ∧ H1 a = some (.ins C dx fs) ∧ fs.lookup m = none ∧
  t σ H1 fun vs H2 => sp (x :: (vs ++ dvs)) H2 Q E
def tMake (C : Addr) (sp : Sp) (dvs : List V) (E : XK) (t : TA) : TE := fun σ H Q => t σ H fun vs H1 => ∀ x dx, H1 x = none → H1 dx = none → dx ≠ x →
  sp (.ref x :: (vs ++ dvs)) (upd (upd H1 dx (.own x)) x (.ins C dx [])) (fun v H2 => v = .non ∧ Q (.ref x) H2) E
def Binds (K : PySem.W.Frag) (fd : FuncData) (ps : List Str) (ds : List Value) : Prop :=
  ∀ (s : Shared) (us : List Value), K.In s.heap → (us ++ ds).length = ps.length → BindsTo s fd ⟨us, []⟩ (ps.zip (us ++ ds))
theorem Binds.all {K : PySem.W.Frag} {fd : FuncData} {ps : List Str} (h : ∀ us : List Value, us.length = ps.length → bindArgs fd ⟨us, []⟩ = pure (ps.zip us)) : Binds K fd ps [] := fun s us _ hl => by
  rw [List.append_nil] at hl ⊢
  exact .of_eq (h us hl)
def Passes (CX : CXT) (X : Cx) (E : XK) : Prop := ∀ (pins : List (Addr × Obj)) (σ : St) (H : Hp) (s : Shared) (e : Value) (s' : Shared), Inv X pins σ H s → CX X.stack H s E e s' → X.xe e s'
section
variable {X : Cx} {CX : CXT} {k : Nat} {f C : Addr} {fd : FuncData} {ps : List Str} {sp : Sp} {dvs : List V} {ds : List Value} {E : XK} {x m : Str} {p pos apos : Pos} {e o : Expr} {es : List Expr} {ta : TE} {t : TA}
theorem run_fn {pins : List (Addr × Obj)} {σ : St} {H : Hp} {s : Shared} {Q : VK} {us : List Value} {vs : List V} (F : FnOk X.prog X.w X.K X.mg X.base CX k f fd ps sp) (hr : Room k X.A) (hb : Binds X.K fd ps ds) (hd : Vals dvs ds) (hx : Passes CX X E)
    (I : Inv X pins σ H s) (r : Vals vs us) (h : sp (vs ++ dvs) H Q E) : wpAny (model X.prog X.w) X.A (call (.ref f) us) (EP X pins σ Q) X.xe s := by
  have r2 : Vals (vs ++ dvs) (us ++ ds) := r.append hd
  have hl : (us ++ ds).length = ps.length := by rw [← r2.length]; exact F.len _ _ _ _ h
  refine wpAny_call (codeAny_mono (F.run X.A X.stack s H ⟨us, []⟩ (us ++ ds) (vs ++ dvs) Q E hr I.env0 (hb s us I.kIn hl) r2 h) fun r s' hq => ?_)
  cases r with
  | error e => exact hx pins σ H s e s' I hq
  | ok fl =>
    cases fl with
    | ret u => exact I.after hq
    | next => exact False.elim hq
    | brk => exact False.elim hq
    | cont => exact False.elim hq
theorem pe_call (F : FnOk X.prog X.w X.K X.mg X.base CX k f fd ps sp) (hr : Room k X.A) (hg : Gl X x) (hm : X.mg x = some (.ref f)) (hk : PySem.W.keepIn X.K (.ref f) = true) (hb : Binds X.K fd ps ds) (hd : Vals dvs ds) (hx : Passes CX X E)
    (ha : PA X (e :: es) t) (hdb : (x == ("__debug__" : Str)) = false := by decide) (he : starEach (e :: es) X.env = (false, eval e X.env) :: starEach es X.env := by rfl) (hpl : (backTo pos (starEach es X.env)).any (·.1) = false := by rfl) :
    PE X (.Call (.Name x p) (e :: es) [] pos) (tCall sp dvs E t) := by
  intro pins s σ H Q I h
  refine wpAny_Call_Name_kw (ld_glob I hg hm ?_ hdb)
  refine PySem.W.callWith_K (h₀ := X.base) I.ok.mod.kin hk (thn (ha pos pins s σ H _ I h) fun us s1 ⟨vs, H1, I1, r, q⟩ => ⟨I1.kIn, ?_⟩) he hpl
  exact run_fn F hr hb hd hx I1 r q
structure Mk (K : PySem.W.Frag) (C f : Addr) : Prop where
  makes : PySem.W.makesIn K C = true
  init : PySem.W.findIn K (.ref C) "__init__" = some (some (.ref f))
  fn : PySem.W.isFn K (.ref f) = true
  kp : PySem.W.keepIn K (.ref C) = true
end
def PK (X : Cx) (kws : List Keyword) (t : TA) : Prop :=
  ∀ (pos : Pos) (pins : List (Addr × Obj)) (s : Shared) (σ : St) (H : Hp) (Q : List V → Hp → Prop), Inv X pins σ H s → t σ H Q → wpAny (model X.prog X.w) X.A (evalAll ((backToKw pos (keywordEach kws X.env)).map (·.2))) (AP X pins σ Q) X.xe s
section
variable {X : Cx} {CX : CXT} {k : Nat} {f C : Addr} {fd : FuncData} {ps ks : List Str} {sp : Sp} {E : XK} {x m : Str} {p pos apos kpos : Pos} {e o : Expr} {es : List Expr} {kws : List Keyword} {te ta : TE} {t tk : TA} {nm : Option Str}
structure KBinds (K : PySem.W.Frag) (fd : FuncData) (ps ks : List Str) (g : List Value → List Value → List Value) (gV : List V → List V → List V) : Prop where
  to : ∀ (s : Shared) (us ws : List Value), K.In s.heap → (g us ws).length = ps.length → BindsTo s fd ⟨us, ks.zip ws⟩ (ps.zip (g us ws))
  rel : ∀ {vs : List V} {us : List Value} {zs : List V} {ws : List Value}, Vals vs us → Vals zs ws → Vals (gV vs zs) (g us ws)
def tCallK (sp : Sp) (gV : List V → List V → List V) (E : XK) (t tk : TA) : TE := fun σ H Q => t σ H fun vs H1 => tk σ H1 fun zs H2 => sp (gV vs zs) H2 Q E
variable {g : List Value → List Value → List Value} {gV : List V → List V → List V}
end
structure FnScope (N P : List Str) (sc : Scope) : Prop where
  kind : sc.kind = .function
  co : sc.isCoroutine = false
  gen : sc.isGenerator = false
  nd : N.Nodup
  pre : N.take P.length = P
  par : ∀ x ∈ P, sc.names.lookup x = some .local ∨ sc.names.lookup x = some .cell
  nofree : ∀ y ∈ sc.names, y.2 ≠ .free
theorem bindL_out {kindOf : Str → Option NameKind} {x : Str} : ∀ {binds : List (Str × Value)} {m : Str → Option Value}, (∀ v, (x, v) ∉ binds) → bindL kindOf binds m x = m x
  | [], _, _ => rfl
  | (n, v) :: r, m, h => by
    unfold bindL
    rw [bindL_out fun w hw => h w (List.mem_cons_of_mem _ hw)]
    split
    · have : x ≠ n := by rintro rfl; exact h v List.mem_cons_self
      simp [this]
    · rfl
theorem bindC_out {kindOf : Str → Option NameKind} {x : Str} : ∀ {binds : List (Str × Value)} {m : Str → Option Value}, (∀ v, (x, v) ∉ binds) → bindC kindOf binds m x = m x
  | [], _, _ => rfl
  | (n, v) :: r, m, h => by
    unfold bindC
    rw [bindC_out fun w hw => h w (List.mem_cons_of_mem _ hw)]
    split
    · rfl
    · have : x ≠ n := by rintro rfl; exact h v List.mem_cons_self
      simp [this]
theorem bindL_get {kindOf : Str → Option NameKind} {x : Str} {v : Value} : ∀ {P : List Str} {vs : List Value} {i : Nat} {m : Str → Option Value}, P.Nodup → P[i]? = some x → vs[i]? = some v → kindOf x = some .local →
    bindL kindOf (P.zip vs) m x = some v
  | [], _, _, _, _, h, _, _ => by simp at h
  | _ :: _, [], _, _, _, _, h, _ => by simp at h
  | p :: P, w :: vs, 0, m, nd, h1, h2, hk => by
    simp at h1 h2; subst h1; subst h2
    show bindL kindOf ((p, w) :: P.zip vs) m p = _
    unfold bindL
    rw [bindL_out fun v hv => (List.nodup_cons.mp nd).1 (List.of_mem_zip hv).1, if_pos hk]
    simp
  | p :: P, w :: vs, i + 1, m, nd, h1, h2, hk => by
    show bindL kindOf ((p, w) :: P.zip vs) m x = _
    unfold bindL
    exact bindL_get (i := i) (List.nodup_cons.mp nd).2 (by simpa using h1) (by simpa using h2) hk
theorem bindC_get {kindOf : Str → Option NameKind} {x : Str} {v : Value} : ∀ {P : List Str} {vs : List Value} {i : Nat} {m : Str → Option Value}, P.Nodup → P[i]? = some x → vs[i]? = some v → kindOf x ≠ some .local →
    bindC kindOf (P.zip vs) m x = some v
  | [], _, _, _, _, h, _, _ => by simp at h
  | _ :: _, [], _, _, _, _, h, _ => by simp at h
  | p :: P, w :: vs, 0, m, nd, h1, h2, hk => by
    simp at h1 h2; subst h1; subst h2
    show bindC kindOf ((p, w) :: P.zip vs) m p = _
    unfold bindC
    rw [bindC_out fun v hv => (List.nodup_cons.mp nd).1 (List.of_mem_zip hv).1, if_neg hk]
    simp
  | p :: P, w :: vs, i + 1, m, nd, h1, h2, hk => by
    show bindC kindOf ((p, w) :: P.zip vs) m x = _
    unfold bindC
    exact bindC_get (i := i) (List.nodup_cons.mp nd).2 (by simpa using h1) (by simpa using h2) hk
def start (N : List Str) (vs : List V) : St := vs.map some ++ List.replicate (N.length - vs.length) none
def cxOf (CX : CXT) (P : Program) (w : World) (K : PySem.W.Frag) (mg : Str → Option Value) (base : Heap) (N : List Str) (qual : Str) (scope : Scope) (f : Addr) (cd : Value) (A : Around) (outer : List Env) (s : Shared) (H : Hp) (E : XK) : Cx where
  prog := P
  w := w
  K := K
  mg := mg
  base := base
  A := A.deeper (envOfC qual scope s.heap.objs.size f cd)
  N := N
  s₀ := s
  H₀ := H
  env := envOfC qual scope s.heap.objs.size f cd
  outer := outer
  stack := envOfC qual scope s.heap.objs.size f cd :: outer
  ex := []
  calm := true
  fn := fun _ => true
  pn := []
  xe := fun e s' => wpAny (model P w) (A.deeper (envOfC qual scope s.heap.objs.size f cd)) (leaving (envOfC qual scope s.heap.objs.size f cd) e) (fun _ s'' => CX outer H s E e s'') (fun e' s'' => CX outer H s E e' s'') s'
theorem cell_has {sc : Scope} {n : Nat} {x : Str} (h : sc.names.lookup x = some .cell) : ∃ c, (cellsFrom n sc.names []).lookup x = some c := by
  have q := PySem.W.cellsFrom_some sc.names n [] (.inl h)
  exact Option.isSome_iff_exists.mp q
theorem inv_start {CX : CXT} {P : Program} {w : World} {K : PySem.W.Frag} {mg : Str → Option Value} {base : Heap} {N ps : List Str} {qual : Str} {scope : Scope} {f : Addr} {cd : Value} {A : Around} {outer : List Env} {s s1 : Shared} {H : Hp} {E : XK} {us : List Value} {vs : List V}
    (S : FnScope N ps scope) (hd : A.handled = none) (e0 : Env0 P w K mg base A outer s H) (hl : vs.length = ps.length) (r : Vals vs us)
    (x : InCallC s s.heap.objs.size (bindL (envOfC qual scope s.heap.objs.size f cd).kindOf (ps.zip us) fun _ => none) (cellsFrom (s.heap.objs.size + 1) scope.names []) (bindC (envOfC qual scope s.heap.objs.size f cd).kindOf (ps.zip us) fun _ => none) s1) :
    Inv (cxOf CX P w K mg base N qual scope f cd A outer s H E) [] (start N vs) H s1 := by
  have hpl : ps.length ≤ N.length := by have := congrArg List.length S.pre; rw [List.length_take] at this; omega
  obtain ⟨h1, tk, rfl, hk⟩ := x.done
  have noA : ∀ b : Addr, b ∉ (cxOf CX P w K mg base N qual scope f cd A outer s H E).ex := fun b z => absurd (show b ∈ ([] : List Addr) from z) (by simp)
  refine ⟨⟨e0.mod, S.kind, rfl, rfl, Nat.le_refl _, fun y z c h1 h2 => ?_, fun y hy => ?_, fun y c _ h => ?_, fun _ => hd, Around.frames_deeper e0.frames, .inr ⟨rfl, rfl⟩, fun b z => absurd z (noA b), e0.bs, e0.bsz, fun b _ _ => noA b, fun b z => absurd z (noA b), e0.funs, e0.frf⟩,
    rfl, e0.bare, Un.kept hk, ⟨_, x.toInCall.ns, fun i y v h1 h2 h3 => ?_⟩, fun y c h => ⟨_, x.cell y c h⟩, e0.hok.fresh (Nat.le_refl _), fun y c h => ?_, fun p hp => absurd (show p ∈ ([] : List (Addr × Obj)) from hp) (by simp), e0.hok.kept hk, ?_⟩
  · exact name_of_addr x.apart (PySem.mem_of_lookup h1) (PySem.mem_of_lookup h2)
  · have hy : scope.names.lookup y = some .cell ∨ scope.names.lookup y = some .free := hy
    rcases hy with hy | hy
    · exact cell_has hy
    · exact absurd rfl (S.nofree _ (PySem.mem_of_lookup hy))
  · exact Nat.le_of_lt (x.above y c (PySem.mem_of_lookup h))
  · have hi : i < vs.length := by
      unfold start at h2
      by_cases hi : i < vs.length
      · exact hi
      · rw [List.getElem?_append_right (by simpa using hi)] at h2
        rw [List.getElem?_replicate] at h2
        split at h2 <;> cases h2
    have ha : vs[i]? = some v := by
      unfold start at h2
      rw [List.getElem?_append_left (by simpa using hi), List.getElem?_map] at h2
      cases e : vs[i]? with
      | none => rw [e] at h2; cases h2
      | some a => rw [e] at h2; cases h2; rfl
    obtain ⟨u, hu, rv⟩ := r.get ha
    have hp : ps[i]? = some y := by
      rw [← S.pre, List.getElem?_take_of_lt (by omega)]; exact h1
    have ndP : ps.Nodup := by rw [← S.pre]; exact S.nd.sublist (List.take_sublist _ _)
    refine ⟨u, rv, ?_⟩
    rcases S.par y (List.mem_of_getElem? hp) with k | k
    · exact .inl ⟨k, bindL_get ndP hp hu k⟩
    · obtain ⟨c, e⟩ := cell_has (n := s.heap.objs.size + 1) k
      refine .inr ⟨.inl k, c, e, ?_⟩
      have q := x.cell y c e
      rw [bindC_get ndP hp hu (by show scope.names.lookup y ≠ _; rw [k]; decide)] at q
      exact q
  · exact e0.hok.fresh (Nat.le_of_lt (x.above y c (PySem.mem_of_lookup h)))
  · unfold start
    show _ = N.length
    rw [List.length_append, List.length_map, List.length_replicate]
    omega
theorem fn_of {CX : CXT} {P : Program} {w : World} {K : PySem.W.Frag} {mg : Str → Option Value} {base : Heap} {k : Nat} {f : Addr} {name qual : Str} {params : Arguments} {body : List Stmt} {scope : Scope} {dV kV doc pm cdv ct oc : Value} {an od : Option Addr}
    {osl : Array (Option Value)} {N ps : List Str} {sp : Sp} (lk : K.lookup f = some ⟨oc, od, .func (PySem.W.fnOf name qual params body scope dV kV doc pm an cdv ct), osl⟩) (hcd : PySem.W.codeIn K cdv qual = true) (S : FnScope N ps scope)
    (len : ∀ vs H Q E, sp vs H Q E → vs.length = ps.length)
    (hbody : ∀ (A : Around) (outer : List Env) (s : Shared) (H : Hp) (vs : List V) (Q : VK) (E : XK), Room k (A.deeper (envOfC qual scope s.heap.objs.size f cdv)) → sp vs H Q E →
      ∃ t, PSs (cxOf CX P w K mg base N qual scope f cdv A outer s H E) body t ∧ t { nx := fun _ H' => Q .non H', rt := Q } (start N vs) H) :
    FnOk P w K mg base CX (k + 1) f (PySem.W.fnOf name qual params body scope dV kV doc pm an cdv ct) ps sp := by
  refine ⟨len, fun A outer s H args us vs Q E hr e0 hb r hsp => ?_⟩
  have hl := len _ _ _ _ hsp
  have KX : K.In s.heap := e0.mod.kin.keeps fun b o e => (e0.bs b o e).1
  have lim : s.heap.NoLimit := e0.mod.nolimit.keeps fun b o e => (e0.bs b o e).1
  have hkind : ∀ y ∈ ps.zip us, scope.names.lookup y.1 = some .local ∨ (scope.names.lookup y.1 = some .cell ∧ ((cellsFrom (s.heap.objs.size + 1) scope.names []).lookup y.1).isSome = true) := fun ⟨n, v⟩ hy => by
    rcases S.par n (List.of_mem_zip hy).1 with q | q
    · exact .inl q
    · exact .inr ⟨q, PySem.W.cellsFrom_some _ _ _ (.inl q)⟩
  refine codeAny_call_function hr.depth (KX _ _ lk) rfl S.co S.gen rfl (PySem.W.codeRec_of KX hcd) (hb _ _ _ _ ?_)
  refine wpAny_newFunctionEnv_cells S.kind hkind fun env he s1 x => ?_
  subst he
  refine ⟨lim.keeps x.toInCall.keep, codeAny_func ?_⟩
  obtain ⟨t, ht, hq⟩ := hbody A outer s H vs Q E (hr.deeper _) hsp
  have I : Inv (cxOf CX P w K mg base N qual scope f cdv A outer s H E) [] (start N vs) H s1 := inv_start S hr.hd e0 hl r x
  refine wpAny_mono (ht [] s1 (start N vs) H _ I hq) (fun fl s' hs => ?_) fun e s' hs => hs
  have fin : ∀ {σ' : St} {H' : Hp} {v : V} {u : Value}, Inv (cxOf CX P w K mg base N qual scope f cdv A outer s H E) [] σ' H' s' → RelV v u → Q v H' → CE outer P w H s Q u s' :=
    fun {σ' H' v u} J rv q => ⟨v, H', J.os, J.bare, J.base, J.hok, rv, q⟩
  cases fl with
  | ret u =>
    obtain ⟨v, σ', H', J, rv, q⟩ := hs
    exact fin J rv q
  | next =>
    obtain ⟨σ', H', J, q⟩ := hs
    exact fin (v := V.non) (u := Value.none) J rfl q
  | brk =>
    obtain ⟨_, _, _, q⟩ := hs
    exact False.elim q
  | cont =>
    obtain ⟨_, _, _, q⟩ := hs
    exact False.elim q
end L2
namespace L2
open PySem PySem.Spec PyProof.Rows
section
variable {X : Cx} {x : Str} {p pos : Pos} {e : Expr} {es : List Expr} {t : TA} {id T : String} {r : List V → Hp → VK → Prop}
def tCB (r : List V → Hp → VK → Prop) (t : TA) : TE := fun σ H Q => t σ H fun vs H1 => r vs H1 Q
theorem pe_callB (hc : CallR X (.builtin id) r) (hg : Gl X x) (hm : X.mg x = none) (hv : bootBuiltins x = some (.builtin id)) (ha : PA X (e :: es) t) (hn : x ≠ "__name__" := by decide) (hdb : (x == ("__debug__" : Str)) = false := by decide)
    (he : starEach (e :: es) X.env = (false, eval e X.env) :: starEach es X.env := by rfl) (hpl : (backTo pos (starEach es X.env)).any (·.1) = false := by rfl) : PE X (.Call (.Name x p) (e :: es) [] pos) (tCB r t) := by
  intro pins s σ H Q I h
  refine wpAny_Call_Name_kw (ld_blt I hg hm hv ?_ hn hdb)
  exact PyProof.Rows.callWith_builtin1 (thn (ha pos pins s σ H _ I h) fun us s1 ⟨vs, H1, I1, r1, q1⟩ => hc pins s1 σ H1 vs us Q I1 r1 q1) he hpl
theorem pe_callTy (hc : CallR X (.type T) r) (hg : Gl X x) (hm : X.mg x = none) (hv : bootBuiltins x = some (.type T)) (ha : PA X (e :: es) t) (hn : x ≠ "__name__" := by decide) (hdb : (x == ("__debug__" : Str)) = false := by decide)
    (he : starEach (e :: es) X.env = (false, eval e X.env) :: starEach es X.env := by rfl) (hpl : (backTo pos (starEach es X.env)).any (·.1) = false := by rfl) : PE X (.Call (.Name x p) (e :: es) [] pos) (tCB r t) := by
  intro pins s σ H Q I h
  refine wpAny_Call_Name_kw (ld_blt I hg hm hv ?_ hn hdb)
  exact PyProof.Rows.callWith_type1 (thn (ha pos pins s σ H _ I h) fun us s1 ⟨vs, H1, I1, r1, q1⟩ => hc pins s1 σ H1 vs us Q I1 r1 q1) he hpl
end
end L2
namespace HT
open PySem PyProof.Rows
def lexLt : List Int → List Int → Bool
  | [], [] => false
  | [], _ :: _ => true
  | _ :: _, [] => false
  | x :: xs, y :: ys => if x = y then lexLt xs ys else decide (x < y)
theorem lexLt_cons (x y : Int) (xs ys : List Int) : lexLt (x :: xs) (y :: ys) = if x = y then lexLt xs ys else decide (x < y) := rfl
section
open PySem.SeqAt
open PySem.AutoSeq1 (wpAny_loadPart')
open PySem.MeetsSeq PySem.MeetsSeq2 PySem.MeetsSeq3
end
section
variable {prog : Program} {w : World} {A : Around} {E : Value → Shared → Prop} {s : Shared}
def sIx (n d : Nat) : Option Int → Nat
  | none => d
  | some v => if v < 0 then (v + (n : Int)).toNat else min v.toNat n
end
end HT
namespace L2
open PySem PySem.Spec PyProof.Rows
abbrev TO := St → Hp → (Option Int → Hp → Prop) → Prop
def PO (X : Cx) (e : Option Expr) (t : TO) : Prop :=
  ∀ (pins : List (Addr × Obj)) (s : Shared) (σ : St) (H : Hp) (Q : Option Int → Hp → Prop), Inv X pins σ H s → t σ H Q →
    wpAny (model X.prog X.w) X.A (evalPart e X.env) (fun u s' => ∃ o H', Inv X pins σ H' s' ∧ IsPart u o ∧ Q o H') X.xe s
def tNoPart : TO := fun _ H Q => Q none H
def tPart (t : TE) : TO := fun σ H Q => t σ H fun x H1 => ∃ i, x = .int i ∧ Q (some i) H1
section
variable {X : Cx} {e : Expr} {te : TE} {lo hi : Option Expr} {tl th : TO} {pos p2 : Pos}
theorem po_none : PO X none tNoPart := by
  intro pins s σ H Q I h
  rw [evalPart_none]
  exact wpAny_pure ⟨none, H, I, .none, h⟩
theorem po_some (h : PE X e te) : PO X (some e) (tPart te) := by
  intro pins s σ H Q I hw
  rw [evalPart_some]
  refine thn (h pins s σ H _ I hw) fun u s1 ⟨x, H1, I1, r1, q1⟩ => ?_
  obtain ⟨i, rfl, q⟩ := q1
  obtain ⟨t, rfl⟩ := r1
  exact ⟨some i, H1, I1, .int i t, q⟩
def SlR (X : Cx) (r : V → Option Int → Option Int → Hp → VK → Prop) : Prop :=
  ∀ (pins : List (Addr × Obj)) (s : Shared) (σ : St) (H : Hp) (x : V) (v vl vu : Value) (lo hi : Option Int) (sl : Addr) (Q : VK), Inv X pins σ H s → RelV x v → s.heap.IsSliceOf sl vl vu .none → IsPart vl lo → IsPart vu hi → r x lo hi H Q →
    ∃ T id, typeLookup (.type T) "__getitem__" = pure (some (.builtin id)) ∧ s.TypeIs v T ∧ wpAny (model X.prog X.w) X.A (getItem v (.ref sl)) (EP X pins σ Q) X.xe s
def tSl (r : V → Option Int → Option Int → Hp → VK → Prop) (te : TE) (tl th : TO) : TE := fun σ H Q => te σ H fun x H1 => tl σ H1 fun l H2 => th σ H2 fun u H3 => r x l u H3 Q
theorem pe_slice {r : V → Option Int → Option Int → Hp → VK → Prop} (hr : SlR X r) (he : PE X e te) (hl : PO X lo tl) (hu : PO X hi th) : PE X (.Subscript e (.Slice lo hi none p2) pos) (tSl r te tl th) := by
  intro pins s σ H Q I h
  refine Subscript_ (thn (he pins s σ H _ I h) fun v s1 ⟨x, H1, I1, r1, q1⟩ => ?_)
  refine wpAny_Slice (thn (hl pins s1 σ H1 _ I1 q1) fun vl s2 ⟨l, H2, I2, pl, q2⟩ => thn (hu pins s2 σ H2 _ I2 q2) fun vu s3 ⟨u, H3, I3, pu, q3⟩ => ?_)
  rw [evalPart_none]
  refine wpAny_pure ?_
  have I4 : Inv X pins σ H3 { s3 with heap := s3.heap.push { cls := .type "slice", data := .fields #[vl, vu, .none] } } := I3.kept (t' := s3.toks) fun b ob q => Heap.get?_push_of_some _ q
  obtain ⟨T, id, hT, ht, hg⟩ := hr pins { s3 with heap := s3.heap.push { cls := .type "slice", data := .fields #[vl, vu, .none] } } σ H3 x v vl vu l u s3.heap.objs.size Q I4 r1 (Heap.IsSliceOf.new ..) pl pu q3
  show wpAny (model X.prog X.w) X.A (subscriptTail e (.Slice lo hi none p2) v (.ref s3.heap.objs.size)) (EP X pins σ Q) X.xe { s3 with heap := s3.heap.push { cls := .type "slice", data := .fields #[vl, vu, .none] } }
  exact tail_any (ops := [.ref s3.heap.objs.size, v]) ht hT hg (by with_unfolding_all rfl)
def cutV (xs : List V) (lo hi : Option Int) : List V := (xs.drop (HT.sIx xs.length 0 lo)).take (HT.sIx xs.length xs.length hi - HT.sIx xs.length 0 lo)
theorem cutV_length (xs : List V) (lo hi : Option Int) : (cutV xs lo hi).length ≤ xs.length := by
  unfold cutV
  rw [List.length_take, List.length_drop]
  omega
def rSlT (K : PySem.W.Frag) : V → Option Int → Option Int → Hp → VK → Prop := fun x lo hi H Q => ∃ a xs, x = .ref a ∧ SqT K H a xs ∧
  ¬ (HT.sIx xs.length 0 lo = 0 ∧ HT.sIx xs.length xs.length hi = xs.length) ∧ ∀ p, H p = none → Q (.ref p) (upd H p (.tup (cutV xs lo hi)))
def rLtT (K : PySem.W.Frag) : R2 := fun x y H Q => ∃ a b ns ms, x = .ref a ∧ y = .ref b ∧ SqT K H a (ns.map V.int) ∧ SqT K H b (ms.map V.int) ∧ Q (.bl (HT.lexLt ns ms)) H
def rCatT (K : PySem.W.Frag) : R2 := fun x y H Q => ∃ a b xs ys, x = .ref a ∧ y = .ref b ∧ SqT K H a xs ∧ SqT K H b ys ∧ xs ≠ [] ∧ xs.length + ys.length ≤ sizeLine ∧
  (ys = [] → Q (.ref a) H) ∧ (ys ≠ [] → ∀ p, H p = none → Q (.ref p) (upd H p (.tup (xs ++ ys))))
end
end L2
namespace L2
open PySem PySem.Spec PyProof.Rows
def ixN (n : Nat) (i : Int) : Option Nat := if 0 ≤ i then (if i < n then some i.toNat else none) else if -(n : Int) ≤ i then some (i + n).toNat else none
def atI {α : Type} (xs : List α) (i : Int) : Option α := (ixN xs.length i).bind fun j => xs[j]?
theorem ixN_seq {n : Nat} {i : Int} {j : Nat} (h : ixN n i = some j) : seqIndex? i n = some j ∧ j < n ∧ -(n : Int) ≤ i ∧ i < n := by
  unfold ixN at h
  by_cases h0 : 0 ≤ i
  · rw [if_pos h0] at h
    by_cases h1 : i < n
    · rw [if_pos h1] at h
      have e : i.toNat = j := Option.some.inj h
      exact ⟨by rw [seqIndex_of h0 h1, e], by omega, by omega, h1⟩
    · rw [if_neg h1] at h; cases h
  · rw [if_neg h0] at h
    by_cases h1 : -(n : Int) ≤ i
    · rw [if_pos h1] at h
      have e : (i + n).toNat = j := Option.some.inj h
      exact ⟨by rw [seqIndex_neg (by omega) h1, e], by omega, h1, by omega⟩
    · rw [if_neg h1] at h; cases h
theorem atI_get {α : Type} {xs : List α} {i : Int} {v : α} (h : atI xs i = some v) : ∃ j, seqIndex? i xs.length = some j ∧ xs[j]? = some v ∧ j < xs.length ∧ -(xs.length : Int) ≤ i ∧ i < xs.length := by
  unfold atI at h
  cases e : ixN xs.length i with
  | none => rw [e] at h; cases h
  | some j =>
    rw [e] at h
    obtain ⟨h1, h2, h3, h4⟩ := ixN_seq e
    exact ⟨j, h1, h, h2, h3, h4⟩
theorem atI_nat {α : Type} {xs : List α} {j : Nat} {v : α} (h : xs[j]? = some v) : atI xs (j : Int) = some v := by
  have hj : j < xs.length := (List.getElem?_eq_some_iff.mp h).1
  have e : ixN xs.length (j : Int) = some j := by
    unfold ixN
    rw [if_pos (by omega), if_pos (by omega)]; simp
  unfold atI; rw [e]; exact h
def PlainIx (b : Expr) : Prop := ∀ o i, subscripted b false o i = operate [o, i] (getItem o i)
def IxR (X : Cx) (r : R2) : Prop :=
  ∀ (value slice : Expr) (pins : List (Addr × Obj)) (s : Shared) (σ : St) (H : Hp) (x y : V) (v u : Value) (Q : VK), Inv X pins σ H s → RelV x v → RelV y u → r x y H Q →
    subscripted slice false v u = operate [v, u] (getItem v u) → wpAny (model X.prog X.w) X.A (subscriptTail value slice v u) (EP X pins σ Q) X.xe s
def MtR (X : Cx) (id : String) (r : V → List V → Hp → VK → Prop) : Prop :=
  ∀ (pins : List (Addr × Obj)) (s : Shared) (σ : St) (H : Hp) (x : V) (xs : List V) (v : Value) (us : List Value) (Q : VK), Inv X pins σ H s → RelV x v → Vals xs us → r x xs H Q →
    wpAny (model X.prog X.w) X.A (call (.builtin id) (v :: us)) (EP X pins σ Q) X.xe s
section
variable {X : Cx} {a b : Expr} {ta tb : TE} {pos : Pos}
theorem pe_ix {r : R2} (hr : IxR X r) (ha : PE X a ta) (hb : PE X b tb) (hs : PlainIx b) : PE X (.Subscript a b pos) (tOp r ta tb) := by
  intro pins s σ H Q I h
  exact Subscript_ (binT ha hb I h fun v u s2 x y H2 I2 rx ry q => hr a b pins s2 σ H2 x y v u Q I2 rx ry q (hs _ _))
def rIxL (K : PySem.W.Frag) : R2 := fun x y H Q => ∃ p xs i v, x = .ref p ∧ y = .int i ∧ SqL K H p xs ∧ atI xs i = some v ∧ Q v H
def rIxT (K : PySem.W.Frag) : R2 := fun x y H Q => ∃ p xs i v, x = .ref p ∧ y = .int i ∧ SqT K H p xs ∧ atI xs i = some v ∧ Q v H
def rIxS : R2 := fun x y H Q => ∃ z i c, x = .str z ∧ y = .int i ∧ z.length ≤ sizeLine ∧ atI z.cps.toList i = some c ∧ Q (.str ⟨#[c]⟩) H
theorem ix_list : IxR X (rIxL X.K) := by
  intro value slice pins s σ H x y v u Q I rx ry h hs
  obtain ⟨p, xs, i, z, rfl, rfl, hq, he, q⟩ := h
  cases rx
  obtain ⟨t, rfl⟩ := ry
  obtain ⟨its, r, pl, hz⟩ := I.list hq
  obtain ⟨j, h1, h2, h3, h4, h5⟩ := atI_get he
  obtain ⟨w, ew, rw'⟩ := r.get h2
  have hl := r.length
  have hn := line63
  have fin : EP X pins σ Q w s := ⟨z, H, I, rw', q⟩
  by_cases h0 : 0 ≤ i
  · have hj : i.toNat = j := by
      rw [seqIndex_of h0 h5] at h1
      exact Option.some.inj h1
    exact item_listR pl.isList h0 (by omega) (by rw [hj]; simpa using ew) fin hs
  · have hj : (i + (its.toArray.size : Int)).toNat = j := by
      rw [seqIndex_neg (by omega) h4] at h1
      rw [List.size_toArray, ← hl]
      exact Option.some.inj h1
    exact subscriptTail_builtinR (x := w) pl.isList.typeIs slot_list_getitem.lookup
      (wpAny_getItem_list_neg (Q := fun r s' => r = w ∧ EP X pins σ Q r s') pl.isList (by omega) (by rw [List.size_toArray] <;> omega) (by omega) (by rw [hj]; simpa using ew) ⟨rfl, fin⟩) hs
theorem ix_tup : IxR X (rIxT X.K) := by
  intro value slice pins s σ H x y v u Q I rx ry h hs
  obtain ⟨p, xs, i, z, rfl, rfl, hq, he, q⟩ := h
  cases rx
  obtain ⟨t, rfl⟩ := ry
  obtain ⟨its, r, pl, hz⟩ := I.tuple hq
  obtain ⟨j, h1, h2, h3, h4, h5⟩ := atI_get he
  obtain ⟨w, ew, rw'⟩ := r.get h2
  have hl := r.length
  have hn := line63
  have fin : EP X pins σ Q w s := ⟨z, H, I, rw', q⟩
  exact subscriptTail_builtinR (x := w) pl.typeIs slot_tuple_getitem.lookup
    (getItem_tuple (j := j) (Q := fun r s' => r = w ∧ EP X pins σ Q r s') pl (by omega) (by omega) (by rw [List.size_toArray, ← hl]; exact h1) (by simpa using ew) ⟨rfl, fin⟩) hs
def rIx (K : PySem.W.Frag) : R2 := fun x y H Q => rIxL K x y H Q ∨ rIxT K x y H Q ∨ rIxS x y H Q
theorem mapSeq_set (its : List Value) (n j : Nat) (u : Value) : Obj.mapSeq (·.setIfInBounds j u) { cls := .type "list", data := .seq its.toArray n } = { cls := .type "list", data := .seq (its.set j u).toArray n } := by
  simp [Obj.mapSeq]
theorem Inv.lst {pins : List (Addr × Obj)} {σ : St} {H : Hp} {s : Shared} {p : Addr} {xs : List V} (I : Inv X pins σ H s) (h : H p = some (.lst xs)) :
    ∃ (its : List Value) (n : Nat), Vals xs its ∧ s.heap.get? p = some { cls := .type "list", data := .seq its.toArray n } ∧ xs.length ≤ sizeLine := by
  obtain ⟨z, its, n, r, e⟩ := I.hok p _ h
  exact ⟨its, n, r, e, z⟩
theorem Inv.lstUpd {pins : List (Addr × Obj)} {σ : St} {H : Hp} {s : Shared} {p : Addr} {xs ys : List V} {its its' : List Value} {n n' : Nat} {f : Obj → Obj} (I : Inv X pins σ H s) (h : H p = some (.lst xs))
    (ho : s.heap.get? p = some { cls := .type "list", data := .seq its.toArray n }) (hf : f { cls := .type "list", data := .seq its.toArray n } = { cls := .type "list", data := .seq its'.toArray n' }) (r : Vals ys its') (hz : ys.length ≤ sizeLine) (t : Nat) :
    Inv X pins σ (upd H p (.lst ys)) { s with heap := s.heap.update p f, toks := t } := by
  have e : (s.heap.update p f).get? p = some { cls := .type "list", data := .seq its'.toArray n' } := by
    rw [Heap.get?_update_self f ho (by rw [hf] <;> rfl), hf]
  refine I.write (x := p) (e := p) (by rw [h]; trivial) (.inl rfl) (fun b u hb q => (Heap.get?_update_other _ _ (Ne.symm hb)).trans q) ⟨_, e⟩ ?_
  exact ⟨hz, its', n', r, e⟩
def rSetL : V → V → V → Hp → (Hp → Prop) → Prop := fun o i v H Q => ∃ p xs k j, o = .ref p ∧ i = .int k ∧ H p = some (.lst xs) ∧ ixN xs.length k = some j ∧ Q (upd H p (.lst (xs.set j v)))
theorem set_list : PSet X rSetL := by
  intro pins s σ H o i v ov iv u Q I ro ri rv h
  obtain ⟨p, xs, k, j, rfl, rfl, hp, hj, q⟩ := h
  cases ro
  obtain ⟨t, rfl⟩ := ri
  obtain ⟨its, n, r, ho, hz⟩ := I.lst hp
  obtain ⟨h1, h2, h3, h4⟩ := ixN_seq hj
  have hl := r.length
  have hn := line63
  have I' : Inv X pins σ (upd H p (.lst (xs.set j v))) { s with heap := s.heap.update p (Obj.mapSeq (·.setIfInBounds j u)) } :=
    I.lstUpd hp ho (mapSeq_set its n j u) (r.set rv j) (by rw [List.length_set]; exact hz) s.toks
  by_cases h0 : 0 ≤ k
  · have hk : k.toNat = j := by
      rw [seqIndex_of h0 h4] at h1
      exact Option.some.inj h1
    exact PySem.W.ki_setAt ho h0 (by omega) (by rw [List.size_toArray, ← hl]; exact h4) (by rw [hk]; exact ⟨_, I', q⟩)
  · have hk : (k + (its.toArray.size : Int)).toNat = j := by
      rw [seqIndex_neg (by omega) h3] at h1
      rw [List.size_toArray, ← hl]
      exact Option.some.inj h1
    exact PySem.W.ki_setBack ho (by omega) (by rw [List.size_toArray, ← hl]; exact h3) (by omega) (by rw [hk]; exact ⟨_, I', q⟩)
theorem slice_bounds (lo hi : Option Int) (n : Nat) : (sliceBounds lo hi none n).1 = ((HT.sIx n 0 lo : Nat) : Int) ∧ (sliceBounds lo hi none n).2.1 = ((HT.sIx n n hi : Nat) : Int) ∧ (sliceBounds lo hi none n).2.2 = 1 := by
  refine ⟨?_, ?_, rfl⟩
  · cases lo with
    | none => simp [sliceBounds, HT.sIx]
    | some i =>
      simp only [sliceBounds, HT.sIx, Option.getD_none, show (1 : Int) > 0 by decide, if_true]
      by_cases h : i < 0
      · simp only [h, if_true] <;> omega
      · simp only [h, if_false] <;> omega
  · cases hi with
    | none => simp [sliceBounds, HT.sIx]
    | some i =>
      simp only [sliceBounds, HT.sIx, Option.getD_none, show (1 : Int) > 0 by decide, if_true]
      by_cases h : i < 0
      · simp only [h, if_true] <;> omega
      · simp only [h, if_false] <;> omega
theorem slicePick_cut (its : List Value) (lo hi : Option Int) : slicePick its.toArray lo hi none = ((its.drop (HT.sIx its.length 0 lo)).take (HT.sIx its.length its.length hi - HT.sIx its.length 0 lo)).toArray := by
  obtain ⟨h1, h2, h3⟩ := slice_bounds lo hi its.toArray.size
  unfold slicePick
  rw [h1, h2, h3]
  simp only [sliceRange_one, pick_run, List.size_toArray] <;> rfl
def rSlL (K : PySem.W.Frag) : V → Option Int → Option Int → Hp → VK → Prop := fun x lo hi H Q => ∃ a xs, x = .ref a ∧ SqL K H a xs ∧ ∀ p, H p = none → Q (.ref p) (upd H p (.lst (cutV xs lo hi)))
theorem sl_list : SlR X (rSlL X.K) := by
  intro pins s σ H x v vl vu lo hi sl Q I rx hs pl pu h
  obtain ⟨a, xs, rfl, hx, q⟩ := h
  cases rx
  obtain ⟨its, r, ht, hz⟩ := I.list hx
  have hlen := r.length
  refine ⟨"list", _, slot_list_getitem.lookup, ht.isList.typeIs, ?_⟩
  refine wpAny_getItem_list_slice ht.isList hs pl pu .none (by simp) ?_ (by rw [List.size_toArray] <;> omega)
  rw [slicePick_cut, ← hlen]
  refine ⟨.ref s.heap.objs.size, _, I.laid (t' := s.toks) (o := .lst (cutV xs lo hi)) (fun b ob q => Heap.get?_push_of_some _ q) (Nat.le_refl _) ?_, rfl, q _ (I.hok.fresh (Nat.le_refl _))⟩
  exact ⟨Nat.le_trans (cutV_length xs lo hi) hz, _, 0, (r.drop (HT.sIx xs.length 0 lo)).take (HT.sIx xs.length xs.length hi - HT.sIx xs.length 0 lo), Heap.get?_push_size _ rfl⟩
def flatV : V → Bool
  | .non => true
  | .bl _ => true
  | .int _ => true
  | .str _ => true
  | _ => false
def eqV : V → V → Bool
  | .non, .non => true
  | .bl a, .bl b => a == b
  | .bl a, .int b => (if a then 1 else 0) == b
  | .int a, .bl b => a == (if b then 1 else 0)
  | .int a, .int b => a == b
  | .str a, .str b => a == b
  | _, _ => false
def eqU (x : V) (u : Value) : Bool := match u with
  | .none => eqV .non x
  | .bool b => eqV (.bl b) x
  | .int i _ => eqV (.int i) x
  | .str z _ => eqV (.str z) x
  | _ => false
def inV (x : V) (xs : List V) : Bool := xs.any fun y => eqV y x
def rIn (K : PySem.W.Frag) (neg : Bool) : R2 := fun x y H Q => ∃ p xs, y = .ref p ∧ (SqL K H p xs ∨ SqT K H p xs) ∧ flatV x = true ∧ xs.all flatV = true ∧ Q (.bl (if neg then !inV x xs else inV x xs)) H
theorem call_list_of : CallR X (.type "list") (fun xs H Q => ∃ p ys, xs = [.ref p] ∧ (SqL X.K H p ys ∨ SqT X.K H p ys) ∧ ∀ l, H l = none → Q (.ref l) (upd H l (.lst ys))) := by
  intro pins s σ H xs us Q I r h
  obtain ⟨p, ys, rfl, hq, q⟩ := h
  obtain ⟨u, rfl, rx⟩ := vals1 r
  cases rx
  have fin : ∀ (its : List Value), Vals ys its → ys.length ≤ sizeLine → ∀ (h' : Heap) (c' : Nat), (∀ b o', s.heap.get? b = some o' → h'.get? b = some o') →
      h'.get? s.heap.objs.size = some { cls := .type "list", dict := none, data := .seq its.toArray c', slots := #[] } → EP X pins σ Q (.ref s.heap.objs.size) { s with heap := h' } := fun its r' hz h' c' kp e =>
    ⟨.ref s.heap.objs.size, _, I.laid (t' := s.toks) kp (Nat.le_refl _) (show ObjOk X.prog X.w _ h' _ (.lst ys) from ⟨hz, its, c', r', e⟩), rfl, q _ (I.hok.fresh (Nat.le_refl _))⟩
  rcases hq with hq | hq
  · obtain ⟨its, r', pl, hz⟩ := I.list hq
    have hlen := r'.length
    obtain ⟨o, ho, hc, n, hd⟩ := pl.isList
    exact call_list_seq p (.inl rfl) ho hc hd (fun h' c' kp e => fin its r' hz h' c' kp e) (by simp only [List.size_toArray] <;> omega)
  · obtain ⟨its, r', pl, hz⟩ := I.tuple hq
    have hlen := r'.length
    obtain ⟨o, ho, hc, n, hd⟩ := pl
    exact call_list_seq p (.inr rfl) ho hc hd (fun h' c' kp e => fin its r' hz h' c' kp e) (by simp only [List.size_toArray] <;> omega)
def tyV (K : PySem.W.Frag) (T : String) (x : V) (H : Hp) : Prop := match x with
  | .str _ => T = "str"
  | .int _ => T = "int"
  | .ref p => (T = "list" ∧ ∃ xs, SqL K H p xs) ∨ (T = "tuple" ∧ ∃ o, K.lookup p = some o ∧ o.cls = .type "tuple" ∧ o.dict = none) ∨
      (T = "dict" ∧ ((∃ kvs, H p = some (.dK kvs)) ∨ ∃ kvs, H p = some (.dT kvs))) ∨ (T = "set" ∧ ∃ S n, H p = some (.set S n))
  | _ => False
theorem tyV_is {pins : List (Addr × Obj)} {σ : St} {H : Hp} {s : Shared} {T : String} {x : V} {v : Value} (I : Inv X pins σ H s) (r : RelV x v) (ty : tyV X.K T x H) :
    s.TypeIs v T ∧ ∀ a, v = .ref a → ∃ ob, s.heap.get? a = some ob ∧ ob.dict = none := by
  cases x with
  | str z =>
    obtain ⟨t, rfl⟩ := r
    cases (show T = "str" from ty)
    exact ⟨typeIs_str s z t, fun _ e => nomatch e⟩
  | int i =>
    obtain ⟨t, rfl⟩ := r
    cases (show T = "int" from ty)
    exact ⟨typeIs_int s i t, fun _ e => nomatch e⟩
  | ref p =>
    cases r
    rcases ty with ⟨rfl, xs, hq⟩ | ⟨rfl, o, hk, hc, hd⟩ | ⟨rfl, hk⟩ | ⟨rfl, S, n, hk⟩
    · obtain ⟨its, _, pl, _⟩ := I.list hq
      refine ⟨pl.isList.typeIs, fun a e => ?_⟩
      cases e
      obtain ⟨o, n, e, c, hd, _⟩ := pl
      exact ⟨o, e, hd⟩
    · refine ⟨⟨o, I.kIn p o hk, hc⟩, fun a e => ?_⟩
      cases e
      exact ⟨o, I.kIn _ o hk, hd⟩
    · have z : ∃ o, s.heap.get? p = some o ∧ o.ExactDict := by
        rcases hk with ⟨kvs, hk⟩ | ⟨kvs, hk⟩
        · obtain ⟨_, _, _, _, o, _, _, e, ex, _⟩ := I.hok p _ hk
          exact ⟨o, e, ex⟩
        · obtain ⟨_, _, _, _, o, _, _, e, ex, _⟩ := I.hok p _ hk
          exact ⟨o, e, ex⟩
      obtain ⟨o, e, ex⟩ := z
      refine ⟨⟨o, e, ex.1⟩, fun a e2 => ?_⟩
      cases e2
      exact ⟨o, e, ex.2.1⟩
    · obtain ⟨o, _, _, _, e, ex, _⟩ := I.hok p _ hk
      refine ⟨⟨o, e, ex.1⟩, fun a e2 => ?_⟩
      cases e2
      exact ⟨o, e, ex.2.1⟩
  | _ => exact False.elim ty
def tBM0 (K : PySem.W.Frag) (T : String) (r : V → List V → Hp → VK → Prop) (to : TE) : TE := fun σ H Q => to σ H fun x H1 => tyV K T x H1 ∧ r x [] H1 Q
def tBM (K : PySem.W.Frag) (T : String) (r : V → List V → Hp → VK → Prop) (to : TE) (t : TA) : TE := fun σ H Q => to σ H fun x H1 => tyV K T x H1 ∧ t σ H1 fun xs H2 => r x xs H2 Q
variable {o e : Expr} {es : List Expr} {to : TE} {t : TA} {name : Str} {apos cpos : Pos} {T id : String} {r : V → List V → Hp → VK → Prop}
theorem pe_bm (pa : PlainAttrs T) (slot : Slot T name id) (hty : typeOf (.builtin id) = pure (.type "method_descriptor")) (hm : MtR X id r) (ho : PE X o to) (ha : PA X (e :: es) t)
    (hbase : attributeBase o name X.env (eval o X.env) = eval o X.env := by rfl)
    (hfew : ((backTo cpos (starEach (e :: es) X.env)).all (fun x => !x.1) && (backToKw cpos (keywordEach [] X.env)).all (fun x => x.1.isSome)
      && decide ((e :: es).length + ([] : List Keyword).length + (if ([] : List Keyword).isEmpty then 0 else 1) < 30)) = true := by rfl)
    (hline : (apos.endLine == cpos.line) = true := by rfl) (hs : starEach (e :: es) X.env = (false, eval e X.env) :: starEach es X.env := by rfl) (hplain : (backTo cpos (starEach es X.env)).any (·.1) = false := by rfl) :
    PE X (.Call (.Attribute o name apos) (e :: es) [] cpos) (tBM X.K T r to t) := by
  intro pins s σ H Q I h
  refine wpAny_Call_method_late hbase hfew hline rfl (thn (ho pins s σ H _ I h) fun v s1 ⟨x, H1, I1, r1, ty, q1⟩ => ?_)
  obtain ⟨h1, h2⟩ := tyV_is I1 r1 ty
  refine ⟨T, id, pa, slot, hty, h1, h2, ?_⟩
  have hA := ha cpos pins s1 σ H1 _ I1 q1
  rw [hs] at hA ⊢
  refine Calls.callWith_builtin (by show (false || (backTo cpos (starEach es X.env)).any (·.1)) = false; rw [hplain] <;> rfl) (Calls.evalArgs_plain ?_)
  exact thn hA fun us s2 ⟨vs, H2, I2, r2, q2⟩ => hm pins s2 σ H2 x vs v us Q I2 r1 r2 q2
/- xs.append(e), list.index on a module's tuple .. are MtR facts of 06m -/
end
end L2
namespace L2
open PySem PySem.Spec PyProof.Rows
def MtM (X : Cx) (id : String) (r : V → List V → Hp → VK → Prop) : Prop :=
  ∀ (pins : List (Addr × Obj)) (s : Shared) (σ : St) (H : Hp) (x : V) (xs : List V) (v : Value) (us : List Value) (Q : VK), Inv X pins σ H s → RelV x v → Vals xs us → r x xs H Q →
    wpAny (model X.prog X.w) X.A (call (.builtin id) (v :: us)) (EP X pins σ Q) X.xe s
theorem Vals.one : ∀ {x : V} {us : List Value}, Vals [x] us → ∃ u, us = [u] ∧ RelV x u
  | _, _, .cons r .nil => ⟨_, rfl, r⟩
theorem Vals.two : ∀ {x y : V} {us : List Value}, Vals [x, y] us → ∃ u v, us = [u, v] ∧ RelV x u ∧ RelV y v
  | _, _, _, .cons r (.cons q .nil) => ⟨_, _, rfl, r, q⟩
theorem Vals.zero : ∀ {us : List Value}, Vals [] us → us = []
  | _, .nil => rfl
theorem Vals.dropLast {xs : List V} {us : List Value} (h : Vals xs us) : Vals xs.dropLast us.dropLast := by
  induction h with
  | nil => exact .nil
  | cons r t ih =>
    cases t with
    | nil => exact .nil
    | cons q t' => exact .cons r ih
theorem Vals.eraseIdx : ∀ {xs : List V} {us : List Value} (i : Nat), Vals xs us → Vals (xs.eraseIdx i) (us.eraseIdx i)
  | _, _, _, .nil => .nil
  | _, _, 0, .cons _ t => t
  | _, _, i + 1, .cons r t => .cons r (Vals.eraseIdx i t)
theorem Vals.reverse {xs : List V} {us : List Value} (h : Vals xs us) : Vals xs.reverse us.reverse := by
  induction h with
  | nil => exact .nil
  | cons r t ih => rw [List.reverse_cons, List.reverse_cons]; exact Vals.append ih (.cons r .nil)
theorem Vals.rep {xs : List V} {us : List Value} (h : Vals xs us) : ∀ k : Nat, Vals (List.replicate k xs).flatten (List.replicate k us).flatten
  | 0 => .nil
  | k + 1 => by
    rw [List.replicate_succ, List.replicate_succ, List.flatten_cons, List.flatten_cons]
    exact Vals.append h (Vals.rep h k)
theorem foldl_rep (its : List Value) : ∀ (k : Nat) (acc : List Value),
    List.foldl (fun x1 x2 => x1 ++ x2) acc.toArray (List.replicate k its.toArray) = (acc ++ (List.replicate k its).flatten).toArray
  | 0, acc => by simp
  | k + 1, acc => by
    have e : acc.toArray ++ its.toArray = (acc ++ its).toArray := by simp
    have e2 : (acc ++ its) ++ (List.replicate k its).flatten = acc ++ (List.replicate (k + 1) its).flatten := by
      rw [List.replicate_succ, List.flatten_cons, List.append_assoc]
    rw [← e2, ← foldl_rep its k (acc ++ its), ← e, List.replicate_succ, List.foldl_cons]
section
variable {X : Cx} {pins : List (Addr × Obj)} {σ : St} {H : Hp} {s : Shared} {l b : Addr} {xs ys zs : List V}
theorem Inv.lset {its its' : List Value} {n : Nat} {f : Array Value → Array Value} {t' : Nat} (I : Inv X pins σ H s) (hH : H l = some (.lst xs))
    (e : s.heap.get? l = some { cls := .type "list", data := .seq its.toArray n }) (hf : f its.toArray = its'.toArray) (hv : Vals ys its') (hz : ys.length ≤ sizeLine) :
    Inv X pins σ (upd H l (.lst ys)) { s with heap := s.heap.update l (Obj.mapSeq f), toks := t' } := by
  have q := PySem.IsL.update e f
  rw [hf] at q
  refine I.write (x := l) (e := l) (by rw [hH]; exact trivial) (.inl rfl) (fun b' u hb hu => (Heap.get?_update_other s.heap (Obj.mapSeq f) (Ne.symm hb)).trans hu) ⟨_, q⟩ ?_
  exact ⟨hz, its', _, hv, q⟩
theorem Inv.lnew {its : List Value} {t' : Nat} (I : Inv X pins σ H s) (hv : Vals ys its) (hz : ys.length ≤ sizeLine) :
    Inv X pins σ (upd H s.heap.objs.size (.lst ys)) { s with heap := s.heap.push { cls := .type "list", data := .seq its.toArray }, toks := t' } :=
  I.laid (fun _ _ q => Heap.get?_push_of_some _ q) (Nat.le_refl _) ⟨hz, its, 0, hv, Heap.get?_push_size _ rfl⟩
theorem Inv.fresh (I : Inv X pins σ H s) : H s.heap.objs.size = none := I.hok.fresh (Nat.le_refl _)
theorem Inv.lstM (I : Inv X pins σ H s) (hH : H l = some (.lst xs)) : xs.length ≤ sizeLine ∧ ∃ (its : List Value) (n : Nat), Vals xs its ∧ xs.length = its.length ∧ s.heap.get? l = some { cls := .type "list", data := .seq its.toArray n } := by
  obtain ⟨z, its, n, r, e⟩ := I.hok l _ hH
  exact ⟨z, its, n, r, r.length, e⟩
theorem notLongL {n : Nat} (h : n ≤ sizeLine) : Builtin.List.listTooLong n = false := by
  unfold Builtin.List.listTooLong
  exact decide_eq_false (by omega)
end
section
variable {X : Cx}
def rAppend : V → List V → Hp → VK → Prop := fun x vs H Q => ∃ l xs y, x = .ref l ∧ vs = [y] ∧ H l = some (.lst xs) ∧ xs.length < sizeLine ∧ Q .non (upd H l (.lst (xs ++ [y])))
theorem mt_append : MtM X "list.append" rAppend := by
  intro pins s σ H x vs v us Q I rx rv h
  obtain ⟨l, xs, y, rfl, rfl, hH, hz, q⟩ := h
  cases rx
  obtain ⟨u, rfl, ru⟩ := rv.one
  obtain ⟨z, its, n, r, hl, e⟩ := I.lstM hH
  refine call_meets F.slot_list_append ⟨_, e, rfl⟩ F.entry_list_append (F.args_list_append_2 _ _) (PySem.list_append l its.toArray n u (by rw [List.size_toArray]; omega)) ⟨e, ?_⟩
  refine ⟨.non, _, I.lset (its' := its ++ [u]) hH e (by simp) (r.append (.cons ru .nil)) ?_, rfl, q⟩
  rw [List.length_append, List.length_singleton]
  omega
def rExtend : V → List V → Hp → VK → Prop := fun x vs H Q => ∃ l b xs zs, x = .ref l ∧ vs = [.ref b] ∧ H l = some (.lst xs) ∧ H b = some (.lst zs) ∧ xs.length + zs.length ≤ sizeLine ∧ Q .non (upd H l (.lst (xs ++ zs)))
theorem mt_extend : MtM X "list.extend" rExtend := by
  intro pins s σ H x vs v us Q I rx rv h
  obtain ⟨l, b, xs, zs, rfl, rfl, hH, hB, hz, q⟩ := h
  cases rx
  obtain ⟨u, rfl, ru⟩ := rv.one
  cases ru
  obtain ⟨z, its, n, r, hl, e⟩ := I.lstM hH
  obtain ⟨z2, its2, n2, r2, hl2, e2⟩ := I.lstM hB
  have hsz : its.toArray.size + its2.toArray.size ≤ sizeLine := by rw [List.size_toArray, List.size_toArray]; omega
  have hlong : ¬ (!its.toArray.isEmpty && Builtin.List.listTooLong (its.toArray.size + its2.toArray.size)) = true := by
    rw [notLongL hsz, Bool.and_false]
    exact Bool.false_ne_true
  refine call_meets F.slot_list_extend ⟨_, e, rfl⟩ F.entry_list_extend (F.args_list_extend_2 _ _)
    (AutoSeq1.list_extend_list_list_0 l its.toArray n b its2.toArray n2 hlong (by rw [List.size_toArray]; omega) (by omega)) ⟨e, e2, ?_⟩
  refine ⟨.non, _, I.lset (its' := its ++ its2) hH e (by simp) (r.append r2) ?_, rfl, q⟩
  rw [List.length_append]
  omega
def rPop : V → List V → Hp → VK → Prop := fun x vs H Q => ∃ l xs y, x = .ref l ∧ vs = [] ∧ H l = some (.lst xs) ∧ xs[xs.length - 1]? = some y ∧ Q y (upd H l (.lst xs.dropLast))
def rPopAt : V → List V → Hp → VK → Prop := fun x vs H Q => ∃ l xs i k y, x = .ref l ∧ vs = [.int i] ∧ H l = some (.lst xs) ∧ -(2 ^ 63) ≤ i ∧ i < 2 ^ 63 ∧ seqIndex? i xs.length = some k ∧ xs[k]? = some y ∧ Q y (upd H l (.lst (xs.eraseIdx k)))
def rReverse : V → List V → Hp → VK → Prop := fun x vs H Q => ∃ l xs, x = .ref l ∧ vs = [] ∧ H l = some (.lst xs) ∧ Q .non (upd H l (.lst xs.reverse))
def rClear : V → List V → Hp → VK → Prop := fun x vs H Q => ∃ l xs, x = .ref l ∧ vs = [] ∧ H l = some (.lst xs) ∧ Q .non (upd H l (.lst []))
def rCat : R2 := fun x y H Q => ∃ l b xs zs, x = .ref l ∧ y = .ref b ∧ H l = some (.lst xs) ∧ H b = some (.lst zs) ∧ xs.length + zs.length ≤ sizeLine ∧ ∀ p, H p = none → Q (.ref p) (upd H p (.lst (xs ++ zs)))
theorem op_cat : OpR X (binaryOp .Add) rCat := by
  intro pins s σ H x y v u Q I rx ry h
  obtain ⟨l, b, xs, zs, rfl, rfl, hH, hB, hz, q⟩ := h
  cases rx
  cases ry
  obtain ⟨z, its, n, r, hl, e⟩ := I.lstM hH
  obtain ⟨z2, its2, n2, r2, hl2, e2⟩ := I.lstM hB
  refine PySem.P.add_list e e2 ?_ (by rw [List.size_toArray, List.size_toArray]; omega)
  have ea : its.toArray ++ its2.toArray = (its ++ its2).toArray := by simp
  rw [ea]
  exact ⟨.ref _, _, I.lnew (t' := s.toks) (r.append r2) (by rw [List.length_append]; omega), rfl, q _ I.fresh⟩
def rRep : R2 := fun x y H Q => ∃ l k xs, x = .ref l ∧ y = .int k ∧ H l = some (.lst xs) ∧ -(2 ^ 63) ≤ k ∧ k < 2 ^ 63 ∧ xs.length * k.toNat ≤ sizeLine ∧
  ∀ p, H p = none → Q (.ref p) (upd H p (.lst (List.replicate k.toNat xs).flatten))
theorem len_rep {α : Type} (xs : List α) (k : Nat) : (List.replicate k xs).flatten.length = k * xs.length := by
  induction k with
  | zero => simp
  | succ k ih => rw [List.replicate_succ, List.flatten_cons, List.length_append, ih, Nat.succ_mul, Nat.add_comm]
theorem op_rep : OpR X (binaryOp .Mult) rRep := by
  intro pins s σ H x y v u Q I rx ry h
  obtain ⟨l, k, xs, rfl, rfl, hH, h1, h2, hz, q⟩ := h
  cases rx
  obtain ⟨t, rfl⟩ := ry
  obtain ⟨z, its, n, r, hl, e⟩ := I.lstM hH
  have hlen : its.toArray.size * k.toNat ≤ sizeLine := by rw [List.size_toArray, ← hl]; exact hz
  have hcap : ¬ its.toArray.size * k.toNat > (2 ^ 63 - 1) / 8 := by
    have : (sizeLine : Nat) ≤ (2 ^ 63 - 1) / 8 := by decide
    omega
  have hfit : ¬ (!Builtin.List.listFitsIndex k) = true := by
    rw [fitsIndex_both h1 h2]
    exact Bool.false_ne_true
  have hlong : ¬ Builtin.List.listTooLong (its.toArray.size * k.toNat) = true := by
    rw [notLongL hlen]
    exact Bool.false_ne_true
  have hnew : List.foldl (fun x1 x2 => x1 ++ x2) #[] (List.replicate (if its.toArray.isEmpty = true then 0 else k.toNat) its.toArray) = (List.replicate k.toNat its).flatten.toArray := by
    have f0 : ∀ m : Nat, List.foldl (fun x1 x2 => x1 ++ x2) #[] (List.replicate m its.toArray) = (List.replicate m its).flatten.toArray := fun m => by
      have := foldl_rep its m []
      rw [List.nil_append] at this
      exact this
    rw [f0]
    cases its with
    | nil => simp
    | cons a r' => rw [if_neg (by simp)]
  refine wpAny_binaryOp_repeat_ref (T := "list") (U := "int") (by decide) ⟨_, e, rfl⟩ (fun s' => typeIs_int s' k t) noFill_list_mul F.fills_int_mul F.slot_int_rmul repeat_list F.slot_int_index.lookup
    (call_meets F.slot_int_rmul (typeIs_int s k t) F.entry_int_rmul (F.args_int_rmul_2 _ _) (int___rmul___int_list k t l its.toArray n)
      ⟨e, rfl, ⟨_, e, rfl⟩, call_meets F.slot_list_mul ⟨_, e, rfl⟩ F.entry_list_mul (F.args_list_mul_2 _ _) (AutoListH.list___mul___list_int_3 l its.toArray n k t hfit hcap hlong) ⟨e, ?_⟩⟩)
  rw [hnew]
  exact ⟨.ref _, _, I.lnew (t' := s.toks) (r.rep k.toNat) (by rw [len_rep, Nat.mul_comm]; exact hz), rfl, q _ I.fresh⟩
end
section
variable {prog : Program} {w : World} {A : Around} {E : Value → Shared → Prop} {s : Shared}
end
section
variable {X : Cx}
end
end L2
namespace L2
open PySem PySem.Spec PyProof.Rows
section
variable {κ : Type} [DecidableEq κ]
def valV (kvs : List (κ × V)) (k : κ) : Option V := (kvs.find? fun kv => decide (kv.1 = k)).map (·.2)
def putK (kvs : List (κ × V)) (k : κ) (v : V) : List (κ × V) :=
  if (kvs.any fun kv => decide (kv.1 = k)) = true then kvs.map (fun kv => if kv.1 = k then (kv.1, v) else kv) else kvs ++ [(k, v)]
def dropK (kvs : List (κ × V)) (k : κ) : List (κ × V) := kvs.filter fun kv => decide (kv.1 ≠ k)
theorem valV_pos {p : κ × V} {r : List (κ × V)} {k : κ} (e : p.1 = k) : valV (p :: r) k = some p.2 := by simp [valV, List.find?_cons, e]
theorem valV_neg {p : κ × V} {r : List (κ × V)} {k : κ} (e : ¬ p.1 = k) : valV (p :: r) k = valV r k := by simp [valV, List.find?_cons, e]
theorem valV_any (k : κ) : ∀ kvs : List (κ × V), (kvs.any fun kv => decide (kv.1 = k)) = (valV kvs k).isSome
  | [] => rfl
  | p :: r => by
    rw [List.any_cons]
    by_cases e : p.1 = k
    · simp only [valV_pos e, decide_eq_true e, Bool.true_or, Option.isSome_some]
    · rw [valV_neg e, decide_eq_false e, Bool.false_or]; exact valV_any k r
theorem RelO.isSome_eq {o : Option V} {u : Option Value} (r : RelO o u) : o.isSome = u.isSome := by
  cases o with
  | none => cases u with
    | none => rfl
    | some _ => exact (show False from r).elim
  | some _ => cases u with
    | none => exact (show False from r).elim
    | some _ => rfl
theorem RelO.getD {o : Option V} {u : Option Value} {d : V} {d' : Value} (r : RelO o u) (rd : RelV d d') : RelV (o.getD d) (u.getD d') := by
  cases o with
  | none => cases u with
    | none => exact rd
    | some _ => exact (show False from r).elim
  | some _ => cases u with
    | none => exact (show False from r).elim
    | some _ => exact r
theorem KV.val {kvs : List (κ × V)} {vs : List (κ × Value)} (r : KV kvs vs) (k : κ) : RelO (valV kvs k) (valueAt vs k) := by
  unfold KV at r
  induction r with
  | nil => exact True.intro
  | @cons p q ps qs h t ih =>
    obtain ⟨h1, h2⟩ := h
    by_cases e : p.1 = k
    · have e' : q.1 = k := h1.symm.trans e
      have b : valueAt (q :: qs) k = some q.2 := by simp [valueAt, List.find?_cons, e']
      rw [valV_pos e, b]; exact h2
    · have e' : ¬ q.1 = k := fun z => e (h1.trans z)
      have b : valueAt (q :: qs) k = valueAt qs k := by simp [valueAt, List.find?_cons, e']
      rw [valV_neg e, b]; exact ih
theorem KV.any {kvs : List (κ × V)} {vs : List (κ × Value)} (r : KV kvs vs) (k : κ) : (kvs.any fun kv => decide (kv.1 = k)) = vs.any fun kv => decide (kv.1 = k) := by
  unfold KV at r
  induction r with
  | nil => rfl
  | cons h t ih => rw [List.any_cons, List.any_cons, ih, h.1]
theorem KV.repl {kvs : List (κ × V)} {vs : List (κ × Value)} (r : KV kvs vs) (k : κ) {y : V} {u : Value} (ry : RelV y u) :
    KV (kvs.map fun kv => if kv.1 = k then (kv.1, y) else kv) (vs.map fun kv => if kv.1 = k then (kv.1, u) else kv) := by
  unfold KV at r ⊢
  induction r with
  | nil => exact .nil
  | @cons p q ps qs h t ih =>
    rw [List.map_cons, List.map_cons]
    refine .cons ?_ ih
    obtain ⟨h1, h2⟩ := h
    by_cases e : p.1 = k
    · rw [if_pos e, if_pos (h1.symm.trans e)]; exact ⟨h1, ry⟩
    · rw [if_neg e, if_neg (fun z => e (h1.trans z))]; exact ⟨h1, h2⟩
theorem KV.put {kvs : List (κ × V)} {vs : List (κ × Value)} (r : KV kvs vs) (k : κ) {y : V} {u : Value} (ry : RelV y u) : KV (putK kvs k y) (stored vs k u) := by
  unfold putK stored
  rw [r.any k]
  by_cases e : (vs.any fun kv => decide (kv.1 = k)) = true
  · rw [if_pos e, if_pos e]; exact r.repl k ry
  · rw [if_neg e, if_neg e]; exact Paired.snoc r ⟨rfl, ry⟩
theorem KV.drop {kvs : List (κ × V)} {vs : List (κ × Value)} (r : KV kvs vs) (k : κ) : KV (dropK kvs k) (without vs k) := by
  unfold KV at r ⊢
  unfold dropK without
  induction r with
  | nil => exact .nil
  | @cons p q ps qs h t ih =>
    obtain ⟨h1, h2⟩ := h
    rw [List.filter_cons, List.filter_cons]
    by_cases e : p.1 = k
    · have a : ¬ decide (p.1 ≠ k) = true := by simp [e]
      have b : ¬ decide (q.1 ≠ k) = true := by simp [h1.symm.trans e]
      rw [if_neg a, if_neg b]; exact ih
    · have e' : ¬ q.1 = k := fun z => e (h1.trans z)
      have a : decide (p.1 ≠ k) = true := by simp [e]
      have b : decide (q.1 ≠ k) = true := by simp [e']
      rw [if_pos a, if_pos b]; exact .cons ⟨h1, h2⟩ ih
theorem KV.keys {kvs : List (κ × V)} {vs : List (κ × Value)} (r : KV kvs vs) : kvs.map (·.1) = vs.map (·.1) := by
  unfold KV at r
  induction r with
  | nil => rfl
  | cons h t ih => rw [List.map_cons, List.map_cons, ih, h.1]
theorem KV.length {kvs : List (κ × V)} {vs : List (κ × Value)} (r : KV kvs vs) : kvs.length = vs.length := Paired.length r
end
abbrev KT (H : Hp) : List (List Key × V) → List (List Key × Addr × Value) → Prop := Paired fun p q => p.1 = q.1 ∧ H q.2.1 = some (.tup (p.1.map kV)) ∧ RelV p.2 q.2.2
theorem KT.val {H : Hp} {kvs : List (List Key × V)} {xs : List (List Key × Addr × Value)} (r : KT H kvs xs) (k : List Key) : RelO (valV kvs k) ((atKey xs k).map (·.2)) := by
  induction r with
  | nil => exact True.intro
  | @cons p q ps qs h t ih =>
    obtain ⟨h1, _, h2⟩ := h
    by_cases e : p.1 = k
    · have e' : q.1 = k := h1.symm.trans e
      have b : atKey (q :: qs) k = some q.2 := by simp [atKey, List.find?_cons, e']
      rw [valV_pos e, b]; exact h2
    · have e' : ¬ q.1 = k := fun z => e (h1.trans z)
      have b : atKey (q :: qs) k = atKey qs k := by simp [atKey, List.find?_cons, e']
      rw [valV_neg e, b]; exact ih
theorem KT.repl {H : Hp} {kvs : List (List Key × V)} {xs : List (List Key × Addr × Value)} (r : KT H kvs xs) (k : List Key) {y : V} {u : Value} (ry : RelV y u) :
    KT H (kvs.map fun kv => if kv.1 = k then (kv.1, y) else kv) (xs.map (putAt k u)) := by
  induction r with
  | nil => exact .nil
  | @cons p q ps qs h t ih =>
    rw [List.map_cons, List.map_cons]
    refine .cons ?_ ih
    obtain ⟨h1, h2, h3⟩ := h
    unfold putAt
    by_cases e : p.1 = k
    · rw [if_pos e, if_pos (h1.symm.trans e)]; exact ⟨h1, h2, ry⟩
    · rw [if_neg e, if_neg (fun z => e (h1.trans z))]; exact ⟨h1, h2, h3⟩
theorem KT.put {H : Hp} {kvs : List (List Key × V)} {xs : List (List Key × Addr × Value)} (r : KT H kvs xs) (k : List Key) {b : Addr} {y : V} {u : Value} (hb : H b = some (.tup (k.map kV))) (ry : RelV y u) :
    KT H (putK kvs k y) (storedH xs k b u) := by
  have e : (kvs.any fun kv => decide (kv.1 = k)) = (atKey xs k).isSome := by
    rw [valV_any, (r.val k).isSome_eq, Option.isSome_map]
  unfold putK storedH
  rw [e]
  by_cases q : (atKey xs k).isSome = true
  · rw [if_pos q, if_pos q]; exact r.repl k ry
  · rw [if_neg q, if_neg q]; exact Paired.snoc r ⟨rfl, hb, ry⟩
theorem KT.keeps {H H' : Hp} {kvs : List (List Key × V)} {xs : List (List Key × Addr × Value)} (r : KT H kvs xs) (ht : ∀ b ys, H b = some (.tup ys) → H' b = some (.tup ys)) : KT H' kvs xs :=
  Paired.mapP r fun _ _ z => ⟨z.1, ht _ _ z.2.1, z.2.2⟩
section
variable {P : Program} {w : World} {H : Hp} {h : Heap} {a : Addr}
end
def DGet (H : Hp) (a : Addr) (y : V) (r : Option V) : Prop :=
  (∃ kvs k, Rd H a (.dK kvs) ∧ y = kV k ∧ r = valV kvs k) ∨ ∃ kvs k b, Rd H a (.dT kvs) ∧ y = .ref b ∧ H b = some (.tup (k.map kV)) ∧ r = valV kvs k
def DPut (H : Hp) (a : Addr) (y v : V) (H' : Hp) : Prop :=
  (∃ kvs k, H a = some (.dK kvs) ∧ y = kV k ∧ kvs.length < sizeLine ∧ H' = upd H a (.dK (putK kvs k v))) ∨
  ∃ kvs k b, H a = some (.dT kvs) ∧ y = .ref b ∧ H b = some (.tup (k.map kV)) ∧ kvs.length < sizeLine ∧ H' = upd H a (.dT (putK kvs k v))
theorem DGet.k {H : Hp} {a : Addr} {kvs : List (Key × V)} {k : Key} (e : H a = some (.dK kvs)) : DGet H a (kV k) (valV kvs k) := .inl ⟨kvs, k, .inl e, rfl, rfl⟩
theorem DGet.t {H : Hp} {a b : Addr} {kvs : List (List Key × V)} {k : List Key} (e : H a = some (.dT kvs)) (eb : H b = some (.tup (k.map kV))) : DGet H a (.ref b) (valV kvs k) := .inr ⟨kvs, k, b, .inl e, rfl, eb, rfl⟩
theorem DPut.k {H : Hp} {a : Addr} {kvs : List (Key × V)} {k : Key} {v : V} (e : H a = some (.dK kvs)) (hl : kvs.length < sizeLine) : DPut H a (kV k) v (upd H a (.dK (putK kvs k v))) := .inl ⟨kvs, k, e, rfl, hl, rfl⟩
theorem DPut.t {H : Hp} {a b : Addr} {kvs : List (List Key × V)} {k : List Key} {v : V} (e : H a = some (.dT kvs)) (eb : H b = some (.tup (k.map kV))) (hl : kvs.length < sizeLine) :
    DPut H a (.ref b) v (upd H a (.dT (putK kvs k v))) := .inr ⟨kvs, k, b, e, rfl, eb, hl, rfl⟩
section
variable {X : Cx} {pins : List (Addr × Obj)} {σ : St} {H : Hp} {s : Shared} {a : Addr} {y v : V} {u r : Value} {o : Option V} {A : Around} {E : Value → Shared → Prop}
theorem Inv.big (I : Inv X pins σ H s) : sysModules < s.heap.objs.size := by
  have h : mainGlobals < s.heap.objs.size := (I.mod.glob.keeps I.bk).lt
  exact Nat.lt_trans (by decide) h
end
section
variable {X : Cx} {pins : List (Addr × Obj)} {σ : St} {H : Hp} {s : Shared} {a : Addr} {kvs : List (Key × V)} {k : Key} {u : Value} {A : Around} {E : Value → Shared → Prop}
end
def NoSl (i : Expr) : Prop := ∀ ov iv, subscripted i false ov iv = operate [ov, iv] (getItem ov iv)
def tDGet (td ty : TE) : TE := fun σ H Q => td σ H fun x H1 => ty σ H1 fun y H2 => ∃ a v, x = .ref a ∧ DGet H2 a y (some v) ∧ Q v H2
def tDIn (ty td : TE) : TE := fun σ H Q => ty σ H fun y H1 => td σ H1 fun x H2 => ∃ a o, x = .ref a ∧ DGet H2 a y o ∧ Q (.bl o.isSome) H2
def tDNotIn (ty td : TE) : TE := fun σ H Q => ty σ H fun y H1 => td σ H1 fun x H2 => ∃ a o, x = .ref a ∧ DGet H2 a y o ∧ Q (.bl (!o.isSome)) H2
def sDPut (td ty tv : TE) : TS := fun D σ H => tv σ H fun v H1 => td σ H1 fun x H2 => ty σ H2 fun y H3 => ∃ a H4, x = .ref a ∧ DPut H3 a y v H4 ∧ D.nx σ H4
def sDAug (td ty tv : TE) (rd : V → V → Hp → VK → Prop) : TS := fun D σ H => td σ H fun x H1 => ty σ H1 fun y H2 => ∃ a v, x = .ref a ∧ DGet H2 a y (some v) ∧
  tv σ H2 fun y2 H3 => rd v y2 H3 fun z H4 => ∃ H5, DPut H4 a y z H5 ∧ D.nx σ H5
def sDDel (td ty : TE) : TS := fun D σ H => td σ H fun x H1 => ty σ H1 fun y H2 => ∃ a kvs k, x = .ref a ∧ H2 a = some (.dK kvs) ∧ y = kV k ∧ (valV kvs k).isSome = true ∧ D.nx σ (upd H2 a (.dK (dropK kvs k)))
section
variable {X : Cx} {o i e value : Expr} {pos pos' tpos : Pos} {td ty tv : TE}
end
def tDNewK : TE := fun _ H Q => ∀ p, H p = none → Q (.ref p) (upd H p (.dK []))
def tDNewT : TE := fun _ H Q => ∀ p, H p = none → Q (.ref p) (upd H p (.dT []))
section
variable {X : Cx} {pos : Pos}
end
def tPairs : List (TE × TE) → St → Hp → (List (V × V) → Hp → Prop) → Prop
  | [], _, H, Q => Q [] H
  | (tk, tv) :: r, σ, H, Q => tk σ H fun x H1 => tv σ H1 fun y H2 => tPairs r σ H2 fun ps H3 => Q ((x, y) :: ps) H3
abbrev VV : List (V × V) → List (Value × Value) → Prop := Paired fun p q => RelV p.1 q.1 ∧ RelV p.2 q.2
def PPs (X : Cx) (pos : Pos) (keys : List (Option Expr)) (values : List Expr) (trs : List (TE × TE)) : Prop :=
  ∀ (pins : List (Addr × Obj)) (s : Shared) (σ : St) (H : Hp) (Q : List (V × V) → Hp → Prop), Inv X pins σ H s → tPairs trs σ H Q →
    wpAny (model X.prog X.w) X.A (evalPairs (pairTrees keys values X.env pos)) (fun vs s' => ∃ ps H', Inv X pins σ H' s' ∧ VV ps vs ∧ Q ps H') X.xe s
def mergeK (kvs more : List (Key × V)) : List (Key × V) := more.foldl (fun acc kv => putK acc kv.1 kv.2) kvs
def tDisp (trs : List (TE × TE)) : TE := fun σ H Q => ∀ p, H p = none → tPairs trs σ (upd H p (.dK [])) fun ps H2 => H2 p = some (.dK []) ∧ ∃ kvs : List (Key × V), ps = kvs.map (fun kv => (kV kv.1, kv.2)) ∧ kvs.length ≤ 15 ∧ Q (.ref p) (upd H2 p (.dK (mergeK [] kvs)))
structure M1 (X : Cx) (o : Expr) (m : Str) (apos : Pos) (e : Expr) (cpos : Pos) : Prop where
  base : attributeBase o m X.env (eval o X.env) = eval o X.env
  few : ((backTo cpos (starEach [e] X.env)).all (fun x => !x.1) && (backToKw cpos (keywordEach [] X.env)).all (fun x => x.1.isSome)
    && decide (([e] : List Expr).length + ([] : List Keyword).length + (if ([] : List Keyword).isEmpty then 0 else 1) < 30)) = true
  line : (apos.endLine == cpos.line) = true
  trees : backTo cpos (starEach [e] X.env) = [(false, eval e X.env)]
structure M2 (X : Cx) (o : Expr) (m : Str) (apos : Pos) (e f : Expr) (cpos : Pos) : Prop where
  base : attributeBase o m X.env (eval o X.env) = eval o X.env
  few : ((backTo cpos (starEach [e, f] X.env)).all (fun x => !x.1) && (backToKw cpos (keywordEach [] X.env)).all (fun x => x.1.isSome)
    && decide (([e, f] : List Expr).length + ([] : List Keyword).length + (if ([] : List Keyword).isEmpty then 0 else 1) < 30)) = true
  line : (apos.endLine == cpos.line) = true
  trees : backTo cpos (starEach [e, f] X.env) = [(false, eval e X.env), (false, eval f X.env)]
def IsD (H : Hp) (a : Addr) : Prop := (∃ kvs, Rd H a (.dK kvs)) ∨ ∃ kvs, Rd H a (.dT kvs)
section
variable {X : Cx} {pins : List (Addr × Obj)} {σ : St} {H : Hp} {s : Shared} {a : Addr} {y d : V} {u r : Value} {o : Option V} {A : Around} {E : Value → Shared → Prop}
end
def tDGet1 (td ty : TE) : TE := fun σ H Q => td σ H fun x H1 => ∃ a, x = .ref a ∧ IsD H1 a ∧ ty σ H1 fun y H2 => ∃ o, DGet H2 a y o ∧ Q (o.getD .non) H2
def tDGet2 (td ty tx : TE) : TE := fun σ H Q => td σ H fun x H1 => ∃ a, x = .ref a ∧ IsD H1 a ∧ ty σ H1 fun y H2 => tx σ H2 fun z H3 => ∃ o, DGet H3 a y o ∧ Q (o.getD z) H3
def tDPop1 (td ty : TE) : TE := fun σ H Q => td σ H fun x H1 => ∃ a, x = .ref a ∧ IsD H1 a ∧ ty σ H1 fun y H2 => ∃ kvs k v, H2 a = some (.dK kvs) ∧ y = kV k ∧ valV kvs k = some v ∧ Q v (upd H2 a (.dK (dropK kvs k)))
def tDPop2 (td ty tx : TE) : TE := fun σ H Q => td σ H fun x H1 => ∃ a, x = .ref a ∧ IsD H1 a ∧ ty σ H1 fun y H2 => tx σ H2 fun z H3 => ∃ kvs k, H3 a = some (.dK kvs) ∧ y = kV k ∧
  (∀ v, valV kvs k = some v → Q v (upd H3 a (.dK (dropK kvs k)))) ∧ (valV kvs k = none → Q z H3)
section
variable {X : Cx} {o e f : Expr} {apos cpos : Pos} {td ty tx : TE}
end
section
variable {X : Cx} {pins : List (Addr × Obj)} {σ : St} {H : Hp} {s : Shared} {a : Addr} {kvs : List (Key × V)} {A : Around} {E : Value → Shared → Prop}
end
section
variable {X : Cx} {pins : List (Addr × Obj)} {σ : St} {H : Hp} {s : Shared} {a : Addr} {y : V} {u : Value} {A : Around} {E : Value → Shared → Prop}
end
end L2
namespace Att
open PySem PySem.W PySem.Calls PyProof.Rows
theorem ints_of_wellAll {P : Params} {h : Heap} : ∀ (ns : List Int) (vs : List Value), WellAll P h vs (ns.map WData.int) → IntsAre vs ns := by
  intro ns
  induction ns with
  | nil =>
    intro vs w
    rw [List.map_nil] at w
    cases w
    exact .nil
  | cons n ns ih =>
    intro vs w
    rw [List.map_cons] at w
    cases w with
    | cons a b =>
      cases a
      exact .cons _ _ (ih _ b)
theorem script_of {l : OpenLaw} {n : Nat} (hn : l.most = some n) {P : Params} {h : Heap} {args : List WData} {vals : List Value}
    (hpre : l.row.toRowW.claim.pre args = true) (hwl : WellAll P h vals args) :
    ∃ a vs ns, vals = [Value.ref a] ∧ args = [WData.list (ns.map WData.int)] ∧ h.get? a = some { cls := .type "list", data := .seq vs.toArray } ∧ IntsAre vs ns ∧ ns.length ≤ n := by
  have hsh : WShape.hasAll [] args [.list .int] = true := (pre_splitW hpre).1
  have hc : l.pre.holds [] { args := args } = true := (pre_splitW hpre).2
  obtain ⟨d, r, rfl, h1, h2⟩ := hasAllW_cons hsh
  obtain rfl := hasAllW_nil h2
  obtain ⟨xs, rfl, h3⟩ := hasW_list h1
  obtain ⟨ns, rfl⟩ := items_int h3
  have hlen : ns.length ≤ n := by
    unfold OpenLaw.pre at hc
    have h4 : (WTm.not (.lt (.lit (.int (n : Int))) (.len (.arg 0)))).holds [] { args := [.list (ns.map .int)] } = true := by
      have h4 := (holds_andW hc).1
      rw [hn] at h4
      exact h4
    have h5 := condW_of h4 (w_not (w_lt w_lit (w_len_list (w_arg rfl))))
    rw [List.length_map] at h5
    refine Nat.le_of_not_lt fun q => ?_
    have q' : (n : Int) < ((ns.length : Nat) : Int) := by omega
    first
      | (rw [decide_eq_true q'] at h5; exact absurd h5 (by decide))
      | (simp at h5; omega)
  cases hwl with
  | cons w1 w2 =>
    cases w2
    cases w1 with
    | list ho hall => exact ⟨_, _, ns, rfl, rfl, ho, ints_of_wellAll ns _ hall, hlen⟩
theorem post_true (l : OpenLaw) (args : List WData) : l.row.toRowW.claim.post args (.bool true) args = true :=
  postW_of (r := l.row.toRowW) (X := (true == true))
    (show WShape.has [] (.bool true) .bool = true by first | rfl | decide | simp [WShape.has, WShape.arms, WShape.armsAll])
    (show (WTm.eq .res (.lit (.bool true))).value [] { args := args, res := some (.bool true), after := args } = some (.bool (true == true)) from w_eq_bool (w_res rfl) w_lit) rfl
theorem attach_call {l : OpenLaw} {n : Nat} {q : Program} {loose : List Str} {XP : (Str → Option Value) → Heap → Prop} {YP : World → Heap → Prop} {d : DefRec}
    (hn : l.most = some n) (hdf : d.params.defaults = [])
    (call : ∀ (w : World) (s₀ s₁ : Shared) (mg mb : Str → Option Value) (fa : Addr) (o : Obj) (pm cd doc : Value) (a : Addr) (vs : List Value) (ns : List Int),
      Ground q loose [] XP w s₀ mg mb s₁.heap → YP w s₁.heap →
      s₁.heap.get? fa = some o → o.data = .func (docDef d.name d.params d.body d.scope pm cd doc) → s₁.heap.CodeRec cd d.name → mg d.name = some (.ref fa) →
      s₁.heap.get? a = some { cls := .type "list", data := .seq vs.toArray } → IntsAre vs ns → ns.length ≤ n → s₁.gens = #[] →
      codeAny (model l.prog w) callerA (.call (.ref fa) ⟨[.ref a], []⟩) (fun r s' => r = .ok (.ret (.bool true)) ∧ OldK s₁.heap s'.heap ∧ s'.os = s₁.os ∧ AllBare s'.gens) s₁) :
    WalkO q loose XP YP l.row.toRowW d [] (fun f vs => PySem.call f vs) := by
  intro w s₀ s₁ mg mb G Y fa o pm cd doc dV kV ho hd hcd hD hmg hg args vals as hpre hlay hrd hwl hlo
  obtain rfl : dV = .none := Dflts.none hD hdf
  obtain rfl : kV = .none := Dflts.noKw hD
  obtain ⟨a, vs, ns, rfl, rfl, hobj, hints, hlen⟩ := script_of hn hpre hwl
  refine enter_call (codeAny_mono (call w s₀ s₁ mg mb fa o pm cd doc a vs ns G Y ho (fd_plain hd) hcd hmg hobj hints hlen hg) fun r s' hq => ?_)
  obtain ⟨rfl, h2, h3, h4⟩ := hq
  exact ⟨.inl ⟨.bool true, .bool true, [], rfl, fun _ => rfl, .bool true, post_true l _, fun _ => ⟨List.Pairwise.nil, fun _ hm => (nomatch hm)⟩⟩, h2, h3, h4⟩
section
variable {prog : Program} {w : World} {A : Around} {E : Value → Shared → Prop} {s : Shared} {K : Frag}
def noObjs (h : Heap) : Heap := { h with objs := #[] }
def ledger (h : Heap) (L d : Addr) : List (Addr × Obj) := (List.range h.objs.size).filterMap fun a => if a = L ∨ a = d then none else (h.get? a).map fun o => (a, o)
end
end Att
namespace L2
open PySem PySem.Spec PyProof.Rows
theorem vals_ints : ∀ {vs : List Value} {ns : List Int}, IntsAre vs ns → Vals (ns.map V.int) vs
  | _, _, .nil => .nil
  | _, _, .cons n t h => .cons ⟨t, rfl⟩ (vals_ints h)
def Only (H : Hp) : Prop := ∀ b, H b = none ∨ ∃ o xs, H b = some (.frz o (.lst xs))
theorem law_call {P : Program} {w : World} {K : PySem.W.Frag} {mg mb : Str → Option Value} {CX : CXT} {k : Nat} {fa a : Addr} {fd : FuncData} {x : Str} {sp : Sp} {s₁ : Shared} {vs : List Value} {ns : List Int}
    (KX : K.In s₁.heap) (hns : s₁.heap.Ns mainGlobals mg) (hb : s₁.heap.Ns builtinsNs mb) (hbb : ∀ x : Str, x ≠ "__name__" → mb x = bootBuiltins x) (hlim : s₁.heap.NoLimit) (hg : s₁.gens = #[])
    (ha : s₁.heap.get? a = some { cls := .type "list", data := .seq vs.toArray }) (hi : IntsAre vs ns) (hl : ns.length ≤ sizeLine) (hr : Room k callerA)
    (F : ∀ base : Heap, K.In base → base.Ns mainGlobals mg → FnOk P w K mg base CX k fa fd [x] sp) (hbind : ∀ (s : Shared) (u : Value), BindsTo s fd ⟨[u], []⟩ [(x, u)])
    (hsp : ∀ H : Hp, Only H → SqL K H a (ns.map V.int) → sp [.ref a] H (fun v _ => v = .bl true) fun _ _ _ => False)
    (hCX : ∀ H e s', CX [] H s₁ (fun _ _ _ => False) e s' → False) :
    codeAny (model P w) callerA (.call (.ref fa) ⟨[.ref a], []⟩) (fun r s' => r = .ok (.ret (.bool true)) ∧ OldK s₁.heap s'.heap ∧ s'.os = s₁.os ∧ AllBare s'.gens) s₁ := by
  have rv := vals_ints hi
  have lenV := hi.length
  -- from an abstract heap in which nothing but the script may be tracked
  have core : ∀ H : Hp, Only H → SqL K H a (ns.map V.int) → HOk P w H s₁.heap → (∀ b, H b ≠ none → b = a) → (H a ≠ none → K.lookup a = none) →
      codeAny (model P w) callerA (.call (.ref fa) ⟨[.ref a], []⟩) (fun r s' => r = .ok (.ret (.bool true)) ∧ OldK s₁.heap s'.heap ∧ s'.os = s₁.os ∧ AllBare s'.gens) s₁ := by
    intro H hO hS hok hA hK
    have base_of : ∀ {b : Addr} {o : Obj}, s₁.heap.get? b = some o → H b = none → (hidT s₁.heap H).get? b = some o := fun e n => hidT_get e n
    have noA : ∀ {b : Addr} {o : Obj} {es : Array DictEntry} {ep : Nat}, s₁.heap.get? b = some o → o.data = .dict es ep → H b = none := fun {b o es ep} e d => by
      cases q : H b with
      | none => rfl
      | some u =>
        have e' : b = a := hA b (by rw [q]; simp)
        subst e'
        rw [ha] at e; cases e
        have d' : Data.seq vs.toArray _ = Data.dict es ep := d
        cases d'
    have nsK : ∀ {b : Addr} {m : Str → Option Value}, s₁.heap.Ns b m → (hidT s₁.heap H).Ns b m := fun {b m} ⟨o, es, ep, e, d, r⟩ => ⟨o, es, ep, base_of e (noA e d), d, r⟩
    have hKb : K.In (hidT s₁.heap H) := fun b o e => base_of (KX b o e) (by
      cases q : H b with
      | none => rfl
      | some u =>
        have e' : b = a := hA b (by rw [q]; simp)
        subst e'
        rw [hK (by rw [q]; simp)] at e; cases e)
    have hM : Mod K mg (hidT s₁.heap H) := ⟨hKb, nsK hns, ⟨mb, nsK hb, hbb⟩, let ⟨mc, h1, h2⟩ := hlim; ⟨mc, nsK h1, h2⟩⟩
    have e0 : Env0 P w K mg (hidT s₁.heap H) callerA [] s₁ H := ⟨rfl, hM, fun b o e => of_hidT e, Nat.le_of_eq (hidT_size _ _), trivial, fun b hb => absurd (show b ∈ ([] : List Addr) from hb) (by simp), hok, .of_eq hg⟩
    refine codeAny_mono ((F _ hKb (nsK hns)).run callerA [] s₁ H ⟨[.ref a], []⟩ [.ref a] [.ref a] _ _ hr e0 (hbind s₁ (.ref a)) (.cons rfl .nil) (hsp H hO hS)) fun r s' h => ?_
    cases r with
    | error e => exact (hCX H e s' h).elim
    | ok fl =>
      cases fl with
      | next => exact False.elim h
      | brk => exact False.elim h
      | cont => exact False.elim h
      | ret u =>
        obtain ⟨v, H', os, bare, un, hok', r', q⟩ := h
        have q' : v = .bl true := q
        subst q'
        obtain rfl : u = Value.bool true := r'
        refine ⟨rfl, OldK.of_keep fun b o e => ?_, os, bare⟩
        cases q : H b with
        | none => exact un.keep b o e q (by intro z; exact absurd (show b ∈ ([] : List Addr) from z) (by simp)) (by simp)
        | some u =>
          rcases hO b with z | ⟨ob, xs, z⟩
          · rw [q] at z; cases z
          · have z2 := un.frzs b ob _ z
            obtain ⟨e1, _⟩ := hok b _ z
            obtain ⟨e2, _⟩ := hok' b _ z2
            rw [e] at e1; cases e1
            exact e2
  cases hk : K.lookup a with
  | some o =>
    -- the script is one of the module's own objects
    have e := KX a o hk
    rw [ha] at e
    cases e
    refine core (fun _ => none) (fun _ => .inl rfl) (.inr ⟨_, vs.toArray, _, hk, rfl, rfl, rfl, by rw [List.size_toArray, lenV]; exact hl, by simpa using rv⟩) (fun b u z => by have z' : (none : Option HO) = some u := z; cases z') (fun b z => absurd rfl z) fun z => absurd rfl z
  | none =>
    refine core (fun b => if b = a then some (.frz { cls := .type "list", data := .seq vs.toArray } (.lst (ns.map V.int))) else none) (fun b => ?_) (.inl (.inr ⟨{ cls := .type "list", data := .seq vs.toArray }, if_pos rfl⟩)) (fun b u z => ?_) (fun b z => ?_) fun _ => hk
    · by_cases hb : b = a
      · exact .inr ⟨_, _, if_pos hb⟩
      · exact .inl (if_neg hb)
    · by_cases hb : b = a
      · have z' := (if_pos hb).symm.trans z
        cases z'
        subst hb
        exact ⟨ha, by rw [List.length_map]; exact hl, vs, _, rv, ha⟩
      · have z' := (if_neg hb).symm.trans z
        cases z'
    · by_cases hb : b = a
      · exact hb
      · exact absurd (if_neg hb) z
end L2
namespace L2
open PySem PySem.Spec PyProof.Rows
abbrev KOf {K : PySem.W.Frag} {h : Heap} (_ : K.In h) : PySem.W.Frag := K
theorem walk_of {l : PySem.W.OpenLaw} {n k : Nat} {q : Program} {loose : List Str} {XP : (Str → Option Value) → Heap → Prop} {YP : World → Heap → Prop} {d : DefRec} {K : Params → PySem.W.Frag} {CX : World → CXT} {sp : World → Sp} {x : Str}
    (hn : l.most = some n) (hn2 : n ≤ sizeLine) (hdf : d.params.defaults = []) (hr : Room k callerA)
    (hY : ∀ (w : World) (h : Heap), YP w h → (K w.params).In h)
    (F : ∀ (w : World) (mg : Str → Option Value) (fa : Addr) (h : Heap), (K w.params).In h → h.Ns mainGlobals mg → mg d.name = some (.ref fa) →
      ∃ fd : FuncData, (∀ (s : Shared) (u : Value), BindsTo s fd ⟨[u], []⟩ [(x, u)]) ∧
        ∀ base : Heap, (K w.params).In base → base.Ns mainGlobals mg → FnOk l.prog w (K w.params) mg base (CX w) k fa fd [x] (sp w))
    (hsp : ∀ (w : World) (H : Hp) (a : Addr) (ns : List Int), ns.length ≤ n → Only H → SqL (K w.params) H a (ns.map V.int) → sp w [.ref a] H (fun v _ => v = .bl true) fun _ _ _ => False)
    (hCX : ∀ (w : World) (H : Hp) (s : Shared) (e : Value) (s' : Shared), CX w [] H s (fun _ _ _ => False) e s' → False) :
    PySem.W.WalkO q loose XP YP l.row.toRowW d [] (fun f vs => PySem.call f vs) := by
  refine Att.attach_call hn hdf fun w s₀ s₁ mg mb fa o pm cd doc a vs ns G Y ho hd hcd hmg hobj hints hlen hg => ?_
  have KX := hY w _ Y
  obtain ⟨fd, hb, hF⟩ := F w mg fa _ KX G.T.g hmg
  exact law_call KX G.T.g G.T.b G.T.builtins G.T.nolimit hg hobj hints (Nat.le_trans hlen hn2) hr hF hb (fun H hO hS => hsp w H a ns hlen hO hS) fun H e s' => hCX w H s₁ e s'
end L2
namespace L2
open PySem PySem.Spec PyProof.Rows
def inClass (s : Stmt) (j : Nat) : Stmt := match s with
  | .ClassDef _ _ _ body _ _ _ _ _ _ _ => body.getD j (.Pass ⟨0, 0, 0, 0⟩)
  | _ => .Pass ⟨0, 0, 0, 0⟩
def defArgs (s : Stmt) : Arguments := match s with
  | .FunctionDef _ a _ _ _ _ _ _ _ _ => a
  | _ => { posonlyargs := [], args := [], vararg := none, kwonlyargs := [], kw_defaults := [], kwarg := none, defaults := [] }
def defBody (s : Stmt) : List Stmt := match s with
  | .FunctionDef _ _ b _ _ _ _ _ _ _ => b
  | _ => []
def defScope (s : Stmt) : Scope := match s with
  | .FunctionDef _ _ _ _ _ _ sc _ _ _ => sc
  | _ => { kind := .function, names := [], isGenerator := false, isCoroutine := false }
abbrev CX0 : CXT := fun _ _ _ _ _ _ => False
abbrev E0 : XK := fun _ _ _ => False
structure Fun (K : PySem.W.Frag) (x qual : Str) (st : Stmt) (f : Addr) (fd : FuncData) : Prop where
  ex : ∃ (oc : Value) (od : Option Addr) (kV doc pm : Value) (an : Option Addr) (cdv ct : Value) (osl : Array (Option Value)),
    fd = PySem.W.fnOf x qual (defArgs st) (defBody st) (defScope st) .none kV doc pm an cdv ct ∧ K.lookup f = some ⟨oc, od, .func fd, osl⟩ ∧ PySem.W.codeIn K cdv qual = true
  kp : PySem.W.keepIn K (.ref f) = true
section
variable {P : Program} {w : World} {K : PySem.W.Frag} {mg : Str → Option Value} {base : Heap}
theorem Fun.ok {x qual : Str} {st : Stmt} {f : Addr} {fd : FuncData} {N ps : List Str} {k : Nat} {sp : Sp} (F : Fun K x qual st f fd) (S : FnScope N ps (defScope st)) (len : ∀ vs H Q E, sp vs H Q E → vs.length = ps.length)
    (hbody : ∀ (cdv : Value) (A : Around) (outer : List Env) (s : Shared) (H : Hp) (vs : List V) (Q : VK) (E : XK), Room k (A.deeper (envOfC qual (defScope st) s.heap.objs.size f cdv)) → sp vs H Q E →
      ∃ t, PSs (cxOf CX0 P w K mg base N qual (defScope st) f cdv A outer s H E).nox (defBody st) t ∧ t { nx := fun _ H' => Q .non H', rt := Q } (start N vs) H) : FnOk P w K mg base CX0 (k + 1) f fd ps sp := by
  obtain ⟨oc, od, kV, doc, pm, an, cdv, ct, osl, rfl, lk, hcd⟩ := F.ex
  refine fn_of lk hcd S len fun A outer s H vs Q E hr hsp => ?_
  obtain ⟨t, h, q⟩ := hbody cdv A outer s H vs Q E hr hsp
  exact ⟨t, h.nox, q⟩
theorem Fun.binds {x qual : Str} {st : Stmt} {f : Addr} {fd : FuncData} {ps : List Str} (F : Fun K x qual st f fd)
    (h : ∀ (kV doc pm : Value) (an : Option Addr) (cdv ct : Value) (us : List Value), us.length = ps.length → bindArgs (PySem.W.fnOf x qual (defArgs st) (defBody st) (defScope st) .none kV doc pm an cdv ct) ⟨us, []⟩ = pure (ps.zip us)) : Binds K fd ps [] := by
  obtain ⟨oc, od, kV, doc, pm, an, cdv, ct, osl, rfl, lk, hcd⟩ := F.ex
  exact .all (h kV doc pm an cdv ct)
theorem fun_mk {x qual : Str} {st : Stmt} {f : Addr} {oc : Value} {od an : Option Addr} {osl : Array (Option Value)} {kV doc pm cdv ct : Value} (l : K.lookup f = some ⟨oc, od, .func (PySem.W.fnOf x qual (defArgs st) (defBody st) (defScope st) .none kV doc pm an cdv ct), osl⟩)
    (c : PySem.W.codeIn K cdv qual = true) (k : PySem.W.keepIn K (.ref f) = true) : Fun K x qual st f (PySem.W.fnOf x qual (defArgs st) (defBody st) (defScope st) .none kV doc pm an cdv ct) := ⟨⟨oc, od, kV, doc, pm, an, cdv, ct, osl, rfl, l, c⟩, k⟩
end
section
variable {X : Cx}
theorem pv (i : Nat) {x : Str} {pos : Pos} (hN : X.N[i]? = some x := by rfl) (hv : Vis X.env.scope x := by first | exact Or.inl rfl | exact Or.inr (Or.inl rfl) | exact Or.inr (Or.inr rfl)) (hd : (x == ("__debug__" : Str)) = false := by decide)
    (hcd : (x == ("__classdict__" : Str)) = false := by decide) : PE X (.Name x pos) (tVar i) := pe_var hN hv hd hcd
end
theorem iteF {A B : Prop} (h : B) : if false = true then A else B := by
  rw [if_neg Bool.false_ne_true]
  exact h
theorem iteT {A B : Prop} (h : A) : if true = true then A else B := by
  rw [if_pos rfl]
  exact h
def Same (H H' : Hp) : Prop := ∀ b o, H b = some o → H' b = some o
theorem Same.refl (H : Hp) : Same H H := fun _ _ h => h
theorem Same.trans {H H1 H2 : Hp} (a : Same H H1) (b : Same H1 H2) : Same H H2 := fun c o h => b c o (a c o h)
theorem Same.free {H H' : Hp} (e : Same H H') {l : Addr} (h : H' l = Option.none) : H l = Option.none := by
  cases q : H l with
  | none => rfl
  | some o =>
    rw [e l o q] at h
    cases h
theorem Same.seq {K : PySem.W.Frag} {H H' : Hp} {a : Addr} {xs : List V} (e : Same H H') (h : SqL K H a xs) : SqL K H' a xs := by
  rcases h with (h | ⟨o, h⟩) | h
  · exact .inl (.inl (e _ _ h))
  · exact .inl (.inr ⟨o, e _ _ h⟩)
  · exact .inr h
section
variable {κ : Type} [DecidableEq κ]
end
end L2

section
set_option Elab.async false
set_option linter.all false
set_option maxRecDepth 100000
namespace L2
open PySem PySem.Spec PyProof.Rows
def Sz (n : Nat) (x : Int) : Prop := x.natAbs < 2 ^ n
theorem Sz.mono {m n : Nat} {x : Int} (h : Sz m x) (hmn : m ≤ n) : Sz n x := Nat.lt_of_lt_of_le h (Nat.pow_le_pow_right (by decide) hmn)
theorem Sz.le {n : Nat} {x y : Int} (h : Sz n y) (hxy : x.natAbs ≤ y.natAbs) : Sz n x := Nat.lt_of_le_of_lt hxy h
theorem Sz.mul {m n : Nat} {x y : Int} (hx : Sz m x) (hy : Sz n y) : Sz (m + n) (x * y) := by
  unfold Sz at *
  rw [Int.natAbs_mul, Nat.pow_add]
  exact Nat.mul_lt_mul'' hx hy
theorem Sz.add {n : Nat} {x y : Int} (hx : Sz n x) (hy : Sz n y) : Sz (n + 1) (x + y) := by
  unfold Sz at *
  have := Int.natAbs_add_le x y
  rw [Nat.pow_succ]; omega
theorem Sz.sub {n : Nat} {x y : Int} (hx : Sz n x) (hy : Sz n y) : Sz (n + 1) (x - y) := by
  unfold Sz at *
  have := Int.natAbs_sub_le x y
  rw [Nat.pow_succ]; omega
theorem Sz.neg {n : Nat} {x : Int} (hx : Sz n x) : Sz n (-x) := by unfold Sz at *; rw [Int.natAbs_neg]; exact hx
theorem Sz.mulOk {m n : Nat} {x y : Int} (hx : Sz m x) (hy : Sz n y) (hm : m + n ≤ 134217728 := by decide) : IntMulOk x y :=
  PySem.IntMulOk.of_le (PySem.intBits_le_iff.mpr hx) (PySem.intBits_le_iff.mpr hy) hm
section
variable {X : Cx}
theorem op_mulS : OpR X (binaryOp .Mult) (rI IntMulOk fun i j => .int (i * j)) := opI fun _ _ _ _ _ _ _ hc q => mul_int q hc
def CFd (_ j : Int) : Prop := j ≠ 0 ∧ Sz 9000 j
theorem CFd.np {i j : Int} (h : CFd i j) : Builtin.divisionGoesByPylong i j = false := by
  refine PyProof.noPylong_of_log2 ?_
  have h0 : j.natAbs ≠ 0 := fun e => h.1 (Int.natAbs_eq_zero.mp e)
  exact (Nat.log2_lt h0).mpr h.2
theorem op_fdn : OpR X (binaryOp .FloorDiv) (rI CFd fun i j => .int (i.fdiv j)) := opI fun _ _ _ _ _ _ _ hc q => floordiv_int hc.1 q (.inl hc.np)
def CFp (_ j : Int) : Prop := 0 < j ∧ Sz 9000 j
theorem op_fdp : OpR X (binaryOp .FloorDiv) (rI CFp fun i j => .int (i / j)) := opI fun i j _ _ _ _ _ hc q => by
  have h1 : (0 : Int) < j := hc.1
  exact floordiv_int (by omega) (by rw [Int.fdiv_eq_ediv_of_nonneg i (by omega)]; exact q) (.inl (CFd.np ⟨by omega, hc.2⟩))
end
structure Has (P : Program) (w : World) (K : PySem.W.Frag) (mg : Str → Option Value) (base : Heap) (CX : CXT) (x : Str) (k : Nat) (ps : List Str) (sp : Sp) : Prop where
  ex : ∃ f fd, FnOk P w K mg base CX k f fd ps sp ∧ mg x = some (.ref f) ∧ PySem.W.keepIn K (.ref f) = true ∧ Binds K fd ps []
section
variable {X : Cx} {CX : CXT} {k j : Nat} {ps : List Str} {sp : Sp} {E : XK} {x : Str} {p pos : Pos} {e : Expr} {es : List Expr} {t : TA}
theorem pe_callH (h : Has X.prog X.w X.K X.mg X.base CX x k ps sp) (hr : Room j X.A) (hx : Passes CX X E) (ha : PA X (e :: es) t) (hk : k ≤ j := by decide) (hg : Gl X x := by rfl) (hdb : (x == ("__debug__" : Str)) = false := by decide)
    (he : starEach (e :: es) X.env = (false, eval e X.env) :: starEach es X.env := by rfl) (hpl : (backTo pos (starEach es X.env)).any (·.1) = false := by rfl) :
    PE X (.Call (.Name x p) (e :: es) [] pos) (tCall sp [] E t) := by
  obtain ⟨f, fd, F, hm, hkp, hb⟩ := h.ex
  exact pe_call F (hr.mono hk) hg hm hkp hb .nil hx ha hdb he hpl
end
inductive ClsV : V → Value → Prop where
  | ty (n : String) : ClsV (.ty n) (.type n)
  | ref (a : Addr) : ClsV (.ref a) (.ref a)
def rInst (K : PySem.W.Frag) : List V → Hp → VK → Prop := fun xs H Q => ∃ x c t u b, xs = [x, c] ∧ TyOf K H x t ∧ ClsV c u ∧ PySem.W.kitOne K t u = some b ∧ Q (.bl b) H
section
variable {X : Cx} {pins : List (Addr × Obj)} {σ : St} {H : Hp} {s : Shared} {h' : Heap}
theorem Inv.turnedLay {t' : Nat} {ch : List Addr} {a : Addr} {o : HO} (I : Inv X pins σ H s) (k : ∀ b u, b ∉ ch → s.heap.get? b = some u → h'.get? b = some u) (hf : ∀ b ∈ ch, FpOk X pins H b) (hp : s.heap.objs.size ≤ a)
    (new : ObjOk X.prog X.w (upd H a o) h' a o) : Inv X pins σ (upd H a o) { s with heap := h', toks := t' } := by
  have hn := I.hok.fresh hp
  have nch : ∀ b u, H b = some u → b ∉ ch := fun b u e z => by rw [(hf b z).1] at e; cases e
  refine I.step (g' := s.gens) (d' := s.drawn) (ch := ch) (fun b hb => ?_) (fun b o _ _ hc e _ => k b o hc e) (fun b o _ _ hc e _ => ⟨o.slots, k b o hc e⟩) (fun b u _ e n => ?_) (fun b o hc e => ⟨o, k b o hc e⟩)
    (fun b xs e => by rw [upd_ne (ne_of_none e hn)]; exact e) (fun b u v e => by rw [upd_ne (ne_of_none e hn)]; exact e) (fun b ps e => ⟨#[], by rw [upd_ne (ne_of_none e hn), e]; simp⟩) (fun m hm => ?_) (fun b u e => ?_) I.bare
  · obtain ⟨f0, f1, f2, f3, f4, f5⟩ := hf b hb
    exact ⟨f3, f1, f4, f5⟩
  · rw [upd_ne (Nat.ne_of_lt (Nat.lt_of_lt_of_le (Heap.lt_size e) hp))]; exact n
  · obtain ⟨o, es, ep, ho, r⟩ := hm
    exact ⟨o, es, ep, k _ o (fun z => (hf _ z).2.1 rfl) ho, r⟩
  · by_cases hb : b = a
    · subst hb; rw [upd_same] at e; cases e; exact new
    · rw [upd_ne hb] at e
      refine (I.hok b u e).stay (fun c v hc q => k c v ?_ q) (fun c q => by rw [upd_ne (ne_of_none q hn)]; exact q) fun c xs q => by rw [upd_ne (ne_of_none q hn)]; exact q
      rcases hc with z | z
      · rw [z]; exact nch b u e
      · exact nch c _ z
theorem Inv.turnedL {t' : Nat} {ch : List Addr} (I : Inv X pins σ H s) (k : ∀ b u, b ∉ ch → s.heap.get? b = some u → h'.get? b = some u) (hf : ∀ b ∈ ch, FpOk X pins H b) : Inv X pins σ H { s with heap := h', toks := t' } := by
  have nch : ∀ b u, H b = some u → b ∉ ch := fun b u e z => by rw [(hf b z).1] at e; cases e
  refine I.step (g' := s.gens) (d' := s.drawn) (ch := ch) (fun b hb => ?_) (fun b o _ _ hc e _ => k b o hc e) (fun b o _ _ hc e _ => ⟨o.slots, k b o hc e⟩) (fun b u _ e n => n) (fun b o hc e => ⟨o, k b o hc e⟩)
    (fun b xs e => e) (fun b u v e => e) (fun b ps e => ⟨#[], by rw [e]; simp⟩) (fun m hm => ?_) (fun b u e => ?_) I.bare
  · obtain ⟨f0, f1, f2, f3, f4, f5⟩ := hf b hb
    exact ⟨f3, f1, f4, f5⟩
  · obtain ⟨o, es, ep, ho, r⟩ := hm
    exact ⟨o, es, ep, k _ o (fun z => (hf _ z).2.1 rfl) ho, r⟩
  · refine (I.hok b u e).stay (fun c v hc q => k c v ?_ q) (fun c q => q) fun c xs q => q
    rcases hc with z | z
    · rw [z]; exact nch b u e
    · exact nch c _ z
end
def Ite (K : PySem.W.Frag) (a : Addr) : It :=
  ⟨fun i H => ∃ xs x, SqL K H a xs ∧ xs[i]? = some x,
   fun i H x H' => ∃ p y, H p = none ∧ x = .ref p ∧ (∀ xs, SqL K H a xs → xs[i]? = some y) ∧ H' = upd H p (.tup [.int i, y]),
   fun i H => ∃ xs, SqL K H a xs ∧ xs.length ≤ i⟩
def iEnum (K : PySem.W.Frag) (ta : TA) : TI := fun σ H R => ta σ H fun vs H1 => ∃ a, vs = [.ref a] ∧ (∃ xs, SqL K H1 a xs) ∧ R (Ite K a) H1
section
variable {σ : St} {H : Hp} {Q : VK} {D : Ends}
theorem r_var {i : Nat} {v : V} (h : σ[i]? = some (some v)) (q : Q v H) : tVar i σ H Q := ⟨v, h, q⟩
theorem r_c {v : V} (q : Q v H) : tC v σ H Q := q
theorem r_op {r : R2} {ta tb : TE} (h : ta σ H fun x H1 => tb σ H1 fun y H2 => r x y H2 Q) : tOp r ta tb σ H Q := h
theorem r_un {r : V → Hp → VK → Prop} {ta : TE} (h : ta σ H fun x H1 => r x H1 Q) : tUn r ta σ H Q := h
theorem r_rI0 {g : Int → Int → V} {i j : Int} (q : Q (g i j) H) : rI0 g (.int i) (.int j) H Q := ⟨i, j, rfl, rfl, q⟩
theorem r_rI {C : Int → Int → Prop} {g : Int → Int → V} {i j : Int} (c : C i j) (q : Q (g i j) H) : rI C g (.int i) (.int j) H Q := ⟨i, j, rfl, rfl, c, q⟩
theorem r_rU {g : Int → V} {i : Int} (q : Q (g i) H) : rU g (.int i) H Q := ⟨i, rfl, q⟩
theorem r_eqI {i j : Int} (q : Q (.bl (decide (i = j))) H) : rEq (.int i) (.int j) H Q := ⟨rfl, by rw [dec_int, Bool.beq_eq_decide_eq]; exact q⟩
theorem r_neI {i j : Int} (q : Q (.bl (!decide (i = j))) H) : rNe (.int i) (.int j) H Q := ⟨rfl, by rw [dec_int, Bool.beq_eq_decide_eq]; exact q⟩
theorem r_seq {t u : TS} (h : t { D with nx := u D } σ H) : tSeq t u D σ H := h
theorem r_next (h : D.nx σ H) : tNext D σ H := h
theorem r_asg {te : TE} {g : TG} (h : te σ H fun x H1 => g x σ H1 D.nx) : tAsg te g D σ H := h
theorem r_gname {i : Nat} {v : V} {R : St → Hp → Prop} (h : R (σ.set i (some v)) H) : gName i v σ H R := h
theorem r_ret {te : TE} (h : te σ H D.rt) : tRet te D σ H := h
theorem r_drop {te : TE} (h : te σ H fun _ H1 => D.nx σ H1) : tDrop te D σ H := h
theorem r_ifS {c : TT} {t u : TS} (h : c σ H fun b H1 => if b = true then t D σ H1 else u D σ H1) : tIfS c t u D σ H := h
theorem r_test {t : TE} {R : Bool → Hp → Prop} (h : t σ H fun x H' => ∃ k, x = .bl k ∧ R k H') : tTest t σ H R := h
theorem r_B {t : TE} {R : Bool → Hp → Prop} (h : t σ H fun x H' => ∃ k, x = .bl k ∧ R k H') : tB t σ H R := h
theorem r_bl {k : Bool} {R : Bool → Prop} (h : R k) : ∃ k', V.bl k = .bl k' ∧ R k' := ⟨k, rfl, h⟩
theorem r_not {t : TT} {R : Bool → Hp → Prop} (h : t σ H fun c H1 => R (!c) H1) : tNot t σ H R := h
theorem r_and {t u : TT} {R : Bool → Hp → Prop} (h : t σ H fun c H1 => if c = true then u σ H1 R else R false H1) : tAnd t u σ H R := h
theorem r_or {t u : TT} {R : Bool → Hp → Prop} (h : t σ H fun c H1 => if c = true then R true H1 else u σ H1 R) : tOr t u σ H R := h
theorem r_nil {R : List V → Hp → Prop} (h : R [] H) : tNil σ H R := h
theorem r_cons {ta : TE} {tr : TA} {R : List V → Hp → Prop} (h : ta σ H fun x H1 => tr σ H1 fun xs H2 => R (x :: xs) H2) : tCons ta tr σ H R := h
theorem r_call {sp : Sp} {E : XK} {t : TA} (h : t σ H fun vs H1 => sp (vs ++ []) H1 Q E) : tCall sp [] E t σ H Q := h
theorem r_cb {r : List V → Hp → VK → Prop} {t : TA} (h : t σ H fun vs H1 => r vs H1 Q) : tCB r t σ H Q := h
theorem r_tup {t : TA} (h : t σ H fun xs H1 => xs.length ≤ sizeLine ∧ ∀ p, H1 p = none → Q (.ref p) (upd H1 p (.tup xs))) : tTup t σ H Q := h
theorem r_lst {t : TA} (h : t σ H fun xs H1 => xs.length ≤ sizeLine ∧ ∀ p, H1 p = none → Q (.ref p) (upd H1 p (.lst xs))) : tLst t σ H Q := h
theorem r_par {i j : Nat} {ta : TA} (h : ta σ H fun vs H1 => ∃ v w, vs = [v, w] ∧ D.nx ((σ.set i (some v)).set j (some w)) H1) : tPar i j ta D σ H := h
theorem r_for {wi : TI} {g : TG} {tb : TS} (h : wi σ H fun J H1 => ∃ W : Nat → Nat → St → Hp → Prop, (∃ m, W 0 m σ H1) ∧ ∀ i m σ H, W i m σ H →
  (J.stop i H ∧ D.nx σ H) ∨ (J.go i H ∧ ∃ N : St → Hp → Prop, (∀ σ' H', N σ' H' → ∃ m', m' < m ∧ W (i + 1) m' σ' H') ∧ ∀ x H', J.yld i H x H' → g x σ H' fun σ2 H2 => tb { D with nx := N, ct := N, bk := D.nx } σ2 H2)) : tFor wi g tb D σ H := h
theorem ifT {A B : Prop} (h : A) : if true = true then A else B := iteT h
theorem ifF {A B : Prop} (h : B) : if false = true then A else B := iteF h
theorem if2 {c A B : Prop} [Decidable c] (h1 : c → A) (h2 : ¬ c → B) : if decide c = true then A else B := by
  by_cases h : c
  · rw [decide_eq_true h]; exact iteT (h1 h)
  · rw [decide_eq_false h]; exact iteF (h2 h)
theorem if2n {c A B : Prop} [Decidable c] (h1 : ¬ c → A) (h2 : c → B) : if (!decide c) = true then A else B := by
  by_cases h : c
  · rw [decide_eq_true h]; exact iteF (h2 h)
  · rw [decide_eq_false h]; exact iteT (h1 h)
end
end L2
end
section
set_option Elab.async false
set_option linter.all false
set_option maxRecDepth 100000
namespace L2
open PySem PySem.Spec PyProof.Rows
theorem bt_abs : bootBuiltins "abs" = some (.builtin "abs") := by decide +kernel
theorem bt_len : bootBuiltins "len" = some (.builtin "len") := by decide +kernel
theorem bt_list : bootBuiltins "list" = some (.type "list") := by decide +kernel
structure Def (K : PySem.W.Frag) (mg : Str → Option Value) (x : Str) (st : Stmt) (ps : List Str) : Prop where
  ex : ∃ f fd, Fun K x x st f fd ∧ mg x = some (.ref f) ∧ Binds K fd ps []
section
variable {P : Program} {w : World} {K : PySem.W.Frag} {mg : Str → Option Value} {base : Heap}
theorem Def.has {x : Str} {st : Stmt} {N ps : List Str} {k : Nat} {sp : Sp} (D : Def K mg x st ps) (S : FnScope N ps (defScope st)) (len : ∀ vs H Q E, sp vs H Q E → vs.length = ps.length)
    (hbody : ∀ (f : Addr) (cdv : Value) (A : Around) (outer : List Env) (s : Shared) (H : Hp) (vs : List V) (Q : VK) (E : XK), Room k (A.deeper (envOfC x (defScope st) s.heap.objs.size f cdv)) → sp vs H Q E →
      ∃ t, PSs (cxOf CX0 P w K mg base N x (defScope st) f cdv A outer s H E).nox (defBody st) t ∧ t { nx := fun _ H' => Q .non H', rt := Q } (start N vs) H) : Has P w K mg base CX0 x (k + 1) ps sp := by
  obtain ⟨f, fd, F, hm, hb⟩ := D.ex
  exact ⟨⟨f, fd, F.ok S len fun cdv A outer s H vs Q E hr h => hbody f cdv A outer s H vs Q E hr h, hm, F.kp, hb⟩⟩
end
theorem Same.upd {H : Hp} {p : Addr} {o : HO} (h : H p = none) : Same H (upd H p o) := fun b u e => by rw [upd_ne (ne_of_none e h)]; exact e
section
variable {σ : St} {H : Hp} {Q : VK} {K : PySem.W.Frag}
theorem r_ixT {p : Addr} {xs : List V} {i : Int} {v : V} (h : SqT K H p xs) (hi : atI xs i = some v) (q : Q v H) : rIxT K (.ref p) (.int i) H Q := ⟨p, xs, i, v, rfl, rfl, h, hi, q⟩
theorem r_ixL {p : Addr} {xs : List V} {i : Int} {v : V} (h : SqL K H p xs) (hi : atI xs i = some v) (q : Q v H) : rIxL K (.ref p) (.int i) H Q := ⟨p, xs, i, v, rfl, rfl, h, hi, q⟩
theorem r_gtup {n : Nat} {t : TGs} {a : Addr} {xs : List V} {R : St → Hp → Prop} (h : SqT K H a xs) (hl : xs.length = n) (q : t xs σ H R) : gTup K n t (.ref a) σ H R := ⟨a, xs, rfl, h, hl, q⟩
theorem r_gcons {t : TG} {u : TGs} {v : V} {vs : List V} {R : St → Hp → Prop} (q : t v σ H fun σ' H' => u vs σ' H' R) : gCons t u (v :: vs) σ H R := ⟨v, vs, rfl, q⟩
theorem r_gnil {R : St → Hp → Prop} (q : R σ H) : gNil [] σ H R := ⟨rfl, q⟩
end
end L2
namespace Fr
structure Low (a b t u : Int) : Prop where
  pos : 0 < u
  co : Int.gcd t u = 1
  eq : t * b = a * u
  ta : t.natAbs ≤ a.natAbs
  ub : u.natAbs ≤ b.natAbs
theorem gcd_dvd_l (a b : Int) : ((Int.gcd a b : Nat) : Int) ∣ a := Int.gcd_dvd_left _ _
theorem gcd_dvd_r (a b : Int) : ((Int.gcd a b : Nat) : Int) ∣ b := Int.gcd_dvd_right _ _
theorem gcd_pos (a : Int) {b : Int} (hb : b ≠ 0) : 0 < Int.gcd a b := Int.gcd_pos_of_ne_zero_right _ hb
theorem low_of {a b d : Int} (hb : b ≠ 0) (hd : d = if b < 0 then -((Int.gcd a b : Nat) : Int) else ((Int.gcd a b : Nat) : Int)) : Low a b (a.fdiv d) (b.fdiv d) := by
  have g0 := gcd_pos a hb
  obtain ⟨x, hx⟩ := gcd_dvd_l a b
  obtain ⟨y, hy⟩ := gcd_dvd_r a b
  generalize hg : Int.gcd a b = g at *
  have gz : (g : Int) ≠ 0 := by omega
  have hco : Int.gcd x y = 1 := by
    have h1 : Int.gcd a b = g * Int.gcd x y := by
      rw [hx, hy, Int.gcd_mul_left]; simp
    rw [hg] at h1
    exact Nat.eq_of_mul_eq_mul_left g0 (by omega)
  have hxa : x.natAbs ≤ a.natAbs := by
    rw [hx, Int.natAbs_mul]; simp; exact Nat.le_mul_of_pos_left _ g0
  have hyb : y.natAbs ≤ b.natAbs := by
    rw [hy, Int.natAbs_mul]; simp; exact Nat.le_mul_of_pos_left _ g0
  by_cases hneg : b < 0
  · rw [if_pos hneg] at hd
    have e1 : a.fdiv d = -x := by
      rw [hd, hx]
      have : (g : Int) * x = -(g : Int) * (-x) := by rw [Int.neg_mul_neg]
      rw [this]; exact Int.mul_fdiv_cancel_left _ (by omega)
    have e2 : b.fdiv d = -y := by
      rw [hd, hy]
      have : (g : Int) * y = -(g : Int) * (-y) := by rw [Int.neg_mul_neg]
      rw [this]; exact Int.mul_fdiv_cancel_left _ (by omega)
    have ypos : y < 0 := by
      rcases Int.lt_trichotomy y 0 with h | h | h
      · exact h
      · rw [h] at hy; simp at hy; omega
      · have := Int.mul_pos (show (0 : Int) < g by omega) h; omega
    refine ⟨by rw [e2]; omega, by rw [e1, e2, Int.gcd_neg, Int.neg_gcd]; exact hco, ?_, by rw [e1, Int.natAbs_neg]; exact hxa, by rw [e2, Int.natAbs_neg]; exact hyb⟩
    rw [e1, e2]
    have h1 : x * b = a * y := by
      calc x * b = x * (g * y) := by rw [← hy]
        _ = (g * x) * y := by rw [Int.mul_left_comm, Int.mul_assoc]
        _ = a * y := by rw [← hx]
    rw [Int.neg_mul, Int.mul_neg, h1]
  · rw [if_neg hneg] at hd
    have e1 : a.fdiv d = x := by
      rw [hd, hx]; exact Int.mul_fdiv_cancel_left _ gz
    have e2 : b.fdiv d = y := by
      rw [hd, hy]; exact Int.mul_fdiv_cancel_left _ gz
    have ypos : 0 < y := by
      rcases Int.lt_trichotomy y 0 with h | h | h
      · have := Int.mul_neg_of_pos_of_neg (show (0 : Int) < g by omega) h; omega
      · rw [h] at hy; simp at hy; omega
      · exact h
    refine ⟨by rw [e2]; exact ypos, by rw [e1, e2]; exact hco, ?_, by rw [e1]; exact hxa, by rw [e2]; exact hyb⟩
    rw [e1, e2]
    calc x * b = x * (g * y) := by rw [← hy]
      _ = (g * x) * y := by rw [Int.mul_left_comm, Int.mul_assoc]
      _ = a * y := by rw [← hx]
theorem gcd_step (a b : Int) (ha : 0 ≤ a) (hb : 0 < b) : Int.gcd b (a % b) = Int.gcd a b := by
  obtain ⟨m, rfl⟩ := Int.eq_ofNat_of_zero_le ha
  obtain ⟨n, rfl⟩ := Int.eq_ofNat_of_zero_le (Int.le_of_lt hb)
  show Nat.gcd _ _ = Nat.gcd _ _
  simp only [Int.natAbs_natCast]
  rw [show ((m : Int) % (n : Int)).natAbs = m % n by rw [← Int.natCast_emod]; exact Int.natAbs_natCast _]
  rw [Nat.gcd_comm n (m % n), ← Nat.gcd_rec, Nat.gcd_comm]
theorem gcd_abs (a b : Int) : Int.gcd (if a < 0 then -a else a) (if b < 0 then -b else b) = Int.gcd a b := by
  split <;> split <;> simp [Int.gcd_neg, Int.neg_gcd]
theorem gcd_end (a : Int) (ha : 0 ≤ a) : ((Int.gcd a 0 : Nat) : Int) = a := by simp [Int.gcd]; omega
end Fr
namespace L2
open PySem PySem.Spec PyProof.Rows
theorem while_W {c : TT} {tb : TS} {D : Ends} {σ : St} {H : Hp} (Pv : St → Hp → Prop) (μ : St → Hp → Nat) (h0 : Pv σ H)
    (hs : ∀ σ H, Pv σ H → c σ H fun b H1 => if b = true then ∃ N : St → Hp → Prop, (∀ σ' H', N σ' H' → ∃ m', m' < μ σ H ∧ (m' = μ σ' H' ∧ Pv σ' H')) ∧ tb { D with nx := N, ct := N, bk := D.nx } σ H1 else D.nx σ H1) : tWhile c tb D σ H :=
  ⟨fun m σ H => m = μ σ H ∧ Pv σ H, ⟨_, rfl, h0⟩, by rintro m σ H ⟨rfl, p⟩; exact hs σ H p⟩
theorem w_turn {tb : TS} {r : VK} {bk : St → Hp → Prop} {σ : St} {H : Hp} {Pv : St → Hp → Prop} {μ : St → Hp → Nat} {m : Nat} (h : tb { nx := fun σ' H' => Pv σ' H' ∧ μ σ' H' < m, rt := r, bk := bk, ct := fun σ' H' => Pv σ' H' ∧ μ σ' H' < m } σ H) :
    ∃ N : St → Hp → Prop, (∀ σ' H', N σ' H' → ∃ m', m' < m ∧ (m' = μ σ' H' ∧ Pv σ' H')) ∧ tb { nx := N, rt := r, bk := bk, ct := N } σ H := ⟨_, fun _ _ p => ⟨_, p.2, rfl, p.1⟩, h⟩
theorem ifNT {A B : Prop} (h : B) : if (!true) = true then A else B := iteF h
theorem sl2 : 2 ≤ sizeLine := by rw [sizeLine_eq]; decide
theorem sl3 : 3 ≤ sizeLine := by rw [sizeLine_eq]; decide
end L2
namespace L2
open PySem PySem.Spec PyProof.Rows
theorem cx_K {CX : CXT} {P : Program} {w : World} {K : PySem.W.Frag} {mg : Str → Option Value} {base : Heap} {N : List Str} {q : Str} {sc : Scope} {f : Addr} {cd : Value} {A : Around} {o : List Env} {s : Shared} {H : Hp} {E : XK} : (cxOf CX P w K mg base N q sc f cd A o s H E).K = K := rfl
end L2
namespace L2
open PySem PySem.Spec PyProof.Rows
section
variable {K : PySem.W.Frag}
end
end L2
namespace L2
open PySem PySem.Spec PyProof.Rows
theorem mulL {a b : Int} (h1 : -(2 ^ 64) < a) (h2 : a < 2 ^ 64) : IntMulOk a b := .of_left (intBits_le_64 h1 h2)
theorem Sz.s64 {n : Nat} {x : Int} (h1 : -(2 ^ 64) < x) (h2 : x < 2 ^ 64) (hn : 64 ≤ n) : Sz n x := Sz.mono (m := 64) (by unfold Sz; omega) hn
theorem cfp_lit {i j : Int} (h1 : 0 < j) (h2 : j < 2 ^ 64) : CFp i j := ⟨h1, Sz.s64 (by omega) h2 (by decide)⟩
section
variable {X : Cx} {a b : Expr} {i j v : Int} {op : Operator} {pos : Pos} {C : Int → Int → Prop} {g : Int → Int → V}
theorem pe_fold (ho : OpR X (binaryOp op) (rI C g)) (ha : PE X a (tC (.int i))) (hb : PE X b (tC (.int j))) (c : C i j) (e : g i j = .int v) : PE X (.BinOp a op b pos) (tC (.int v)) :=
  fun pins s σ H Q I h => pe_op ho ha hb pins s σ H Q I ⟨i, j, rfl, rfl, c, by rw [e]; exact h⟩
end
end L2
namespace L2
open PySem PySem.Spec PyProof.Rows
end L2
end
section
set_option Elab.async false
set_option linter.all false
set_option maxRecDepth 100000
namespace L2
open PySem PySem.Spec PySem.W PySem.Calls PyProof.Rows Builtin Builtin.ObjectAttr Builtin.Getset_descriptor
def ExcAt (C : Addr) (a : Addr) (h : Heap) : Prop := ∃ ob, h.get? a = some ob ∧ ob.cls = .ref C ∧ PySem.W.notCls ob = true
def excO (C a : Addr) : HO := .ext (ExcAt C a)
theorem ExcAt.stay {C a : Addr} {h h' : Heap} (x : ExcAt C a h) (k : ∀ o, h.get? a = some o → h'.get? a = some o) : ExcAt C a h' := let ⟨o, e, r⟩ := x; ⟨o, k o e, r⟩
theorem ExcAt.ty {C a : Addr} {h : Heap} {M : Model} (x : ExcAt C a h) : Looks M h (typeOf (.ref a)) (.ref C) := by
  obtain ⟨o, e, c, _⟩ := x
  exact c ▸ (Looks.ld e).andThen .now
structure ExCls (K : Frag) (D : Addr) : Prop where
  hga : findIn K (.ref D) "__getattribute__" = some (some (.builtin "BaseException.__getattribute__"))
  hgt : findIn K (.ref D) "__getattr__" = some none
  hmB : mroIn K D (.type "BaseException") = some true
  cl : (clsIn K D).isSome = true
  ha : findIn K (.ref D) "__class__" = some (some (.builtin "object.__class__"))
  hn : specialIn K (.builtin "object.__class__") "__get__" = some (some (.builtin "getset_descriptor.__get__"))
  htk : takesIn K (.builtin "object.__class__") = some true
  hm : mroIn K D (.type "object") = some true
section
variable {prog : Program} {w : World} {A : Around} {E : Value → Shared → Prop} {s : Shared} {K : Frag} {x D : Addr}
end
end L2
end
section
set_option Elab.async false
set_option linter.all false
set_option maxRecDepth 100000
namespace L2
open PySem PySem.Spec PySem.W PySem.Calls PyProof.Rows
theorem ObjOk.there {P : Program} {w : World} {H : Hp} {h : Heap} {a : Addr} {o : HO} (x : ObjOk P w H h a o) : ∃ ob, h.get? a = some ob := by
  induction o with
  | lst xs => obtain ⟨_, _, _, _, e⟩ := x; exact ⟨_, e⟩
  | tup xs => obtain ⟨_, _, _, ob, e, _⟩ := x; exact ⟨ob, e⟩
  | dK kvs => obtain ⟨_, _, _, _, o, _, _, e, _⟩ := x; exact ⟨o, e⟩
  | dT kvs => obtain ⟨_, _, _, _, o, _, _, e, _⟩ := x; exact ⟨o, e⟩
  | set S n => obtain ⟨ob, _, _, _, e, _⟩ := x; exact ⟨ob, e⟩
  | ins C dx fs => obtain ⟨_, _, _, e, _⟩ := x; exact ⟨_, e⟩
  | own y => exact x
  | xd fs => obtain ⟨_, ⟨od, _, _, e, _⟩, _⟩ := x; exact ⟨od, e⟩
  | rng lo hi => obtain ⟨_, _, _, e⟩ := x; exact ⟨_, e⟩
  | frz ob u ih => obtain ⟨e, _⟩ := x; exact ⟨ob, e⟩
  | tbl ps => exact ⟨_, x⟩
  | met f y => exact ⟨_, x⟩
  | ext φ => obtain ⟨_, e, _⟩ := x; exact e
def Cover (B : Heap) (fr : List Addr) (h : Heap) : Prop := ∀ b o, h.get? b = some o → b ∉ fr → ∃ o', B.get? b = some o'
section
variable {X : Cx} {pins : List (Addr × Obj)} {σ : St} {H : Hp} {s : Shared} {B h' : Heap}
theorem Inv.flown {t' : Nat} (I : Inv X pins σ H s) (hex : X.ex = []) (b1 : B.StaysIn s.heap) (b2 : B.StaysIn h') (c0 : Cover B (frs X.stack) X.s₀.heap) (ct : ∀ b o, H b = some o → ∃ ob, B.get? b = some ob)
    (cp : ∀ p ∈ X.pn ++ pins, ∃ ob, B.get? p.1 = some ob) (up : s.heap.UpToSlots h') : Inv X pins σ H { s with heap := h', toks := t' } := by
  have inB : ∀ {b o ob}, s.heap.get? b = some o → B.get? b = some ob → h'.get? b = some o := fun {b o ob} e q => by
    have := b1 b ob q
    rw [e] at this; cases this
    exact b2 b _ q
  have nL : ∀ b o, X.s₀.heap.get? b = some o → b ∉ X.fs → b ∉ frs X.stack := fun b o e hb z => by
    rcases List.mem_cons.mp (I.stkSub b z) with q | q
    · exact absurd (Nat.lt_of_lt_of_le (Heap.lt_size e) I.ok.above) (by rw [q]; exact Nat.lt_irrefl _)
    · exact hb q
  have nex : ∀ b : Addr, b ∉ X.ex := fun b z => by rw [hex] at z; cases z
  have fr : ∀ b ∈ X.fs, ∃ o, s.heap.get? b = some o ∧ ∀ vs, o.data ≠ .fields vs := fun b hb => (I.funs.mem hb).2
  have cellK : ∀ {c v}, s.heap.IsCell c v → h'.IsCell c v := fun {c v} ⟨o, ho, hd⟩ => by
    obtain ⟨sl, e⟩ := up c o ho fun vs z => by rw [hd] at z; cases z
    exact ⟨_, e, hd⟩
  refine ⟨I.ok, I.os, I.bare, ⟨fun b o e n hb _ => ?_, fun b o e n hb _ => ?_, I.base.free, fun b o e _ => ?_, I.base.tups, I.base.frzs, I.base.tbls⟩, ?_, fun x c e => ?_, I.free, I.freeC, fun p hp => ?_, fun b u e => ?_, I.len⟩
  · obtain ⟨ob, q⟩ := c0 b o e (nL b o e hb)
    exact inB (I.base.keep b o e n hb (nex b)) q
  · obtain ⟨sl, q⟩ := I.base.slot b o e n hb (nex b)
    obtain ⟨o2, q2, nf⟩ := fr b hb
    obtain ⟨sl2, q3⟩ := up b o2 q2 nf
    rw [q] at q2; cases q2
    exact ⟨sl2, q3⟩
  · by_cases hb : b ∈ X.fs
    · obtain ⟨o2, q2, nf⟩ := fr b hb
      obtain ⟨sl2, q3⟩ := up b o2 q2 nf
      exact ⟨_, q3⟩
    · obtain ⟨ob, q⟩ := c0 b o e (nL b o e hb)
      exact ⟨ob, b2 b ob q⟩
  · obtain ⟨m, hn, hl⟩ := I.loc
    refine ⟨m, up.ns hn, fun i x v e1 e2 e3 => ?_⟩
    obtain ⟨u, r, l⟩ := hl i x v e1 e2 e3
    refine ⟨u, r, ?_⟩
    rcases l with l | ⟨k, c, e, z⟩
    · exact .inl l
    · exact .inr ⟨k, c, e, cellK z⟩
  · obtain ⟨v, z⟩ := I.cell x c e
    exact ⟨v, cellK z⟩
  · obtain ⟨e, n, ne, nf, d⟩ := I.pin p hp
    obtain ⟨ob, q⟩ := cp p hp
    exact ⟨inB e q, n, ne, nf, d⟩
  · refine (I.hok b u e).stay (fun c v hc q => ?_) (fun _ q => q) fun _ _ q => q
    rcases hc with z | z
    · subst z
      obtain ⟨ob, q2⟩ := ct c u e
      exact inB q q2
    · obtain ⟨ob, q2⟩ := ct c _ z
      exact inB q q2
end
structure FlyX (P : Program) (w : World) (outer : List Env) (H : Hp) (s : Shared) (a : Addr) (cls : Value) (H' : Hp) (s' : Shared) : Prop where
  os : s'.os = s.os
  bare : AllBare s'.gens
  un : Un (frs outer) [] H H' s.heap s'.heap
  hok : HOk P w H' s'.heap
  fly : ∃ B a0, Heap.FlyingW B outer a cls a0 s'.heap ∧ Cover B (frs outer) s.heap ∧ ∀ b o, H' b = some o → ∃ ob, B.get? b = some ob
  new : H' a = none
  fresh : s.heap.get? a = none
def CXe (P : Program) (w : World) : CXT := fun outer H s E e s' => ∃ a cls H', e = .ref a ∧ FlyX P w outer H s a cls H' s' ∧ E cls none H'
section
variable {X : Cx} {pins : List (Addr × Obj)} {σ : St} {H : Hp} {s : Shared}
structure Body (X : Cx) : Prop where
  ex : X.ex = []
  pn : X.pn = []
  stk : X.stack = X.env :: X.outer
  fr : X.env.frame = some X.env.locals
theorem body_of {CX : CXT} {P : Program} {w : World} {K : Frag} {mg : Str → Option Value} {base : Heap} {N : List Str} {qual : Str} {scope : Scope} {f : Addr} {cd : Value} {A : Around} {outer : List Env} {s : Shared} {H : Hp} {E : XK} :
    Body (cxOf CX P w K mg base N qual scope f cd A outer s H E) := ⟨rfl, rfl, rfl, rfl⟩
theorem Inv.none_of (I : Inv X pins σ H s) {a : Addr} (e : s.heap.get? a = none) : H a = none := by
  cases q : H a with
  | none => rfl
  | some o =>
    obtain ⟨ob, z⟩ := (I.hok a o q).there
    rw [e] at z; cases z
theorem Inv.fresh0 (I : Inv X pins σ H s) (hex : X.ex = []) {a : Addr} (e : s.heap.get? a = none) : X.s₀.heap.get? a = none := by
  cases q : X.s₀.heap.get? a with
  | none => rfl
  | some o =>
    obtain ⟨o', z⟩ := I.base.there a o q (by rw [hex]; simp)
    rw [e] at z; cases z
theorem leave_made {E : XK} {E' : Value → Shared → Prop} {h' : Heap} {e : Addr} {cls : Value} {vs : List Value} (I : Inv X pins σ H s) (hb : Body X) (hx : Heap.MadeExcOf s.heap h' e cls vs) (q : E cls none H) :
    wpAny (model X.prog X.w) X.A (leaving X.env (.ref e)) (fun _ s'' => CXe X.prog X.w X.outer X.H₀ X.s₀ E (.ref e) s'') E' { s with heap := h' } := by
  have hin : ∀ env ∈ X.stack, ∀ b, env.frame = some b → b ∈ X.stack.filterMap (·.frame) := fun env he b hb => List.mem_filterMap.mpr ⟨env, he, hb⟩
  have hkb : (hideAll s.heap (frs X.stack)).StaysIn s.heap := fun b o q => of_hideAll _ q
  have hfr : X.A.frames = some (X.env :: X.outer) := by rw [← hb.stk]; exact I.ok.frames
  have hl : s.heap.FunFrames (hideAll s.heap (frs X.stack)) (X.env :: X.outer) := by rw [← hb.stk]; exact funFrames_hide I.stack hin
  have cv : ∀ {b o}, s.heap.get? b = some o → b ∉ frs X.stack → (hideAll s.heap (frs X.stack)).get? b = some o := fun e n => hideAll_get _ e n
  have sub : ∀ b ∈ frs X.outer, b ∈ frs X.stack := fun b z => by rw [hb.stk]; unfold frs; rw [List.filterMap_cons, hb.fr]; exact List.mem_cons_of_mem _ z
  refine wpAny_leaves_madeW (base := hideAll s.heap (frs X.stack)) (s := { s with heap := h' }) hfr hb.fr hkb hl hx fun h2 t fly tup bt up => ?_
  have up2 : s.heap.UpToSlots h2 := (Heap.UpToSlots.of_keeps hx.keeps).trans up
  have c0 : Cover (hideAll s.heap (frs X.stack)) (frs X.stack) X.s₀.heap := fun b o e n => by
    obtain ⟨o', z⟩ := I.base.there b o e (by rw [hb.ex]; simp)
    exact ⟨o', cv z n⟩
  have ct : ∀ b o, H b = some o → ∃ ob, (hideAll s.heap (frs X.stack)).get? b = some ob := fun b o e => by
    obtain ⟨ob, z⟩ := (I.hok b o e).there
    exact ⟨ob, cv z fun m => by rw [I.stkFree b m] at e; cases e⟩
  have J : Inv X [] σ H { s with heap := h2, toks := s.toks } := Inv.flown (I.pins_of fun p hp => by cases hp) hb.ex hkb fly.1 c0 ct (fun p hp => by rw [hb.pn] at hp; cases hp) up2
  refine ⟨e, cls, H, rfl, ⟨J.os, J.bare, ?_, J.hok, ⟨_, _, fly, ?_, ct⟩, I.none_of hx.new, I.fresh0 hb.ex hx.new⟩, q⟩
  · have := J.base
    rw [hb.ex] at this
    exact this
  · intro b o e' n
    refine c0 b o e' fun m => ?_
    rw [hb.stk] at m
    unfold frs at m
    rw [List.filterMap_cons, hb.fr] at m
    rcases List.mem_cons.mp m with z | z
    · exact absurd (Nat.lt_of_lt_of_le (Heap.lt_size e') I.ok.above) (by rw [z]; exact Nat.lt_irrefl _)
    · exact n z
theorem FlyX.inv {a : Addr} {cls : Value} {H' : Hp} {s' : Shared} (I : Inv X pins σ H s) (F : FlyX X.prog X.w X.stack H s a cls H' s') : Inv X pins σ H' s' :=
  I.call' (ch := []) F.os F.un F.hok F.bare fun b z => by cases z
theorem leave_pass {E : XK} {E' : Value → Shared → Prop} {a : Addr} {cls : Value} {H' : Hp} {s' : Shared} (I : Inv X pins σ H s) (hb : Body X) (F : FlyX X.prog X.w X.stack H s a cls H' s') (q : E cls none H') :
    wpAny (model X.prog X.w) X.A (leaving X.env (.ref a)) (fun _ s'' => CXe X.prog X.w X.outer X.H₀ X.s₀ E (.ref a) s'') E' s' := by
  obtain ⟨B, a0, fly, cov, ct⟩ := F.fly
  have hfr : X.A.frames = some (X.env :: X.outer) := by rw [← hb.stk]; exact I.ok.frames
  have I' := F.inv I
  have fly' := fly
  rw [hb.stk] at fly'
  refine wpAny_leaves_onW hfr hb.fr fly' fun h2 fly2 up => ?_
  have c0 : Cover B (frs X.stack) X.s₀.heap := fun b o e n => by
    obtain ⟨o', z⟩ := I.base.there b o e (by rw [hb.ex]; simp)
    exact cov b o' z n
  have J : Inv X [] σ H' { s' with heap := h2, toks := s'.toks } := Inv.flown (I'.pins_of fun p hp => by cases hp) hb.ex fly.1 fly2.1 c0 ct (fun p hp => by rw [hb.pn] at hp; cases hp) up
  refine ⟨a, cls, H', rfl, ⟨J.os, J.bare, ?_, J.hok, ⟨_, _, fly2, ?_, ct⟩, F.new, I.fresh0 hb.ex F.fresh⟩, q⟩
  · have := J.base
    rw [hb.ex] at this
    exact this
  · intro b o e' n
    refine c0 b o e' fun m => ?_
    rw [hb.stk] at m
    unfold frs at m
    rw [List.filterMap_cons, hb.fr] at m
    rcases List.mem_cons.mp m with z | z
    · exact absurd (Nat.lt_of_lt_of_le (Heap.lt_size e') I.ok.above) (by rw [z]; exact Nat.lt_irrefl _)
    · exact n z
end
theorem passE {P : Program} {w : World} {K : Frag} {mg : Str → Option Value} {base : Heap} {N : List Str} {qual : Str} {scope : Scope} {f : Addr} {cd : Value} {A : Around} {outer : List Env} {s : Shared} {H : Hp} {E : XK} :
    Passes (CXe P w) (cxOf (CXe P w) P w K mg base N qual scope f cd A outer s H E) E := by
  rintro pins σ H1 s1 e s' I ⟨a, cls, H', rfl, F, q⟩
  exact leave_pass I body_of F q
theorem passN {P : Program} {w : World} {X : Cx} : Passes (CXe P w) X E0 := by
  rintro pins σ H1 s1 e s' I ⟨a, cls, H', rfl, F, q⟩
  exact q.elim
end L2
end
section
set_option Elab.async false
set_option linter.all false
set_option maxRecDepth 100000
namespace L2
open PySem PySem.Spec PySem.W PySem.Calls PyProof.Rows
theorem exc_obj {K : Frag} {h : Heap} {C : Addr} {bmB : List Value} {newId : String} (X : K.In h) (q : excIn K C bmB newId = true) :
    ∃ bm N nm qn bs hdct sn sub ab col dd k0 k1 k2 k3 k5 mN, h.get? C = some (excClassObj nm qn C N bs bm hdct sn sub ab col dd k0 k1 k2 k3 k5 newId) ∧ h.Ns N mN ∧ mN "__init__" = none ∧ OwnTail h bmB bm := by
  unfold excIn at q
  split at q
  · rename_i dd cd sl ho
    split at q
    · rename_i C' bm k0 k1 k2 k3 n k5 hm hs
      simp only [Bool.and_eq_true, beq_iff_eq, Bool.not_eq_true'] at q
      obtain ⟨⟨⟨⟨⟨q1, q2⟩, hdel⟩, ht⟩, hok⟩, hni⟩ := q
      subst q1 q2
      obtain ⟨nm, bs, mro, ns, qn, hd, sn, sub, ab, col, del⟩ := cd
      dsimp only at hm hdel hok hni
      subst hm hdel
      obtain ⟨l⟩ := sl
      have hl : l = [k0, k1, k2, k3, some (.builtin n), k5] := hs
      subst hl
      exact ⟨bm, ns, nm, qn, bs, hd, sn, sub, ab, col, dd, k0, k1, k2, k3, k5, _, X _ _ ho, .of_isNs (isNs_of_in X hok), nsMap_none_of_in X hok hni, tail_of_in X ht⟩
    · cases q
  · cases q
def tRaise (Ex : XK) (C : Addr) (ta : TA) : TS := fun _ σ H => ta σ H fun vs H1 => vs.length ≤ sizeLine ∧ Ex (.ref C) none H1
theorem ps_raise {X : Cx} {x : Str} {C : Addr} {Bn newId initId : String} {bmB : List Value} {np cpos pos : Pos} {e : Expr} {es : List Expr} {ta : TA} {Ex : XK} (FB : ExcBaseFacts Bn newId initId bmB) (hq : excIn X.K C bmB newId = true) (hm : X.mg x = some (.ref C))
    (hc : X.calm = true) (ha : PA X (e :: es) ta)
    (hx : ∀ pins s σ H h' a vs, Inv X pins σ H s → Heap.MadeExcOf s.heap h' a (.ref C) vs → Ex (.ref C) none H → X.xe (.ref a) { s with heap := h' }) (hg : Gl X x := by rfl) (hdb : (x == ("__debug__" : Str)) = false := by decide)
    (he : starEach (e :: es) X.env = (false, eval e X.env) :: starEach es X.env := by rfl) (hpl : (backTo cpos (starEach es X.env)).any (·.1) = false := by rfl) :
    PS X (.Raise (some (.Call (.Name x np) (e :: es) [] cpos)) none pos) (tRaise Ex C ta) := by
  intro pins s σ H D I h
  obtain ⟨tl, N, nm, q, bs, hdct, sn, sub, ab, col, dd, k0, k1, k2, k3, k5, mN, hC, hN, hni, T⟩ := exc_obj I.ok.mod.kin hq
  refine wpAny_Raise_call_subT (C := C) (nm := nm) (q := q) (N := N) (bs := bs) (bm := tl) (hdct := hdct) (sn := sn) (sub := sub) (ab := ab) (col := col) (dd := dd) (k0 := k0) (k1 := k1) (k2 := k2) (k3 := k3) (k5 := k5)
    FB (mN := mN) (T.hasType FB.hasBase) (I.ok.hd hc) (by rw [he]; show (false || (backTo cpos (starEach es X.env)).any (·.1)) = false; rw [hpl]; rfl) hni (ld_glob I hg hm ⟨rfl, ?_⟩ hdb)
  have h2 := ha cpos pins s σ H _ I h
  rw [he] at h2 ⊢
  refine Calls.evalArgs_plain (wpAny_mono h2 (fun us s2 z => ?_) fun _ _ y => y)
  obtain ⟨vs, H1, I1, r1, hl, qx⟩ := z
  exact ⟨rfl, by rw [← r1.length]; exact hl, I1.bk _ _ hC, hN.keeps I1.bk, T.keeps I1.bk, fun h' a mk => hx pins s2 σ H1 h' a us I1 mk qx⟩
theorem raiseE {P : Program} {w : World} {K : Frag} {mg : Str → Option Value} {base : Heap} {N : List Str} {qual : Str} {scope : Scope} {f : Addr} {cd : Value} {A : Around} {outer : List Env} {s0 : Shared} {H0 : Hp} {E : XK} {C : Addr} :
    ∀ pins s σ H h' a vs, Inv (cxOf (CXe P w) P w K mg base N qual scope f cd A outer s0 H0 E) pins σ H s → Heap.MadeExcOf s.heap h' a (.ref C) vs → E (.ref C) none H →
      (cxOf (CXe P w) P w K mg base N qual scope f cd A outer s0 H0 E).xe (.ref a) { s with heap := h' } := fun pins s σ H h' a vs I mk q => leave_made I body_of mk q
section
variable {X : Cx} {pins : List (Addr × Obj)} {σ : St} {H : Hp} {s : Shared}
def Cx.marked (X : Cx) (a : Addr) : Cx := { X with A := X.A.mark (some (.ref a)), calm := false, xe := fun _ _ => False }
theorem Inv.mark {a : Addr} (I : Inv X pins σ H s) : Inv (X.marked a) pins σ H s :=
  ⟨⟨I.ok.mod, I.ok.kind, I.ok.glob, I.ok.blt, I.ok.above, I.ok.inj, I.ok.has, I.ok.cab, (fun z => absurd (show false = true from z) Bool.false_ne_true), I.ok.frames, I.ok.stk, I.ok.exf, I.ok.bs, I.ok.bsz, I.ok.noex, I.ok.exfs, I.ok.funs, I.ok.frf⟩, I.os, I.bare, I.base, I.loc, I.cell, I.free, I.freeC, I.pin, I.hok, I.len⟩
theorem Inv.unmark {a : Addr} (J : X.Ok) (I : Inv (X.marked a) pins σ H s) : Inv X pins σ H s := ⟨J, I.os, I.bare, I.base, I.loc, I.cell, I.free, I.freeC, I.pin, I.hok, I.len⟩
end
def EX (X : Cx) (pins : List (Addr × Obj)) (σ : St) (Ex : XK) (e : Value) (s' : Shared) : Prop :=
  ∃ a cls H' s0 H0, e = .ref a ∧ Inv X pins σ H0 s0 ∧ FlyX X.prog X.w X.stack H0 s0 a cls H' s' ∧ Ex cls none H'
section
variable {X : Cx} {k j : Nat} {ps : List Str} {sp : Sp} {x : Str} {p pos : Pos} {e : Expr} {es : List Expr} {t : TA}
theorem callX (h : Has X.prog X.w X.K X.mg X.base (CXe X.prog X.w) x k ps sp) (hr : Room j X.A) (ha : PA X.nox (e :: es) t) (hk : k ≤ j := by decide) (hg : Gl X x := by rfl) (hdb : (x == ("__debug__" : Str)) = false := by decide)
    (he : starEach (e :: es) X.env = (false, eval e X.env) :: starEach es X.env := by rfl) (hpl : (backTo pos (starEach es X.env)).any (·.1) = false := by rfl)
    {pins : List (Addr × Obj)} {s : Shared} {σ : St} {H : Hp} {Q : VK} {Ex : XK} (I : Inv X pins σ H s) (hw : t σ H fun vs H1 => sp (vs ++ []) H1 Q Ex) :
    wpAny (model X.prog X.w) X.A (eval (.Call (.Name x p) (e :: es) [] pos) X.env) (EP X pins σ Q) (EX X pins σ Ex) s := by
  obtain ⟨f, fd, F, hm, hkp, hb⟩ := h.ex
  refine wpAny_Call_Name_kw (ld_glob I hg hm ?_ hdb)
  refine PySem.W.callWith_K (h₀ := X.base) I.ok.mod.kin hkp (wpAny_mono (ha pos pins s σ H _ (I.wish _) hw) (fun us s1 ⟨vs, H1, I1, r, q⟩ => ⟨I1.kIn, ?_⟩) fun _ _ z => False.elim z) he hpl
  have I1 := I1.unwish
  dsimp only at q
  rw [List.append_nil] at q
  have hl : us.length = ps.length := by rw [← r.length]; exact F.len _ _ _ _ q
  have hb' := hb s1 us I1.kIn (by rw [List.append_nil]; exact hl)
  rw [List.append_nil] at hb'
  refine wpAny_call (codeAny_mono (F.run X.A X.stack s1 H1 ⟨us, []⟩ us vs Q Ex (hr.mono hk) I1.env0 hb' r q) fun rr s' hq => ?_)
  cases rr with
  | error ev =>
    obtain ⟨a, cls, H', rfl, fl, qe⟩ := hq
    exact ⟨a, cls, H', s1, H1, rfl, I1, fl, qe⟩
  | ok fl =>
    cases fl with
    | ret u => exact I1.after hq
    | next => exact False.elim hq
    | brk => exact False.elim hq
    | cont => exact False.elim hq
end
def hAs (K : Frag) (M : Addr) (jn : Nat) (ts : TS) (D : Ends) (σ : St) : XK := fun cls _ H' => ∃ C, cls = .ref C ∧ exmOne K (.ref C) (.ref M) = some true ∧
  ∀ a, H' a = none → ts { nx := fun σ' H2 => D.nx (σ'.set jn none) H2, rt := D.rt, bk := fun σ' H2 => D.bk (σ'.set jn none) H2, ct := fun σ' H2 => D.ct (σ'.set jn none) H2 } (σ.set jn (some (.ref a))) (upd H' a (excO C a))
def tTryAs (K : Frag) (sp : Sp) (ta : TA) (M : Addr) (jn : Nat) (ts : TS) : TS := fun D σ H => ta σ H fun vs H1 => sp (vs ++ []) H1 (fun _ H2 => D.nx σ H2) (hAs K M jn ts D σ)
end L2
end
section
set_option Elab.async false
set_option linter.all false
set_option maxRecDepth 100000
namespace L2
open PySem PySem.Spec PySem.W PySem.Calls PyProof.Rows
section
variable {P : Program} {w : World} {K : PySem.W.Frag} {mg : Str → Option Value} {base : Heap}
theorem Def.hasN {x : Str} {st : Stmt} {N ps : List Str} {k : Nat} {sp : Sp} (D : Def K mg x st ps) (S : FnScope N ps (defScope st)) (len : ∀ vs H Q E, sp vs H Q E → vs.length = ps.length)
    (hbody : ∀ (f : Addr) (cdv : Value) (A : Around) (outer : List Env) (s : Shared) (H : Hp) (vs : List V) (Q : VK) (E : XK), Room k (A.deeper (envOfC x (defScope st) s.heap.objs.size f cdv)) → sp vs H Q E →
      ∃ t, PSs (cxOf (CXe P w) P w K mg base N x (defScope st) f cdv A outer s H E).nox (defBody st) t ∧ t { nx := fun _ H' => Q .non H', rt := Q } (start N vs) H) : Has P w K mg base (CXe P w) x (k + 1) ps sp := by
  obtain ⟨f, fd, F, hm, hb⟩ := D.ex
  have kp := F.kp
  obtain ⟨oc, od, kV, doc, pm, an, cdv, ct, osl, rfl, lk, hcd⟩ := F.ex
  refine ⟨⟨f, _, fn_of lk hcd S len fun A outer s H vs Q E hr hsp => ?_, hm, kp, hb⟩⟩
  obtain ⟨t, h, q⟩ := hbody f cdv A outer s H vs Q E hr hsp
  exact ⟨t, h.nox, q⟩
theorem Def.hasE {x : Str} {st : Stmt} {N ps : List Str} {k : Nat} {sp : Sp} (D : Def K mg x st ps) (S : FnScope N ps (defScope st)) (len : ∀ vs H Q E, sp vs H Q E → vs.length = ps.length)
    (hbody : ∀ (f : Addr) (cdv : Value) (A : Around) (outer : List Env) (s : Shared) (H : Hp) (vs : List V) (Q : VK) (E : XK), Room k (A.deeper (envOfC x (defScope st) s.heap.objs.size f cdv)) → sp vs H Q E →
      ∃ t, PSs (cxOf (CXe P w) P w K mg base N x (defScope st) f cdv A outer s H E) (defBody st) t ∧ t { nx := fun _ H' => Q .non H', rt := Q } (start N vs) H) : Has P w K mg base (CXe P w) x (k + 1) ps sp := by
  obtain ⟨f, fd, F, hm, hb⟩ := D.ex
  have kp := F.kp
  obtain ⟨oc, od, kV, doc, pm, an, cdv, ct, osl, rfl, lk, hcd⟩ := F.ex
  exact ⟨⟨f, _, fn_of lk hcd S len fun A outer s H vs Q E hr hsp => hbody f cdv A outer s H vs Q E hr hsp, hm, kp, hb⟩⟩
theorem Fun.okN {x : Str} {st : Stmt} {f : Addr} {fd : FuncData} {N ps : List Str} {k : Nat} {sp : Sp} (F : Fun K x x st f fd) (S : FnScope N ps (defScope st)) (len : ∀ vs H Q E, sp vs H Q E → vs.length = ps.length)
    (hbody : ∀ (cdv : Value) (A : Around) (outer : List Env) (s : Shared) (H : Hp) (vs : List V) (Q : VK) (E : XK), Room k (A.deeper (envOfC x (defScope st) s.heap.objs.size f cdv)) → sp vs H Q E →
      ∃ t, PSs (cxOf (CXe P w) P w K mg base N x (defScope st) f cdv A outer s H E).nox (defBody st) t ∧ t { nx := fun _ H' => Q .non H', rt := Q } (start N vs) H) : FnOk P w K mg base (CXe P w) (k + 1) f fd ps sp := by
  obtain ⟨oc, od, kV, doc, pm, an, cdv, ct, osl, rfl, lk, hcd⟩ := F.ex
  refine fn_of lk hcd S len fun A outer s H vs Q E hr hsp => ?_
  obtain ⟨t, h, q⟩ := hbody cdv A outer s H vs Q E hr hsp
  exact ⟨t, h.nox, q⟩
end
theorem cxe_false {P : Program} {w : World} {o : List Env} {H : Hp} {s : Shared} {e : Value} {s' : Shared} (h : CXe P w o H s (fun _ _ _ => False) e s') : False := by
  obtain ⟨_, _, _, _, _, z⟩ := h
  exact z
theorem body_nox {CX : CXT} {P : Program} {w : World} {K : Frag} {mg : Str → Option Value} {base : Heap} {N : List Str} {qual : Str} {scope : Scope} {f : Addr} {cd : Value} {A : Around} {outer : List Env} {s : Shared} {H : Hp} {E : XK} :
    Body (cxOf CX P w K mg base N qual scope f cd A outer s H E).nox := ⟨rfl, rfl, rfl, rfl⟩
inductive TyX (K : Frag) (H : Hp) : V → Value → Prop where
  | non : TyX K H .non (.type "NoneType")
  | exc {a C : Addr} (e : H a = some (excO C a)) (c : ExCls K C) : TyX K H (.ref a) (.ref C)
def rInstX (K : Frag) : List V → Hp → VK → Prop := fun xs H Q => ∃ x c t u b, xs = [x, c] ∧ TyX K H x t ∧ ClsV c u ∧ kitOne K t u = some b ∧ Q (.bl b) H
def rInstT (K : Frag) : List V → Hp → VK → Prop := fun xs H Q => ∃ x tp cs t us b, xs = [x, .ref tp] ∧ TyX K H x t ∧ H tp = some (.tup cs) ∧ Paired ClsV cs us ∧ kitAny K t us = some b ∧ Q (.bl b) H
section
variable {H : Hp} {Q : VK} {K : Frag}
theorem r_raise {Ex : XK} {C : Addr} {ta : TA} {D : Ends} {σ : St} (h : ta σ H fun vs H1 => vs.length ≤ sizeLine ∧ Ex (.ref C) none H1) : tRaise Ex C ta D σ H := h
end
end L2
end
section
set_option Elab.async false
set_option linter.all false
set_option maxRecDepth 100000
namespace L2
open PySem PySem.Spec PySem.W PySem.Calls PyProof.Rows
def rNe2 (K : Frag) : R2 := fun x y H Q => ∃ p q a b c d, x = .ref p ∧ y = .ref q ∧ SqT K H p [.int a, .int b] ∧ SqT K H q [.int c, .int d] ∧ Q (.bl (!decide (a = c ∧ b = d))) H
end L2
end
section
set_option Elab.async false
set_option linter.all false
set_option maxRecDepth 100000
namespace L2
open PySem PySem.Spec PySem.W PySem.Calls PyProof.Rows
def AllIn (cells : List (Str × Addr)) : List (Str × Addr) → Prop
  | [] => True
  | p :: r => cells.lookup p.1 = some p.2 ∧ AllIn cells r
theorem AllIn.get {cells : List (Str × Addr)} : ∀ {cl : List (Str × Addr)}, AllIn cells cl → ∀ {x c}, cl.lookup x = some c → cells.lookup x = some c
  | [], _, x, c, e => by cases e
  | (n, d) :: r, h, x, c, e => by
    rw [List.lookup_cons] at e
    cases q : x == n with
    | true =>
      rw [q] at e; cases e
      have z : x = n := by simpa using q
      subst z
      exact h.1
    | false => rw [q] at e; exact AllIn.get h.2 e
def PIfs (X : Cx) (ifs : List Expr) (t : TT) : Prop :=
  ∀ (pins : List (Addr × Obj)) (s : Shared) (σ : St) (H : Hp) (Q : Bool → Hp → Prop), Inv X pins σ H s → t σ H Q →
    wpAny (model X.prog X.w) X.A (forIn ifs true fun c r => if r = true then do let ok ← isTrue c X.env (eval c X.env); pure (ForInStep.yield ok) else pure (ForInStep.yield r)) (TP X pins σ Q) X.xe s
def tTrue : TT := fun _ H Q => Q true H
theorem pifs_nil {X : Cx} : PIfs X [] tTrue := fun _ _ _ H _ I h => wpAny_tests_nil ⟨H, I, h⟩
section
variable {prog : Program} {w : World} {A : Around} {R : Result → Shared → Prop} {s : Shared}
theorem comp_loop {elt target iter : Expr} {ifs : List Expr} {scope : Scope} {pos : Pos} {it acc : Value} {env : Env} (I : Nat → Shared → Prop)
    (turn : ∀ n s, I n s → wpAny (model prog w) A (pyNext it) (fun r s₁ => match r with
      | none => R (.ok .next) s₁
      | some v => wpAny (model prog w) A (letOwnedTupleGo target it v) (fun _ s1 => wpAny (model prog w) A (assign target env v) (fun _ s₂ =>
          wpAny (model prog w) A (forIn ifs true fun c r => if r = true then do let ok ← isTrue c env (eval c env); pure (ForInStep.yield ok) else pure (ForInStep.yield r)) (fun ok s₃ =>
            if ok = true then wpAny (model prog w) A (eval elt env) (fun x s₄ => wpAny (model prog w) A (call (.builtin "list.append") [acc, x]) (fun _ s₅ => ∃ m, m < n ∧ I m s₅) (fun _ _ => False) s₄) (fun _ _ => False) s₃
            else ∃ m, m < n ∧ I m s₃) (fun _ _ => False) s₂) (fun _ _ => False) s1) (fun _ _ => False) s₁) (fun _ _ => False) s)
    (n : Nat) (h : I n s) : codeAny (model prog w) A (.compLoop (.ListComp elt [⟨target, iter, ifs, 0⟩] scope pos) 0 it acc env) R s := by
  refine codeAny_loop rfl I (fun n s hI => ?_) n h
  show wpAny _ A ((compTurn (.ListComp elt [⟨target, iter, ifs, 0⟩] scope pos) 0 it acc env).onRaise (fun x => do noteFrame x env; theTreesLotGoes x)) _ _ s
  refine wpAny_noted ?_
  rw [compTurn_list]
  refine wpAny_bind (wpAny_standAt (wpAny_bind (wpAny_mono (turn n s hI) (fun r s₁ h₁ => ?_) fun _ _ z => False.elim z)))
  cases r with
  | none => exact wpAny_pure h₁
  | some v =>
    refine wpAny_bind (wpAny_mono h₁ (fun _ s1 h1 => wpAny_bind (wpAny_mono h1 (fun _ s₂ h₂ => wpAny_bind (wpAny_mono h₂ (fun ok s₃ h₃ => ?_) fun _ _ z => False.elim z)) fun _ _ z => False.elim z)) fun _ _ z => False.elim z)
    cases ok with
    | false => exact wpAny_pure ⟨rfl, h₃⟩
    | true =>
      exact wpAny_bind (wpAny_bind (wpAny_mono h₃ (fun x s₄ h₄ => wpAny_bind (wpAny_mono h₄ (fun _ s₅ h₅ => wpAny_pure (wpAny_pure ⟨rfl, h₅⟩)) fun _ _ z => False.elim z)) fun _ _ z => False.elim z))
end
def Cx.block (X : Cx) (scope : Scope) (cl : List (Str × Addr)) (C : Addr) (N : List Str) (fp : List Addr) (pins : List (Addr × Obj)) (s : Shared) (H : Hp) : Cx :=
  { X with N := N, s₀ := s, H₀ := H, env := compEnvC scope cl C X.env, outer := X.stack, ex := fp, fn := fun _ => false, pn := X.pn ++ pins, xe := fun _ _ => False }
def blockSt (n : Nat) (fr : List Nat) (σ : St) : St := List.replicate n none ++ fr.map fun i => (σ[i]?).join
structure BlockOk (X : Cx) (scope : Scope) (cl : List (Str × Addr)) (tg : List Str) (fr : List (Str × Nat)) : Prop where
  kind : scope.kind = .function
  nocell : ∀ y ∈ scope.names, y.2 ≠ .cell
  names : ∀ y ∈ scope.names, y.2 = .local → scope.names.lookup y.1 = some .local
  clos : closureFor scope X.env = pure cl
  allin : AllIn X.env.cells cl
  has : ((relabel scope X.env).names.all fun p => !(p.2 == .cell || p.2 == .free) || (cl.lookup p.1).isSome) = true
  frN : ∀ p ∈ fr, X.N[p.2]? = some p.1 ∧ Vis X.env.scope p.1 ∧ (cl.lookup p.1).isSome = true ∧ (relabel scope X.env).names.lookup p.1 = some .cell
  frL : ∀ p ∈ fr, X.env.kindOf p.1 = some .cell
section
variable {X : Cx} {pins : List (Addr × Obj)} {σ : St} {H : Hp} {s : Shared} {scope : Scope} {cl : List (Str × Addr)} {tg : List Str} {fr : List (Str × Nat)}
theorem lookup_mem {κ α : Type} [BEq κ] [LawfulBEq κ] : ∀ {l : List (κ × α)} {x : κ} {v : α}, l.lookup x = some v → (x, v) ∈ l
  | [], _, _, e => by cases e
  | (k, u) :: r, x, v, e => by
    rw [List.lookup_cons] at e
    cases q : x == k with
    | true =>
      rw [q] at e; cases e
      have z : x = k := by simpa using q
      subst z
      exact List.mem_cons_self
    | false => rw [q] at e; exact List.mem_cons_of_mem _ (lookup_mem e)
theorem block_start {C : Addr} {fp : List Addr} {h' : Heap} {t' : Nat} {m : Str → Option Value} (B : BlockOk X scope cl tg fr) (I : Inv X pins σ H s) (hf : ∀ b ∈ fp, FpOk X pins H b ∧ b < s.heap.objs.size) (hC : s.heap.objs.size ≤ C) (hn : h'.Ns C m) (k : ∀ b o, s.heap.get? b = some o → h'.get? b = some o)
    {H2 : Hp} (hu : Un (frs X.stack) fp H H2 s.heap h') (hok : HOk X.prog X.w H2 h') (hfree : H2 C = none) :
    Inv (X.block scope cl C (tg ++ fr.map (·.1)) fp pins s H) [] (blockSt tg.length (fr.map (·.2)) σ) H2 { s with heap := h', toks := t' } := by
  have cells : ∀ {x c}, cl.lookup x = some c → X.env.cells.lookup x = some c := fun e => B.allin.get e
  have cC : ∀ x c, X.env.cells.lookup x = some c → c ≠ C := fun x c e z => by
    obtain ⟨v, o, ho, _⟩ := I.cell x c e
    exact absurd (Nat.lt_of_lt_of_le (Heap.lt_size ho) hC) (by rw [z]; exact Nat.lt_irrefl _)
  have cellK : ∀ {c v}, s.heap.IsCell c v → h'.IsCell c v := fun {c v} ⟨o, e, d⟩ => ⟨o, k c o e, d⟩
  have cellH : ∀ x c, X.env.cells.lookup x = some c → c ∉ fp ∧ H2 c = none := fun x c e => by
    have nf : c ∉ fp := fun z => (hf c z).1.2.2.2.2.1 x c e rfl
    obtain ⟨v, o, ho, _⟩ := I.cell x c e
    exact ⟨nf, hu.free c o ho (I.freeC x c e) nf⟩
  have pinK : ∀ p ∈ X.pn ++ pins, p.1 ∉ fp ∧ H2 p.1 = none := fun p hp => by
    have nf : p.1 ∉ fp := fun z => (hf p.1 z).1.2.2.2.2.2 p hp rfl
    obtain ⟨e, n, _⟩ := I.pin p hp
    exact ⟨nf, hu.free p.1 _ e n nf⟩
  have stkC : ∀ b ∈ frs X.stack, b < s.heap.objs.size := fun b hb => by
    obtain ⟨_, o, ho, _⟩ := I.stack.mem hb
    exact Heap.lt_size ho
  refine ⟨⟨I.ok.mod, B.kind, I.ok.glob, I.ok.blt, hC, fun x y c h1 h2 => I.ok.inj x y c (cells h1) (cells h2), fun x hx => ?_, fun x c z => absurd (show false = true from z) Bool.false_ne_true, I.ok.hd, I.ok.frames, .inl rfl, fun b hb => ?_, fun b o e => ⟨?_, ?_⟩, ?_, fun b o e z => ?_, fun b hb z => ?_, I.stack, I.stkFree⟩,
    rfl, I.bare, hu, ⟨m, hn, fun i x v h1 h2 h3 => ?_⟩, fun x c e => ?_, hfree, fun x c e => (cellH x c (cells e)).2, fun p hp => ?_, hok, ?_⟩
  · have e : (relabel scope X.env).names.lookup x = some .cell ∨ (relabel scope X.env).names.lookup x = some .free := hx
    have mem : ∃ kk, (x, kk) ∈ (relabel scope X.env).names ∧ (kk == NameKind.cell || kk == NameKind.free) = true := by
      rcases e with e | e
      · exact ⟨_, lookup_mem e, rfl⟩
      · exact ⟨_, lookup_mem e, rfl⟩
    obtain ⟨kk, mm, hk⟩ := mem
    have z := List.all_eq_true.mp B.has _ mm
    simp only [hk, Bool.not_true, Bool.false_or] at z
    exact Option.isSome_iff_exists.mp z
  · exact ⟨fun z => absurd (Nat.lt_of_lt_of_le (hf b hb).2 hC) (by rw [z]; exact Nat.lt_irrefl _), fun x c e z => (cellH x c (cells e)).1 (z ▸ hb)⟩
  · exact (I.bs b o e).1
  · exact (I.bs b o e).2
  · exact Nat.le_trans I.ok.bsz I.sz
  · rcases (hf b z).1.2.2.2.1 with q | q
    · exact I.ok.noex b o e q
    · exact absurd (Nat.lt_of_lt_of_le (Heap.lt_size (I.ok.bs b o e).1) q) (Nat.lt_irrefl _)
  · have z' : b ∈ frs X.stack := z
    rcases List.mem_cons.mp (I.stkSub b z') with q | q
    · exact (hf b hb).1.2.1 q
    · exact (hf b hb).1.2.2.1 q
  · have hi : tg.length ≤ i := by
      refine Nat.le_of_not_lt fun z => ?_
      unfold blockSt at h2
      rw [List.getElem?_append_left (by simpa using z), List.getElem?_replicate, if_pos z] at h2
      cases h2
    have h1' : (fr.map (·.1))[i - tg.length]? = some x := by
      have z : (tg ++ fr.map (·.1))[i]? = some x := h1
      rw [List.getElem?_append_right hi] at z
      exact z
    have h2' : ((fr.map (·.2)).map fun i => (σ[i]?).join)[i - tg.length]? = some (some v) := by
      unfold blockSt at h2
      rw [List.getElem?_append_right (by simpa using hi)] at h2
      simpa using h2
    rw [List.getElem?_map] at h1'
    rw [List.getElem?_map, List.getElem?_map] at h2'
    cases q : fr[i - tg.length]? with
    | none => rw [q] at h1'; cases h1'
    | some p =>
      rw [q] at h1' h2'
      have ex : p.1 = x := Option.some.inj h1'
      have ev : (σ[p.2]?).join = some v := Option.some.inj h2'
      subst ex
      obtain ⟨f1, f2, f3, f4⟩ := B.frN p (List.mem_of_getElem? q)
      have eσ : σ[p.2]? = some (some v) := by
        cases z : σ[p.2]? with
        | none => rw [z] at ev; cases ev
        | some w' => rw [z] at ev; exact congrArg some ev
      obtain ⟨m0, hn0, hl0⟩ := I.loc
      obtain ⟨u, r, l⟩ := hl0 p.2 p.1 v f1 eσ f2
      refine ⟨u, r, ?_⟩
      obtain ⟨c, hc⟩ := Option.isSome_iff_exists.mp f3
      have hk := B.frL p (List.mem_of_getElem? q)
      rcases l with ⟨kl, _⟩ | ⟨_, c', hc', z⟩
      · rw [hk] at kl; cases kl
      · have e' := cells hc
        rw [hc'] at e'
        cases e'
        exact .inr ⟨.inl f4, c, hc, cellK z⟩
  · obtain ⟨v, z⟩ := I.cell x c (cells e)
    exact ⟨v, cellK z⟩
  · rw [List.append_nil] at hp
    obtain ⟨e, n, ne, nf, d⟩ := I.pin p hp
    refine ⟨k _ _ e, (pinK p hp).2, fun z => absurd (Nat.lt_of_lt_of_le (Heap.lt_size e) hC) (by rw [z]; exact Nat.lt_irrefl _), fun z => ?_, d⟩
    rcases List.mem_cons.mp (I.stkSub _ z) with q | q
    · exact ne q
    · exact nf q
  · unfold blockSt
    show _ = (tg ++ fr.map (·.1)).length
    simp
end
end L2
end
section
set_option Elab.async false
set_option linter.all false
set_option maxRecDepth 100000
namespace L2
open PySem PySem.Spec PySem.W PySem.Calls PyProof.Rows
def tComp (wi : TI) (g : TG) (tt : TT) (te : TE) (n : Nat) (fr : List Nat) : TE := fun σ H Q => wi σ H fun J H1 => ∀ acc, H1 acc = none → ∃ W : Nat → Nat → St → List V → Hp → Prop, (∃ m, W 0 m (blockSt n fr σ) [] (upd H1 acc (.lst []))) ∧
  ∀ i m σ' ys H2, W i m σ' ys H2 → ((J.stop i H2 ∧ Q (.ref acc) H2) ∨ (J.go i H2 ∧ ∀ x H3, J.yld i H2 x H3 → g x σ' H3 fun σ2 H4 => tt σ2 H4 fun b H5 =>
    if b = true then te σ2 H5 fun y H6 => H6 acc = some (.lst ys) ∧ ys.length < sizeLine ∧ ∃ m', m' < m ∧ W (i + 1) m' σ2 (ys ++ [y]) (upd H6 acc (.lst (ys ++ [y]))) else ∃ m', m' < m ∧ W (i + 1) m' σ2 ys H5))
section
variable {X : Cx} {scope : Scope} {cl : List (Str × Addr)} {tg : List Str} {fr : List (Str × Nat)} {elt target iter : Expr} {ifs : List Expr} {wi : TI} {g : TG} {tt : TT} {te : TE} {pos : Pos}
theorem comp_core (B : BlockOk X scope cl tg fr) (hc : X.calm = true) (hi : PI X target iter wi)
    (hg : ∀ C fp pins s H, PG (X.block scope cl C (tg ++ fr.map (·.1)) fp pins s H) target g) (ht : ∀ C fp pins s H, PIfs (X.block scope cl C (tg ++ fr.map (·.1)) fp pins s H) ifs tt) (he : ∀ C fp pins s H, PE (X.block scope cl C (tg ++ fr.map (·.1)) fp pins s H) elt te)
    {pins : List (Addr × Obj)} {σ : St} {H : Hp} {s : Shared} {Q : VK} (I : Inv X pins σ H s) (hw : tComp wi g tt te tg.length (fr.map (·.2)) σ H Q) {RR : Value → Addr → Result → Shared → Prop}
    (hRR : ∀ D C s1 H5 m, Inv X pins σ H5 s1 → s1.heap.Ns C m → H5 C = none → C ≠ X.env.locals → X.s₀.heap.objs.size ≤ C → (∀ x c, X.env.cells.lookup x = some c → c ≠ C) → (∀ p ∈ X.pn ++ pins, p.1 ≠ C) → Q (.ref D) H5 → RR (.ref D) C (.ok .next) s1) :
    wpAny (model X.prog X.w) X.A (eval iter X.env) (fun xv s1 => wpAny (model X.prog X.w) X.A (pyIter xv) (fun it s2 => wpAny (model X.prog X.w) X.A (newList []) (fun acc s3 =>
      wpAny (model X.prog X.w) X.A (newFunctionEnv scope X.env.globals cl [] X.env.qual none .none (some X.env)) (fun cenv s4 =>
        codeAny (model X.prog X.w) X.A (.compStart (.ListComp elt [⟨target, iter, ifs, 0⟩] scope pos) 0 it acc { cenv with scope := relabel scope X.env }) (RR acc cenv.locals) s4) X.xe s3) X.xe s2) X.xe s1) X.xe s := by
  refine wpAny_mono (hi pins s σ H _ I hw) (fun xv s1 h1 => wpAny_mono h1 (fun itv s2 h2 => ?_) fun _ _ z => z) fun _ _ z => z
  obtain ⟨it, fp, tn, J, H1, rfl, I2, T, tn0, f2, hw2⟩ := h2
  have flt : ∀ b ∈ fp, b < s2.heap.objs.size := fun b hb => by
    obtain ⟨o, e, _⟩ := T.obj _ _ tn0 b hb
    exact Heap.lt_size e
  refine wpAny_newObj_type (wpAny_newFunctionEnv B.nocell (by intro y hy; simp at hy) (fun h3 hns hsb => ?_) B.kind)
  dsimp only at hns hsb ⊢
  generalize hP : s2.heap.push { cls := .type "list", dict := none, data := .seq ([] : List Value).toArray } = hp at hns hsb ⊢
  have hC : hp.objs.size = s2.heap.objs.size + 1 := by rw [← hP, Heap.size_push]
  have hlt : s2.heap.objs.size < hp.objs.size := by rw [hC]; exact Nat.lt_succ_self _
  have k3 : ∀ b o, s2.heap.get? b = some o → h3.get? b = some o := fun b o e => by
    have l := Heap.lt_size e
    refine hsb.extBut b o (Nat.ne_of_lt (Nat.lt_trans l hlt)) (Heap.get?_push_of_some _ (hP ▸ Heap.get?_push_of_some _ e))
  have hD : H1 s2.heap.objs.size = none := I2.hok.fresh (Nat.le_refl _)
  have hacc : h3.get? s2.heap.objs.size = some { cls := .type "list", dict := none, data := .seq ([] : List Value).toArray } := hsb.extBut _ _ (Nat.ne_of_lt hlt) (Heap.get?_push_of_some _ (hP ▸ Heap.get?_push_size _ rfl))
  obtain ⟨W, ⟨m0, w0⟩, turn⟩ := hw2 _ hD
  have un0 : Un (frs X.stack) fp H1 (upd H1 s2.heap.objs.size (.lst [])) s2.heap h3 := Un.laid k3 (Nat.le_refl _) hD
  have ok0 : HOk X.prog X.w (upd H1 s2.heap.objs.size (.lst [])) h3 := I2.hok.laid k3 (Nat.le_refl _) ⟨Nat.zero_le _, [], 0, .nil, hacc⟩
  have fC : upd H1 s2.heap.objs.size (.lst []) hp.objs.size = none := by rw [upd_ne (Nat.ne_of_gt hlt)]; exact I2.hok.fresh (Nat.le_of_lt hlt)
  have ltL := I2.lt
  have nL : hp.objs.size ≠ X.env.locals := Nat.ne_of_gt (Nat.lt_trans ltL hlt)
  have s0C : X.s₀.heap.objs.size ≤ hp.objs.size := Nat.le_trans I2.sz (Nat.le_of_lt hlt)
  have cC : ∀ x c, X.env.cells.lookup x = some c → c ≠ hp.objs.size := fun x c e z => by
    obtain ⟨v, o, ho, _⟩ := I2.cell x c e
    exact absurd (Nat.lt_trans (Heap.lt_size ho) hlt) (by rw [z]; exact Nat.lt_irrefl _)
  have pC : ∀ p ∈ X.pn ++ pins, p.1 ≠ hp.objs.size := fun p hp' z => by
    exact absurd (Nat.lt_trans (Heap.lt_size (I2.pin p hp').1) hlt) (by rw [z]; exact Nat.lt_irrefl _)
  have J0 := block_start (t' := s2.toks + ([] : List (Str × Value)).length) B I2 (fun b hb => ⟨f2 b hb, flt b hb⟩) (Nat.le_of_lt hlt) hns k3 un0 ok0 fC
  have fpX : ∀ {H' : Hp} {pl : List (Addr × Obj)}, (∀ b ∈ fp, H' b = none) → (∀ p ∈ pl, p.1 ∉ fp) → ∀ b ∈ fp, FpOk (X.block scope cl hp.objs.size (tg ++ fr.map (·.1)) fp pins s2 H1) pl H' b := fun hn hpl b hb => by
    obtain ⟨g0, g1, g2, g3, g4, g5⟩ := f2 b hb
    refine ⟨hn b hb, fun z => ?_, fun z => ?_, .inl hb, fun x c e => g4 x c (B.allin.get e), fun p hp' z => ?_⟩
    · have z' : b = hp.objs.size := z
      exact absurd (Nat.lt_trans (flt b hb) hlt) (by rw [z']; exact Nat.lt_irrefl _)
    · rcases List.mem_cons.mp (I2.stkSub b z) with q | q
      · exact g1 q
      · exact g2 q
    · rcases List.mem_append.mp hp' with q | q
      · exact g5 p q z
      · exact hpl p q (z ▸ hb)
  have loop : ∀ s3 : Shared, s3 = { s2 with heap := h3, toks := s2.toks + ([] : List (Str × Value)).length } →
      codeAny (model X.prog X.w) X.A (.compLoop (.ListComp elt [⟨target, iter, ifs, 0⟩] scope pos) 0 (.ref it) (.ref s2.heap.objs.size) (compEnvC scope cl hp.objs.size X.env)) (RR (.ref s2.heap.objs.size) hp.objs.size) s3 := by
    rintro s3 rfl
    refine comp_loop (fun n s' => ∃ i σ' ys H5, Inv (X.block scope cl hp.objs.size (tg ++ fr.map (·.1)) fp pins s2 H1) [] σ' H5 s' ∧ tn i s'.heap ∧ (∀ b ∈ fp, H5 b = none) ∧ W i n σ' ys H5) ?_ m0
      ⟨0, _, [], _, J0, T.keep _ _ _ tn0 fun b hb o e => k3 b o e, fun b hb => ?_, w0⟩
    · rintro n s' ⟨i, σ', ys, H5, J5, t5, f5, w5⟩
      rcases turn i n σ' ys H5 w5 with ⟨stop, q⟩ | ⟨go, step⟩
      · refine wpAny_mono (T.done (X.block scope cl hp.objs.size (tg ++ fr.map (·.1)) fp pins s2 H1) rfl rfl rfl hc i [] s' σ' H5 (fun _ _ => False) J5 (fpX f5 (by simp)) t5 stop) (fun r s6 ⟨hr, J6⟩ => ?_) fun _ _ z => z
        subst hr
        obtain ⟨m6, hn6, _⟩ := J6.loc
        exact hRR _ _ _ H5 m6 (I2.call' (ch := fp) J6.os J6.base J6.hok J6.bare fun b hb => by obtain ⟨g0, g1, g2, g3, g4, g5⟩ := f2 b hb; exact ⟨g3, g1, g4, g5⟩) hn6 J6.free nL s0C cC pC q
      · refine wpAny_mono (T.item (X.block scope cl hp.objs.size (tg ++ fr.map (·.1)) fp pins s2 H1) rfl rfl rfl hc i [] s' σ' H5 (fun _ _ => False) J5 (fpX f5 (by simp)) t5 go) (fun r s6 ⟨u, hr, h6⟩ => ?_) fun _ _ z => z
        subst hr
        refine wpAny_mono h6 (fun _ s7 ⟨x, H7, J7, r7, y7, t7, f7⟩ => ?_) fun _ _ z => z
        have J7' := J7.pinned (fpX f7 (by simp)) (T.obj _ _ t7)
        have again : ∀ {σ8 : St} {H8 : Hp} {s8 : Shared} {ys' : List V}, Inv (X.block scope cl hp.objs.size (tg ++ fr.map (·.1)) fp pins s2 H1) ([] ++ pinsAt fp s7.heap) σ8 H8 s8 → (∃ m', m' < n ∧ W (i + 1) m' σ8 ys' H8) →
            ∃ m', m' < n ∧ ∃ i σ' ys H5, Inv (X.block scope cl hp.objs.size (tg ++ fr.map (·.1)) fp pins s2 H1) [] σ' H5 s8 ∧ tn i s8.heap ∧ (∀ b ∈ fp, H5 b = none) ∧ W i m' σ' ys H5 := fun {σ8 H8 s8 ys'} J8 ⟨m', hm, w8⟩ => by
          refine ⟨m', hm, i + 1, σ8, ys', H8, J8.unpinned, T.keep _ _ _ t7 fun b hb o e => (J8.pin (b, o) (List.mem_append_right _ (List.mem_append_right _ (mem_pinsAt hb e)))).1, fun b hb => ?_, w8⟩
          obtain ⟨o, e, d⟩ := T.obj _ _ t7 b hb
          exact (J8.pin (b, o) (List.mem_append_right _ (List.mem_append_right _ (mem_pinsAt hb e)))).2.1
        refine wpAny_mono (hg _ _ _ _ _ _ s7 σ' H7 x u _ J7' r7 (step x H7 y7)) (fun _ s8 ⟨σ8, H8, J8, q8⟩ => ?_) fun _ _ z => z
        refine wpAny_mono (ht _ _ _ _ _ _ s8 σ8 H8 _ J8 q8) (fun b s9 ⟨H9, J9, q9⟩ => ?_) fun _ _ z => z
        cases b with
        | false =>
          rw [if_neg Bool.false_ne_true] at q9 ⊢
          exact again J9 q9
        | true =>
          rw [if_pos rfl] at q9 ⊢
          refine wpAny_mono (he _ _ _ _ _ _ s9 σ8 H9 _ J9 q9) (fun y s10 ⟨v, H10, J10, r10, ha10, hl10, q10⟩ => ?_) fun _ _ z => z
          refine wpAny_mono (mt_append (X := X.block scope cl hp.objs.size (tg ++ fr.map (·.1)) fp pins s2 H1) _ s10 σ8 H10 (.ref s2.heap.objs.size) [v] (.ref s2.heap.objs.size) [y] (fun _ H11 => ∃ m', m' < n ∧ W (i + 1) m' σ8 (ys ++ [v]) H11) J10 rfl (.cons r10 .nil) ⟨_, ys, v, rfl, rfl, ha10, hl10, q10⟩) (fun _ s11 ⟨_, H11, J11, _, q11⟩ => ?_) fun _ _ z => z
          exact again J11 q11
    · have l := flt b hb
      rw [upd_ne (Nat.ne_of_lt l)]; exact (f2 b hb).1
  exact codeAny_compStart_list (loop _ rfl) (T.self X.A 0 _ _ _ (T.keep _ _ _ tn0 fun b hb o e => k3 b o e) (loop _ rfl))
theorem pe_comp (B : BlockOk X scope cl tg fr) (hc : X.calm = true) (hi : PI X target iter wi)
    (hg : ∀ C fp pins s H, PG (X.block scope cl C (tg ++ fr.map (·.1)) fp pins s H) target g) (ht : ∀ C fp pins s H, PIfs (X.block scope cl C (tg ++ fr.map (·.1)) fp pins s H) ifs tt) (he : ∀ C fp pins s H, PE (X.block scope cl C (tg ++ fr.map (·.1)) fp pins s H) elt te)
    (hs : ∀ x, foldedSetIterable iter X.env x = pure x := by intro _; rfl) : PE X (.ListComp elt [⟨target, iter, ifs, 0⟩] scope pos) (tComp wi g tt te tg.length (fr.map (·.2))) := by
  intro pins s σ H Q I hw
  rw [eval_ListComp]
  refine wpAny_comprehension_free (use := none) rfl hs B.clos B.kind B.names (comp_core B hc hi hg ht he I hw (RR := fun acc C => compPost (model X.prog X.w) X.A X.xe none (EP X pins σ Q) acc C) fun D C s1 H5 m J hn f0 f1 f2 f3 f4 q => ?_)
  refine ⟨m, hn, fun h' sb => ⟨.ref D, H5, ?_, rfl, q⟩⟩
  exact J.turned (t' := s1.toks) (fun b o hb e => (sb.2 b hb).trans e) f0 f1 (.inr f2) f3 f4
theorem ps_setC {i : Nat} {y : Str} {py spos : Pos} (hN : X.N.Nodup) (hy : X.N[i]? = some y) (hl : Loc X.env.scope y) (B : BlockOk X scope cl tg fr) (hc : X.calm = true) (hi : PI X target iter wi)
    (hg : ∀ C fp pins s H, PG (X.block scope cl C (tg ++ fr.map (·.1)) fp pins s H) target g) (ht : ∀ C fp pins s H, PIfs (X.block scope cl C (tg ++ fr.map (·.1)) fp pins s H) ifs tt) (he : ∀ C fp pins s H, PE (X.block scope cl C (tg ++ fr.map (·.1)) fp pins s H) elt te)
    (hs : ∀ x, foldedSetIterable iter X.env x = pure x := by intro _; rfl) (hsw : swapsWith (.ListComp elt [⟨target, iter, ifs, 0⟩] scope pos) (some (.Name y py)) spos.line X.env = pure true := by rfl)
    (hf : X.fn y = true ∨ X.env.scope.names.lookup y = some .local := by first | exact .inl rfl | exact .inr rfl | assumption) :
    PS X (.Assign [.Name y py] (.ListComp elt [⟨target, iter, ifs, 0⟩] scope pos) spos) (tAsg (tComp wi g tt te tg.length (fr.map (·.2))) (gName i)) := by
  intro pins s σ H D I hw
  rw [exec_Assign_Name_used _ _ _ _ hsw]
  refine wpAny_bind (wpAny_standAt (wpAny_bind ?_))
  show wpAny _ _ (do let _ ← comprehension (.ListComp elt [⟨target, iter, ifs, 0⟩] scope pos) scope X.env _ (newList []) false (eval iter X.env) (some (assign (.Name y py) X.env))) _ _ s
  refine wpAny_bind (wpAny_mono (wpAny_comprehension_free (use := some (assign (.Name y py) X.env)) (Q := fun _ s' => SP X pins D .next s') rfl hs B.clos B.kind B.names
    (comp_core B hc hi hg ht he I hw (RR := fun acc C => compPost (model X.prog X.w) X.A X.xe (some (assign (.Name y py) X.env)) (fun _ s' => SP X pins D .next s') acc C) fun R C s1 H5 m J hn f0 f1 f2 f3 f4 q => ?_)) (fun _ s' hq => wpAny_pure (wpAny_pure hq)) fun _ _ z => z)
  show wpAny _ _ (assign (.Name y py) X.env (.ref R)) _ _ _
  refine wpAny_assign_Name (store_ok2 (v := .ref R) J hN hy hl rfl (fun s2 J2 ⟨a, sb, ha⟩ => ?_) hf)
  have na : C ≠ a := by
    rcases ha with z | z
    · rw [z]; exact f1
    · exact Ne.symm (f3 y a z)
  refine ⟨m, hn.sameBut sb na, fun h' sb' => ⟨_, H5, ?_, q⟩⟩
  exact J2.turned (t' := s2.toks) (fun b o hb e => (sb'.2 b hb).trans e) f0 f1 (.inr f2) f3 f4
end
end L2
end
section
set_option Elab.async false
set_option linter.all false
set_option maxRecDepth 100000
namespace L2
open PySem PySem.Spec PySem.W PySem.Calls PyProof.Rows
section
variable {X : Cx}
def rInsert : V → List V → Hp → VK → Prop := fun x vs H Q => ∃ l xs y, ∃ k : Nat, x = .ref l ∧ vs = [.int k, y] ∧ H l = some (.lst xs) ∧ k ≤ xs.length ∧ xs.length < sizeLine ∧ Q .non (upd H l (.lst (xs.take k ++ y :: xs.drop k)))
def rSorted (K : Frag) : List V → Hp → VK → Prop := fun vs H Q => ∃ (a : Addr) (ns : List Int), vs = [.ref a] ∧ SqL K H a (ns.map V.int) ∧ ns.length < 64 ∧ ∀ (ns' : List Int) p, ns'.Perm ns → ns'.Pairwise (· ≤ ·) → H p = none → Q (.ref p) (upd H p (.lst (ns'.map V.int)))
end
section
variable {X : Cx}
end
mutual
inductive Rds (H : Hp) : V → PyData → Prop where
  | int (i : Int) : Rds H (.int i) (.int i)
  | lst {a : Addr} {vs : List V} {ds : List PyData} : H a = some (.lst vs) → RdsAll H vs ds → Rds H (.ref a) (.list ds)
  | tup {a : Addr} {vs : List V} {ds : List PyData} : H a = some (.tup vs) → RdsAll H vs ds → Rds H (.ref a) (.tuple ds)
inductive RdsAll (H : Hp) : List V → List PyData → Prop where
  | nil : RdsAll H [] []
  | cons {v : V} {vs : List V} {d : PyData} {ds : List PyData} : Rds H v d → RdsAll H vs ds → RdsAll H (v :: vs) (d :: ds)
end
section
variable {X : Cx} {pins : List (Addr × Obj)} {σ : St} {H : Hp} {s : Shared}
mutual
theorem Rds.reads (I : Inv X pins σ H s) : ∀ {v : V} {d : PyData} {u : Value}, Rds H v d → RelV v u → ∃ as, Reads s.heap u d as
  | _, _, u, .int i, r => by
    obtain ⟨t, rfl⟩ := r
    exact ⟨_, .int i t⟩
  | _, _, u, .lst (a := a) (vs := vs) e h, r => by
    cases (show u = Value.ref a from r)
    obtain ⟨_, its, n, rv, g⟩ := (show ObjOk X.prog X.w H s.heap a (.lst vs) from I.hok a _ e)
    obtain ⟨as, ra⟩ := RdsAll.reads I h rv
    exact ⟨_, .list g rfl rfl (by simpa using ra)⟩
  | _, _, u, .tup (a := a) (vs := vs) e h, r => by
    cases (show u = Value.ref a from r)
    obtain ⟨_, its, rv, o, g, hc, n, hd⟩ := (show ObjOk X.prog X.w H s.heap a (.tup vs) from I.hok a _ e)
    obtain ⟨as, ra⟩ := RdsAll.reads I h rv
    exact ⟨_, .tuple g hc hd (by simpa using ra)⟩
theorem RdsAll.reads (I : Inv X pins σ H s) : ∀ {vs : List V} {ds : List PyData} {us : List Value}, RdsAll H vs ds → Vals vs us → ∃ as, ReadsAll s.heap us ds as
  | _, _, _, .nil, .nil => ⟨_, .nil⟩
  | _, _, _, .cons h t, .cons r q => by
    obtain ⟨as, ra⟩ := Rds.reads I h r
    obtain ⟨bs, rb⟩ := RdsAll.reads I t q
    exact ⟨_, .cons ra rb⟩
end
end
def rEqD (neg : Bool) : R2 := fun x y H Q => ∃ da db, Rds H x da ∧ Rds H y db ∧ SeqAt.shaped da = true ∧ SeqAt.shaped db = true ∧ Q (.bl (if neg then !PyData.eqv da db else PyData.eqv da db)) H
theorem op_eqD {X : Cx} (hu : X.A.units + 64 < cLine) : OpR X (compareOp .Eq) (rEqD false) := by
  intro pins s σ H x y v u Q I rx ry h
  obtain ⟨da, db, ra, rb, ha, hb, q⟩ := h
  obtain ⟨as, r1⟩ := Rds.reads I ra rx
  obtain ⟨bs, r2⟩ := Rds.reads I rb ry
  exact SeqAt.compareEq_shaped r1 r2 ha hb hu (fin_bl I q rfl)
theorem op_neD {X : Cx} (hu : X.A.units + 64 < cLine) : OpR X (compareOp .NotEq) (rEqD true) := by
  intro pins s σ H x y v u Q I rx ry h
  obtain ⟨da, db, ra, rb, ha, hb, q⟩ := h
  obtain ⟨as, r1⟩ := Rds.reads I ra rx
  obtain ⟨bs, r2⟩ := Rds.reads I rb ry
  exact SeqAt.compareNe_shaped r1 r2 ha hb hu (fin_bl I q rfl)
def dInts (l : List Int) : PyData := .list (l.map .int)
def dGrid (L : List (List Int)) : PyData := .list (L.map dInts)
def dPair (p : Int × Int) : PyData := .tuple [.int p.1, .int p.2]
def dPairs (L : List (Int × Int)) : PyData := .list (L.map dPair)
theorem eqv_prs : ∀ L M : List (Int × Int), PyData.eqvAll (L.map dPair) (M.map dPair) = decide (L = M)
  | [], [] => by simp [PyData.eqvAll]
  | [], _ :: _ => by simp [PyData.eqvAll]
  | _ :: _, [] => by simp [PyData.eqvAll]
  | (a, b) :: l, (c, d) :: m => by
    rw [List.map_cons, List.map_cons, PyData.eqvAll, eqv_prs l m]
    have e : PyData.eqv (dPair (a, b)) (dPair (c, d)) = (decide (a = c) && decide (b = d)) := by
      unfold dPair
      simp only [PyData.eqv, PyData.eqvAll, Bool.and_true]
      by_cases h1 : a = c <;> by_cases h2 : b = d <;> simp [h1, h2]
    rw [e]
    by_cases h1 : a = c <;> by_cases h2 : b = d <;> by_cases h3 : l = m <;> simp [h1, h2, h3]
theorem eqv_pairs (L M : List (Int × Int)) : PyData.eqv (dPairs L) (dPairs M) = decide (L = M) := by
  unfold dPairs; rw [PyData.eqv]; exact eqv_prs L M
end L2
end
section
set_option Elab.async false
set_option linter.all false
set_option maxRecDepth 100000
namespace L2
open PySem PySem.Spec PySem.W PySem.Calls PyProof.Rows
theorem bt_min : bootBuiltins "min" = some (.builtin "min") := by decide +kernel
theorem cfp_big {i j : Int} (h1 : 0 < j) (h2 : j < 2 ^ 250) : CFp i j := ⟨h1, Sz.mono (m := 250) (by unfold Sz; omega) (by decide)⟩
theorem nth_int {ns : List Int} {k : Int} (h0 : 0 ≤ k) (h1 : k < ns.length) : ∃ n, atI (ns.map V.int) k = some (V.int n) := by
  obtain ⟨j, rfl⟩ := Int.eq_ofNat_of_zero_le h0
  have hj : j < ns.length := by omega
  exact ⟨ns[j], atI_nat (by simp [hj])⟩
end L2
end
section
set_option Elab.async false
set_option linter.all false
set_option maxRecDepth 100000
namespace L2
open PySem PySem.Spec PySem.W PySem.Calls PyProof.Rows
theorem fm_nil {α : Type} {p : α → Prop} : ∀ x ∈ ([] : List α), p x := fun _ h => by cases h
theorem fm_cons {α : Type} {p : α → Prop} {a : α} {l : List α} (h : p a) (t : ∀ x ∈ l, p x) : ∀ x ∈ a :: l, p x := List.forall_mem_cons.mpr ⟨h, t⟩
end L2
namespace L2
open PySem PySem.Spec PySem.W PySem.Calls PyProof.Rows
section
variable {σ : St} {H : Hp} {Q : VK} {D : Ends} {K : Frag}
theorem r_bm {T : String} {r : V → List V → Hp → VK → Prop} {to : TE} {t : TA} (h : to σ H fun x H1 => tyV K T x H1 ∧ t σ H1 fun xs H2 => r x xs H2 Q) : tBM K T r to t σ H Q := h
theorem r_true {R : Bool → Hp → Prop} (h : R true H) : tTrue σ H R := h
theorem r_append {l : Addr} {xs : List V} {y : V} (h : H l = some (.lst xs)) (hl : xs.length < sizeLine) (q : Q .non (upd H l (.lst (xs ++ [y])))) : rAppend (.ref l) [y] H Q := ⟨l, xs, y, rfl, rfl, h, hl, q⟩
theorem cturn {n i : Nat} {A : Prop} (hi : i < n) (h : A) : ∃ m', m' < n - i ∧ (m' = n - (i + 1) ∧ i + 1 ≤ n ∧ A) := ⟨_, by omega, rfl, hi, h⟩
theorem comp_range {R : Hp → Prop} {acc : Addr} {lo : Int} {n : Nat} {g : TG} {tt : TT} {te : TE} (Pv : Nat → St → List V → Hp → Prop) (h0 : Pv 0 σ [] H)
    (hs : ∀ i σ ys H, i < n → Pv i σ ys H → g (.int (lo + i)) σ H fun σ2 H4 => tt σ2 H4 fun b H5 => if b = true then te σ2 H5 fun y H6 => H6 acc = some (.lst ys) ∧ ys.length < sizeLine ∧ ∃ m', m' < n - i ∧ (m' = n - (i + 1) ∧ i + 1 ≤ n ∧ Pv (i + 1) σ2 (ys ++ [y]) (upd H6 acc (.lst (ys ++ [y])))) else ∃ m', m' < n - i ∧ (m' = n - (i + 1) ∧ i + 1 ≤ n ∧ Pv (i + 1) σ2 ys H5))
    (hd : ∀ σ ys H, Pv n σ ys H → R H) :
    ∃ W : Nat → Nat → St → List V → Hp → Prop, (∃ m, W 0 m σ [] H) ∧ ∀ i m σ' ys H2, W i m σ' ys H2 → (((Itr lo n).stop i H2 ∧ R H2) ∨ ((Itr lo n).go i H2 ∧ ∀ x H3, (Itr lo n).yld i H2 x H3 → g x σ' H3 fun σ2 H4 => tt σ2 H4 fun b H5 =>
      if b = true then te σ2 H5 fun y H6 => H6 acc = some (.lst ys) ∧ ys.length < sizeLine ∧ ∃ m', m' < m ∧ W (i + 1) m' σ2 (ys ++ [y]) (upd H6 acc (.lst (ys ++ [y]))) else ∃ m', m' < m ∧ W (i + 1) m' σ2 ys H5)) := by
  refine ⟨fun i m σ ys H => m = n - i ∧ i ≤ n ∧ Pv i σ ys H, ⟨n, by simp, Nat.zero_le _, h0⟩, ?_⟩
  rintro i m σ ys H ⟨rfl, hi, p⟩
  by_cases hlt : i < n
  · refine .inr ⟨hlt, fun x H' y => ?_⟩
    obtain ⟨e, y⟩ := y
    subst e y
    exact hs i σ ys _ hlt p
  · have e : i = n := by omega
    subst e
    exact .inl ⟨Nat.le_refl _, hd σ ys H p⟩
theorem comp_list {R : Hp → Prop} {acc a : Addr} {xs : List V} {g : TG} {tt : TT} {te : TE} (Pv : Nat → St → List V → Hp → Prop) (h0 : Pv 0 σ [] H) (hl : ∀ i σ ys H, i ≤ xs.length → Pv i σ ys H → SqL K H a xs)
    (hs : ∀ i x σ ys H, xs[i]? = some x → i < xs.length → Pv i σ ys H → g x σ H fun σ2 H4 => tt σ2 H4 fun b H5 => if b = true then te σ2 H5 fun y H6 => H6 acc = some (.lst ys) ∧ ys.length < sizeLine ∧ ∃ m', m' < xs.length - i ∧ (m' = xs.length - (i + 1) ∧ i + 1 ≤ xs.length ∧ Pv (i + 1) σ2 (ys ++ [y]) (upd H6 acc (.lst (ys ++ [y])))) else ∃ m', m' < xs.length - i ∧ (m' = xs.length - (i + 1) ∧ i + 1 ≤ xs.length ∧ Pv (i + 1) σ2 ys H5))
    (hd : ∀ σ ys H, Pv xs.length σ ys H → R H) :
    ∃ W : Nat → Nat → St → List V → Hp → Prop, (∃ m, W 0 m σ [] H) ∧ ∀ i m σ' ys H2, W i m σ' ys H2 → (((Itl K a).stop i H2 ∧ R H2) ∨ ((Itl K a).go i H2 ∧ ∀ x H3, (Itl K a).yld i H2 x H3 → g x σ' H3 fun σ2 H4 => tt σ2 H4 fun b H5 =>
      if b = true then te σ2 H5 fun y H6 => H6 acc = some (.lst ys) ∧ ys.length < sizeLine ∧ ∃ m', m' < m ∧ W (i + 1) m' σ2 (ys ++ [y]) (upd H6 acc (.lst (ys ++ [y]))) else ∃ m', m' < m ∧ W (i + 1) m' σ2 ys H5)) := by
  refine ⟨fun i m σ ys H => m = xs.length - i ∧ i ≤ xs.length ∧ Pv i σ ys H, ⟨xs.length, by simp, Nat.zero_le _, h0⟩, ?_⟩
  rintro i m σ ys H ⟨rfl, hi, p⟩
  have q := hl i σ ys H hi p
  by_cases hlt : i < xs.length
  · refine .inr ⟨⟨xs, xs[i], q, by simp [hlt]⟩, fun x H' y => ?_⟩
    obtain ⟨e, y⟩ := y
    subst e
    exact hs i x σ ys _ (y xs q) hlt p
  · have e : i = xs.length := by omega
    subst e
    exact .inl ⟨⟨xs, q, Nat.le_refl _⟩, hd σ ys H p⟩
theorem r_comp {wi : TI} {g : TG} {tt : TT} {te : TE} {n : Nat} {fr : List Nat} (h : wi σ H fun J H1 => ∀ acc, H1 acc = none → ∃ W : Nat → Nat → St → List V → Hp → Prop, (∃ m, W 0 m (blockSt n fr σ) [] (upd H1 acc (.lst []))) ∧
  ∀ i m σ' ys H2, W i m σ' ys H2 → ((J.stop i H2 ∧ Q (.ref acc) H2) ∨ (J.go i H2 ∧ ∀ x H3, J.yld i H2 x H3 → g x σ' H3 fun σ2 H4 => tt σ2 H4 fun b H5 =>
    if b = true then te σ2 H5 fun y H6 => H6 acc = some (.lst ys) ∧ ys.length < sizeLine ∧ ∃ m', m' < m ∧ W (i + 1) m' σ2 (ys ++ [y]) (upd H6 acc (.lst (ys ++ [y]))) else ∃ m', m' < m ∧ W (i + 1) m' σ2 ys H5))) : tComp wi g tt te n fr σ H Q := h
end
end L2
end
section
set_option Elab.async false
set_option linter.all false
set_option maxRecDepth 100000
namespace Gm
open PySem L2
def put (l : List Int) (k : Nat) (x : Int) : List Int := l.take k ++ x :: l.drop k
theorem put_perm (l : List Int) (k : Nat) (x : Int) : (put l k x).Perm (x :: l) := by
  unfold put
  refine List.perm_middle.trans ?_
  rw [List.take_append_drop]
theorem mem_put {l : List Int} {k : Nat} {x y : Int} : y ∈ put l k x ↔ y = x ∨ y ∈ l := by rw [(put_perm l k x).mem_iff, List.mem_cons]
theorem nodup_put {l : List Int} {k : Nat} {x : Int} (h : x ∉ l) (n : l.Nodup) : (put l k x).Nodup := (put_perm l k x).nodup_iff.mpr (List.nodup_cons.mpr ⟨h, n⟩)
structure IsMap (L : List (List Int)) : Prop where
  nd : ∀ (i : Nat) (l : List Int), L[i]? = some l → l.Nodup
  rg : ∀ (i : Nat) (l : List Int), L[i]? = some l → ∀ x ∈ l, 0 ≤ x ∧ x < L.length ∧ x ≠ i
  sy : ∀ (i : Nat) (l : List Int), L[i]? = some l → ∀ x ∈ l, ∀ j : Nat, x = j → ∀ m, L[j]? = some m → (i : Int) ∈ m
structure Made (n one other : Nat) (L : List (List Int)) : Prop where
  len : L.length = n
  map : IsMap L
  bd : ∀ (i : Nat) (l : List Int), L[i]? = some l → ∀ x ∈ l, (i < one ∧ x < one) ∨ (i = one ∧ x < other) ∨ (x = one ∧ i < other)
theorem Made.next {n one : Nat} {L : List (List Int)} (h : Made n one one L) : Made n (one + 1) 0 L :=
  ⟨h.len, h.map, fun i l e x hx => by have := h.bd i l e x hx; omega⟩
theorem Made.start {n : Nat} {L : List (List Int)} (h : L.length = n) (e : ∀ (i : Nat) (l : List Int), L[i]? = some l → l = []) : Made n 0 0 L := by
  refine ⟨h, ⟨fun i l q => by rw [e i l q]; exact List.nodup_nil, fun i l q x hx => ?_, fun i l q x hx => ?_⟩, fun i l q x hx => ?_⟩ <;> (rw [e i l q] at hx; cases hx)
theorem set2 {L : List (List Int)} {a b i : Nat} {x y l : List Int} (h : ((L.set a x).set b y)[i]? = some l) : (i = b ∧ l = y) ∨ (i ≠ b ∧ i = a ∧ l = x) ∨ (i ≠ b ∧ i ≠ a ∧ L[i]? = some l) := by
  by_cases hb : i = b
  · subst hb
    rw [List.getElem?_set] at h
    rw [if_pos rfl] at h
    split at h
    · exact .inl ⟨rfl, (Option.some.inj h).symm⟩
    · cases h
  · rw [List.getElem?_set_ne (fun z => hb z.symm)] at h
    by_cases ha : i = a
    · subst ha
      rw [List.getElem?_set, if_pos rfl] at h
      split at h
      · exact .inr (.inl ⟨hb, rfl, (Option.some.inj h).symm⟩)
      · cases h
    · rw [List.getElem?_set_ne (fun z => ha z.symm)] at h
      exact .inr (.inr ⟨hb, ha, h⟩)
theorem Made.step {n one other k1 k2 : Nat} {L : List (List Int)} {l1 l2 : List Int} (h : Made n one other L) (ho : other < one) (hn : one < n) (e1 : L[one]? = some l1) (e2 : L[other]? = some l2) :
    Made n one (other + 1) ((L.set one (put l1 k1 other)).set other (put l2 k2 one)) := by
  have n1 : (other : Int) ∉ l1 := fun z => by have := h.bd _ _ e1 _ z; omega
  have n2 : (one : Int) ∉ l2 := fun z => by have := h.bd _ _ e2 _ z; omega
  have hl := h.len
  refine ⟨by rw [List.length_set, List.length_set]; exact hl, ⟨fun i l e => ?_, fun i l e x hx => ?_, fun i l e x hx j hj m em => ?_⟩, fun i l e x hx => ?_⟩
  · rcases set2 e with ⟨_, rfl⟩ | ⟨_, _, rfl⟩ | ⟨_, _, q⟩
    · exact nodup_put n2 (h.map.nd _ _ e2)
    · exact nodup_put n1 (h.map.nd _ _ e1)
    · exact h.map.nd _ _ q
  · rw [List.length_set, List.length_set]
    rcases set2 e with ⟨rfl, rfl⟩ | ⟨_, rfl, rfl⟩ | ⟨_, _, q⟩
    · rcases mem_put.mp hx with z | z
      · omega
      · exact h.map.rg _ _ e2 _ z
    · rcases mem_put.mp hx with z | z
      · omega
      · exact h.map.rg _ _ e1 _ z
    · exact h.map.rg _ _ q _ hx
  · rcases set2 e with ⟨rfl, rfl⟩ | ⟨hb, rfl, rfl⟩ | ⟨hb, ha, q⟩
    · rcases set2 em with ⟨rfl, rfl⟩ | ⟨jb, rfl, rfl⟩ | ⟨jb, ja, qm⟩
      · rcases mem_put.mp hx with z | z
        · omega
        · have := h.map.rg _ _ e2 _ z; omega
      · exact mem_put.mpr (.inl rfl)
      · rcases mem_put.mp hx with z | z
        · omega
        · exact h.map.sy _ _ e2 _ z _ hj _ qm
    · rcases set2 em with ⟨rfl, rfl⟩ | ⟨jb, rfl, rfl⟩ | ⟨jb, ja, qm⟩
      · exact mem_put.mpr (.inl rfl)
      · rcases mem_put.mp hx with z | z
        · omega
        · have := h.map.rg _ _ e1 _ z; omega
      · rcases mem_put.mp hx with z | z
        · omega
        · exact h.map.sy _ _ e1 _ z _ hj _ qm
    · rcases set2 em with ⟨rfl, rfl⟩ | ⟨jb, rfl, rfl⟩ | ⟨jb, ja, qm⟩
      · exact mem_put.mpr (.inr (h.map.sy _ _ q _ hx _ hj _ e2))
      · exact mem_put.mpr (.inr (h.map.sy _ _ q _ hx _ hj _ e1))
      · exact h.map.sy _ _ q _ hx _ hj _ qm
  · rcases set2 e with ⟨rfl, rfl⟩ | ⟨_, rfl, rfl⟩ | ⟨_, _, q⟩
    · rcases mem_put.mp hx with z | z
      · omega
      · have := h.bd _ _ e2 _ z; omega
    · rcases mem_put.mp hx with z | z
      · omega
      · have := h.bd _ _ e1 _ z; omega
    · have := h.bd _ _ q _ hx; omega
structure Grid (H : Hp) (p : Addr) (as : List Addr) (L : List (List Int)) : Prop where
  top : H p = some (.lst (as.map V.ref))
  len : as.length = L.length
  row : ∀ (i : Nat) (a : Addr) (l : List Int), as[i]? = some a → L[i]? = some l → H a = some (.lst (l.map V.int))
section
variable {H H' : Hp} {p : Addr} {as : List Addr} {L : List (List Int)}
theorem Grid.at (g : Grid H p as L) {i : Nat} (hi : i < L.length) : ∃ a l, as[i]? = some a ∧ L[i]? = some l ∧ H a = some (.lst (l.map V.int)) := by
  have h2 : i < as.length := by rw [g.len]; exact hi
  exact ⟨as[i], L[i], by simp [h2], by simp [hi], g.row i _ _ (by simp [h2]) (by simp [hi])⟩
theorem Grid.same (g : Grid H p as L) (e : Same H H') : Grid H' p as L := ⟨e _ _ g.top, g.len, fun i a l h1 h2 => e _ _ (g.row i a l h1 h2)⟩
theorem Grid.set (g : Grid H p as L) (nd : (p :: as).Nodup) {i : Nat} {a : Addr} {l' : List Int} (hi : as[i]? = some a) : Grid (upd H a (.lst (l'.map V.int))) p as (L.set i l') := by
  have hp : p ≠ a := fun z => (List.nodup_cons.mp nd).1 (z ▸ List.mem_of_getElem? hi)
  refine ⟨by rw [upd_ne hp]; exact g.top, by rw [List.length_set]; exact g.len, fun j b l h1 h2 => ?_⟩
  by_cases hj : j = i
  · subst hj
    rw [hi] at h1
    cases h1
    rw [List.getElem?_set, if_pos rfl] at h2
    split at h2
    · cases h2; exact upd_same
    · cases h2
  · rw [List.getElem?_set_ne (fun z => hj z.symm)] at h2
    have hb : b ≠ a := fun z => by
      subst z
      obtain ⟨q1, w1⟩ := List.getElem?_eq_some_iff.mp h1
      obtain ⟨q2, w2⟩ := List.getElem?_eq_some_iff.mp hi
      exact hj ((List.getElem_inj (List.nodup_cons.mp nd).2).mp (w1.trans w2.symm))
    rw [upd_ne hb]
    exact g.row j b l h1 h2
theorem Grid.ix (g : Grid H p as L) {i : Nat} {a : Addr} (hi : as[i]? = some a) : atI (as.map V.ref) (i : Int) = some (V.ref a) := atI_nat (by rw [List.getElem?_map, hi]; rfl)
end
theorem Same.fresh {H H' : Hp} {a : Addr} {o : HO} (e : Same H H') (h : H a = none) : Same H (upd H' a o) := fun b u q => by rw [upd_ne (fun z => by rw [z, h] at q; cases q)]; exact e b u q
inductive Reach (L : List (List Int)) (s : Int) : Int → Prop where
  | here : Reach L s s
  | step {i : Nat} {l : List Int} {x : Int} : Reach L s i → L[i]? = some l → x ∈ l → Reach L s x
theorem len_le {α : Type} [BEq α] [LawfulBEq α] : ∀ {l r : List α}, l.Nodup → (∀ x ∈ l, x ∈ r) → l.length ≤ r.length
  | [], _, _, _ => Nat.zero_le _
  | x :: l, r, n, h => by
    have hx : x ∈ r := h x List.mem_cons_self
    have n2 := List.nodup_cons.mp n
    have ih := len_le (r := r.erase x) n2.2 fun y hy => by
      have ne : y ≠ x := fun z => n2.1 (z ▸ hy)
      exact (List.mem_erase_of_ne ne).mpr (h y (List.mem_cons_of_mem _ hy))
    rw [List.length_erase_of_mem hx] at ih
    have := List.length_pos_of_mem hx
    rw [List.length_cons]; omega
theorem len_range {n : Nat} {l : List Int} (h : l.Nodup) (r : ∀ x ∈ l, 0 ≤ x ∧ x < n) : l.length ≤ n := by
  have := len_le (r := (List.range n).map fun i : Nat => (i : Int)) h fun x hx => by
    have := r x hx
    exact List.mem_map.mpr ⟨x.toNat, List.mem_range.mpr (by omega), by omega⟩
  simpa using this
theorem len_eq {α : Type} [BEq α] [LawfulBEq α] {l r : List α} (h1 : l.Nodup) (h2 : r.Nodup) (h : ∀ x, x ∈ l ↔ x ∈ r) : l.length = r.length :=
  Nat.le_antisymm (len_le h1 fun x => (h x).mp) (len_le h2 fun x => (h x).mpr)
theorem Reach.rg {L : List (List Int)} {s x : Int} (h : Reach L s x) (m : IsMap L) (hs : 0 ≤ s ∧ s < L.length) : 0 ≤ x ∧ x < L.length := by
  cases h with
  | here => exact hs
  | step _ e hx => have := m.rg _ _ e _ hx; exact ⟨this.1, this.2.1⟩
end Gm
namespace Gm
open PySem L2
theorem Made.small {n i j : Nat} {L : List (List Int)} (m : Made n i j L) {k : Nat} {l : List Int} (h : L[k]? = some l) : l.length ≤ n :=
  len_range (m.map.nd _ _ h) fun x hx => by have := m.map.rg _ _ h _ hx; have := m.len; omega
theorem small_line {n : Nat} (h : n ≤ 1000) : n < sizeLine := by rw [PySem.sizeLine_eq]; omega
end Gm
end
section
set_option Elab.async false
set_option linter.all false
set_option maxRecDepth 100000
namespace Gm
open PySem L2
def rowF (i : Nat) (l : List Int) : Nat → List Int
  | 0 => []
  | j + 1 => rowF i l j ++ (if ((i + 1 + j : Nat) : Int) ∈ l then [((i + 1 + j : Nat) : Int)] else [])
def dueF (L : List (List Int)) : Nat → List (Int × Int)
  | 0 => []
  | k + 1 => dueF L k ++ (rowF k (L.getD k []) (L.length - (k + 1))).map fun x => ((k : Int), x)
theorem mem_rowF {i : Nat} {l : List Int} : ∀ {j : Nat} {x : Int}, x ∈ rowF i l j ↔ (i : Int) < x ∧ x < (i + 1 + j : Nat) ∧ x ∈ l
  | 0, x => by simp only [rowF, List.not_mem_nil, false_iff]; intro h; omega
  | j + 1, x => by
    rw [rowF, List.mem_append, mem_rowF]
    by_cases h : ((i + 1 + j : Nat) : Int) ∈ l
    · rw [if_pos h, List.mem_singleton]
      constructor
      · rintro (⟨h1, h2, h3⟩ | rfl)
        · exact ⟨h1, by omega, h3⟩
        · exact ⟨by omega, by omega, h⟩
      · rintro ⟨h1, h2, h3⟩
        by_cases e : x = ((i + 1 + j : Nat) : Int)
        · exact .inr e
        · exact .inl ⟨h1, by omega, h3⟩
    · rw [if_neg h]
      simp only [List.not_mem_nil, or_false]
      constructor
      · rintro ⟨h1, h2, h3⟩
        exact ⟨h1, by omega, h3⟩
      · rintro ⟨h1, h2, h3⟩
        have : x ≠ ((i + 1 + j : Nat) : Int) := fun z => h (z ▸ h3)
        exact ⟨h1, by omega, h3⟩
theorem sorted_rowF {i : Nat} {l : List Int} : ∀ j, (rowF i l j).Pairwise (· < ·)
  | 0 => .nil
  | j + 1 => by
    rw [rowF, List.pairwise_append]
    refine ⟨sorted_rowF j, by split <;> simp, fun a ha b hb => ?_⟩
    have := mem_rowF.mp ha
    split at hb
    · rw [List.mem_singleton] at hb; omega
    · cases hb
theorem strict {l : List Int} (h : l.Pairwise (· ≤ ·)) (n : l.Nodup) : l.Pairwise (· < ·) := by
  have := h.and n
  exact this.imp fun ⟨x, y⟩ => by omega
abbrev PR (H : Hp) : List Addr → List (Int × Int) → Prop := Paired fun a x => H a = some (.tup [.int x.1, .int x.2])
theorem PR.lst {H : Hp} {t : Addr} {xs zs : List V} {ps : List Addr} {T : List (Int × Int)} (h : PR H ps T) (ht : H t = some (.lst xs)) : PR (upd H t (.lst zs)) ps T :=
  Paired.mapP h fun a x e => by
    rw [upd_ne (fun z => by rw [z, ht] at e; cases e)]; exact e
theorem PR.same {H H' : Hp} {ps : List Addr} {T : List (Int × Int)} (h : PR H ps T) (e : Same H H') : PR H' ps T := Paired.mapP h fun a x q => e _ _ q
theorem PR.app {H : Hp} : ∀ {ps qs : List Addr} {T U : List (Int × Int)}, PR H ps T → PR H qs U → PR H (ps ++ qs) (T ++ U)
  | _, _, _, _, .nil, h => h
  | _, _, _, _, .cons r t, h => .cons r (PR.app t h)
theorem PR.len {H : Hp} {ps : List Addr} {T : List (Int × Int)} (h : PR H ps T) : ps.length = T.length := Paired.length h
theorem PR.get {H : Hp} : ∀ {ps : List Addr} {T : List (Int × Int)}, PR H ps T → ∀ {i : Nat} {a : Addr}, ps[i]? = some a → ∃ x : Int × Int, H a = some (.tup [.int x.1, .int x.2])
  | _, _, .nil, _, _, e => by simp at e
  | _, _, .cons r t, 0, _, e => by simp at e; subst e; exact ⟨_, r⟩
  | _, _, .cons r t, i + 1, _, e => PR.get t (by simpa using e)
end Gm
end
section
set_option Elab.async false
set_option linter.all false
set_option maxRecDepth 100000
namespace Gm
open PySem L2
structure Fl (L : List (List Int)) (s : Int) (ks ws : List Int) : Prop where
  nd : ks.Nodup
  nw : ws.Nodup
  st : s ∈ ks
  re : ∀ x ∈ ks, Reach L s x
  sub : ∀ x ∈ ws, x ∈ ks
  cl : ∀ (i : Nat) (l : List Int), (i : Int) ∈ ks → (i : Int) ∉ ws → L[i]? = some l → ∀ x ∈ l, x ∈ ks
structure Fi (L : List (List Int)) (s : Int) (ks ws : List Int) (pl : Nat) (l : List Int) (k : Nat) : Prop where
  nd : ks.Nodup
  nw : ws.Nodup
  st : s ∈ ks
  re : ∀ x ∈ ks, Reach L s x
  sub : ∀ x ∈ ws, x ∈ ks
  pk : (pl : Int) ∈ ks
  cl : ∀ (i : Nat) (m : List Int), (i : Int) ∈ ks → (i : Int) ∉ ws → i ≠ pl → L[i]? = some m → ∀ x ∈ m, x ∈ ks
  tk : ∀ x ∈ l.take k, x ∈ ks
section
variable {L : List (List Int)} {s : Int} {ks ws : List Int} {pl k : Nat} {l : List Int} {x : Int}
theorem Fl.start : Fl L s [s] [s] := ⟨by simp, by simp, by simp, fun x h => by rw [List.mem_singleton.mp h]; exact .here, fun x h => h, fun i l h1 h2 => absurd h1 h2⟩
theorem snoc_nd {l : List Int} {x : Int} : (l ++ [x]).Nodup ↔ x ∉ l ∧ l.Nodup := by
  rw [(List.perm_append_singleton x l).nodup_iff, List.nodup_cons]
theorem take_mem {l : List Int} {k : Nat} {x y : Int} (h : l[k]? = some x) (hy : y ∈ l.take (k + 1)) : y ∈ l.take k ∨ y = x := by
  rw [List.take_succ, h] at hy
  simpa using hy
theorem Fi.add (h : Fi L s ks ws pl l k) (e : l[k]? = some x) (n : x ∉ ks) (hl : L[pl]? = some l) : Fi L s (ks ++ [x]) (ws ++ [x]) pl l (k + 1) := by
  refine ⟨snoc_nd.mpr ⟨n, h.nd⟩, snoc_nd.mpr ⟨fun z => n (h.sub _ z), h.nw⟩, List.mem_append_left _ h.st, fun y hy => ?_, fun y hy => ?_, List.mem_append_left _ h.pk, fun i m h1 h2 h3 h4 y hy => ?_, fun y hy => ?_⟩
  · rcases List.mem_append.mp hy with z | z
    · exact h.re y z
    · rw [List.mem_singleton.mp z]; exact .step (h.re _ h.pk) hl (List.mem_of_getElem? e)
  · rcases List.mem_append.mp hy with z | z
    · exact List.mem_append_left _ (h.sub y z)
    · exact List.mem_append_right _ z
  · refine List.mem_append_left _ (h.cl i m ?_ (fun z => h2 (List.mem_append_left _ z)) h3 h4 y hy)
    rcases List.mem_append.mp h1 with z | z
    · exact z
    · exact absurd (List.mem_append_right _ z) h2
  · rcases take_mem e hy with z | z
    · exact List.mem_append_left _ (h.tk y z)
    · rw [z]; exact List.mem_append_right _ (by simp)
theorem Fi.done (h : Fi L s ks ws pl l l.length) (hl : L[pl]? = some l) : Fl L s ks ws :=
  ⟨h.nd, h.nw, h.st, h.re, h.sub, fun i m h1 h2 h3 x hx => by
    by_cases e : i = pl
    · subst e
      rw [hl] at h3
      cases h3
      exact h.tk x (by rw [List.take_length]; exact hx)
    · exact h.cl i m h1 h2 e h3 x hx⟩
theorem Fl.all (h : Fl L s ks []) (x : Int) : x ∈ ks ↔ Reach L s x := by
  refine ⟨h.re x, fun r => ?_⟩
  induction r with
  | here => exact h.st
  | step _ e hx ih => exact h.cl _ _ ih (by simp) e _ hx
theorem Fl.len (m : IsMap L) (hs : 0 ≤ s ∧ s < L.length) {ks : List Int} (nd : ks.Nodup) (re : ∀ x ∈ ks, Reach L s x) : ks.length ≤ L.length := len_range nd fun x hx => (re x hx).rg m hs
end
def Clo (L : List (List Int)) (fs : List Int) : Prop := ∀ (i : Nat) (l : List Int), L[i]? = some l → (∃ x, x ∈ l ∧ x ∈ fs) → (i : Int) ∈ fs
structure Pa (L : List (List Int)) (fs : List Int) (k : Nat) : Prop where
  nd : fs.Nodup
  st : (0 : Int) ∈ fs
  re : ∀ x ∈ fs, Reach L 0 x
  gr : Clo L fs ∨ k + 1 ≤ fs.length
structure Pi (L : List (List Int)) (fs0 fs : List Int) (j : Nat) : Prop where
  nd : fs.Nodup
  st : (0 : Int) ∈ fs
  re : ∀ x ∈ fs, Reach L 0 x
  kp : Clo L fs0 → fs = fs0
  gr : fs0.length < fs.length ∨ (fs = fs0 ∧ ∀ (i : Nat) (l : List Int), i < j → L[i]? = some l → (∃ x, x ∈ l ∧ x ∈ fs) → (i : Int) ∈ fs)
section
variable {L : List (List Int)} {fs0 fs : List Int} {j k : Nat} {l : List Int}
theorem Pa.start : Pa L [0] 0 := ⟨by simp, by simp, fun x h => by rw [List.mem_singleton.mp h]; exact .here, .inr (by simp)⟩
theorem Pi.done (h : Pi L fs0 fs L.length) (h0 : Pa L fs0 k) : Pa L fs (k + 1) := by
  refine ⟨h.nd, h.st, h.re, ?_⟩
  rcases h.gr with z | ⟨rfl, z⟩
  · rcases h0.gr with c | c
    · rw [h.kp c]; exact .inl c
    · exact .inr (by omega)
  · exact .inl fun i l e => z i l (List.getElem?_eq_some_iff.mp e).1 e
theorem Pi.add (h : Pi L fs0 fs j) (m : IsMap L) (hl : L[j]? = some l) (n : (j : Int) ∉ fs) {x : Int} (hx : x ∈ l) (hf : x ∈ fs) : Pi L fs0 (fs ++ [(j : Int)]) (j + 1) := by
  have hr := m.rg _ _ hl x hx
  have rj : Reach L 0 (j : Int) := by
    have hxn : x = (x.toNat : Int) := by omega
    obtain ⟨lx, hlx⟩ : ∃ lx, L[x.toNat]? = some lx := ⟨L[x.toNat]'(by omega), by simp⟩
    exact .step (i := x.toNat) (by rw [← hxn]; exact h.re x hf) hlx (m.sy _ _ hl x hx _ hxn _ hlx)
  refine ⟨snoc_nd.mpr ⟨n, h.nd⟩, List.mem_append_left _ h.st, fun y hy => ?_, fun c => ?_, .inl ?_⟩
  · rcases List.mem_append.mp hy with z | z
    · exact h.re y z
    · rw [List.mem_singleton.mp z]; exact rj
  · have e := h.kp c
    subst e
    exact absurd (c j l hl ⟨x, hx, hf⟩) n
  · rw [List.length_append]
    rcases h.gr with z | ⟨z, _⟩
    · simp; omega
    · rw [z]; simp
theorem Pa.all (h : Pa L fs L.length) (m : IsMap L) (hn : 0 < L.length) (x : Int) : x ∈ fs ↔ Reach L 0 x := by
  have c : Clo L fs := by
    rcases h.gr with z | z
    · exact z
    · have := Fl.len m ⟨Int.le_refl 0, by omega⟩ h.nd h.re
      omega
  refine ⟨h.re x, fun r => ?_⟩
  induction r with
  | here => exact h.st
  | step r e hx ih =>
    rename_i i l y
    have hr := m.rg _ _ e y hx
    have hyn : y = (y.toNat : Int) := by omega
    obtain ⟨ly, hly⟩ : ∃ ly, L[y.toNat]? = some ly := ⟨L[y.toNat]'(by omega), by simp⟩
    rw [hyn]
    exact c y.toNat ly hly ⟨_, m.sy _ _ e y hx _ hyn _ hly, ih⟩
end
end Gm
namespace Gm
open PySem L2
end Gm
end
section
set_option Elab.async false
set_option linter.all false
set_option maxRecDepth 100000
namespace L2
open PySem PySem.Spec PySem.W PySem.Calls PyProof.Rows
section
variable {X : Cx} {K : Frag}
theorem ix_listK (h : X.K = K) : IxR X (rIxL K) := h ▸ ix_list
theorem ix_tupK (h : X.K = K) : IxR X (rIxT K) := h ▸ ix_tup
theorem call_list_ofK (h : X.K = K) : CallR X (.type "list") (fun xs H Q => ∃ p ys, xs = [.ref p] ∧ (SqL K H p ys ∨ SqT K H p ys) ∧ ∀ l, H l = none → Q (.ref l) (upd H l (.lst ys))) := by subst h; exact call_list_of
end
end L2
end
section
set_option Elab.async false
set_option linter.all false
set_option maxRecDepth 100000
namespace L2
open PySem PySem.Spec PySem.W PySem.Calls PyProof.Rows HT
section
open PySem.SeqAt
open PySem.AutoSeq1 (wpAny_loadPart')
open PySem.MeetsSeq PySem.MeetsSeq2 PySem.MeetsSeq3
end
end L2
end
section
set_option Elab.async false
set_option linter.all false
set_option maxRecDepth 100000
namespace L2
open PySem PySem.Spec PySem.W PySem.Calls PyProof.Rows HT
section
variable {prog : Program} {w : World} {A : Around} {E : Value → Shared → Prop} {s : Shared} {l b : Addr} {us vs : Array Value} {ns ms : List Int}
end
def rLtL (K : Frag) : R2 := fun x y H Q => ∃ (a b : Addr) (ns ms : List Int), x = .ref a ∧ y = .ref b ∧ SqL K H a (ns.map V.int) ∧ SqL K H b (ms.map V.int) ∧ Q (.bl (lexLt ns ms)) H
theorem lex_irr : ∀ a : List Int, lexLt a a = false
  | [] => rfl
  | x :: a => by rw [lexLt_cons, if_pos rfl]; exact lex_irr a
theorem lex_trans : ∀ {a b c : List Int}, lexLt a b = true → lexLt b c = true → lexLt a c = true
  | [], [], _, h, _ => by cases h
  | [], _ :: _, [], _, h => by cases h
  | [], _ :: _, _ :: _, _, _ => rfl
  | _ :: _, [], _, h, _ => by cases h
  | _ :: _, _ :: _, [], _, h => by cases h
  | x :: a, y :: b, z :: c, h1, h2 => by
    rw [lexLt_cons] at h1 h2 ⊢
    by_cases e1 : x = y
    · subst e1
      by_cases e2 : x = z
      · subst e2
        rw [if_pos rfl] at h1 h2 ⊢
        exact lex_trans h1 h2
      · rw [if_neg e2] at h2 ⊢; exact h2
    · rw [if_neg e1] at h1
      have g1 : x < y := of_decide_eq_true h1
      by_cases e2 : y = z
      · subst e2
        rw [if_neg e1]; exact h1
      · rw [if_neg e2] at h2
        have g2 : y < z := of_decide_eq_true h2
        rw [if_neg (by omega)]
        exact decide_eq_true (by omega)
theorem lex_tot : ∀ {a b : List Int}, lexLt a b = false → lexLt b a = false → a = b
  | [], [], _, _ => rfl
  | [], _ :: _, h, _ => by cases h
  | _ :: _, [], _, h => by cases h
  | x :: a, y :: b, h1, h2 => by
    rw [lexLt_cons] at h1 h2
    by_cases e : x = y
    · subst e
      rw [if_pos rfl] at h1 h2
      rw [lex_tot h1 h2]
    · rw [if_neg e] at h1
      rw [if_neg (fun z => e z.symm)] at h2
      have g1 := of_decide_eq_false h1
      have g2 := of_decide_eq_false h2
      omega
def Le (a b : List Int) : Prop := lexLt b a = false
theorem Le.refl (a : List Int) : Le a a := lex_irr a
theorem Le.trans {a b c : List Int} (h1 : Le a b) (h2 : Le b c) : Le a c := by
  unfold Le at *
  cases q : lexLt c a with
  | false => rfl
  | true =>
    by_cases e : lexLt a b = true
    · have := lex_trans q e; rw [h2] at this; cases this
    · have e2 : a = b := lex_tot (by simpa using e) h1
      subst e2
      rw [h2] at q; cases q
theorem Le.anti {a b : List Int} (h1 : Le a b) (h2 : Le b a) : a = b := lex_tot h2 h1
end L2
end
section
set_option Elab.async false
set_option linter.all false
set_option maxRecDepth 100000
namespace L2
open PySem PySem.Spec PySem.W PySem.Calls PyProof.Rows
section
variable {cmp : Nat → Nat → (Bool → Shared → Prop) → Shared → Prop} {n : Nat} {f : Nat → List Int} {s : Shared}
def Asks (cmp : Nat → Nat → (Bool → Shared → Prop) → Shared → Prop) (n : Nat) (f : Nat → List Int) (s : Shared) : Prop := ∀ i j C, i < n → j < n → C (HT.lexLt (f i) (f j)) s → cmp i j C s
structure Arr (n : Nat) (p : Array Nat) : Prop where
  size : p.size = n
  perm : p.Perm (List.toArray (List.range n))
def kf (f : Nat → List Int) (p : Array Nat) (i : Nat) : List Int := f (p.getD i 0)
theorem Arr.lt {p : Array Nat} (h : Arr n p) {i : Nat} (hi : i < n) : p.getD i 0 < n := by
  have e : p.getD i 0 = p[i]'(by rw [h.size]; exact hi) := by simp [Array.getD, h.size, hi]
  have m : p[i]'(by rw [h.size]; exact hi) ∈ p := Array.getElem_mem _
  have := (h.perm.mem_iff).mp m
  rw [e]
  simpa using this
def Up (f : Nat → List Int) (p : Array Nat) (m : Nat) : Prop := ∀ i, i + 1 < m → Le (kf f p i) (kf f p (i + 1))
def Dn (f : Nat → List Int) (p : Array Nat) (m : Nat) : Prop := ∀ i, i + 1 < m → Le (kf f p (i + 1)) (kf f p i)
theorem Up.le {p : Array Nat} {m : Nat} (h : Up f p m) {i j : Nat} (hij : i ≤ j) (hj : j < m) : Le (kf f p i) (kf f p j) := by
  induction j with
  | zero => obtain rfl : i = 0 := by omega
            exact Le.refl _
  | succ j ih =>
    by_cases e : i = j + 1
    · rw [e]; exact Le.refl _
    · exact (ih (by omega) (by omega)).trans (h j hj)
theorem Dn.le {p : Array Nat} {m : Nat} (h : Dn f p m) {i j : Nat} (hij : i ≤ j) (hj : j < m) : Le (kf f p j) (kf f p i) := by
  induction j with
  | zero => obtain rfl : i = 0 := by omega
            exact Le.refl _
  | succ j ih =>
    by_cases e : i = j + 1
    · rw [e]; exact Le.refl _
    · exact (h j hj).trans (ih (by omega) (by omega))
def Flt (f : Nat → List Int) (p : Array Nat) (m q : Nat) : Prop := ∀ i, m - (q + 1) ≤ i → i < m → kf f p i = kf f p (m - 1)
end
end L2
end
section
set_option Elab.async false
set_option linter.all false
set_option maxRecDepth 100000
namespace L2
open PySem PySem.Spec PySem.W PySem.Calls PyProof.Rows
def RowsAt (h : Heap) (vs : List Value) (f : Nat → List Int) : Prop := ∀ i, i < vs.length → ∃ b us, vs[i]? = some (.ref b) ∧ h.IsList b us ∧ IntsAre us.toList (f i)
theorem RowsAt.keep {h h' : Heap} {vs : List Value} {f : Nat → List Int} (r : RowsAt h vs f) (k : ∀ (i : Nat) (b : Addr), vs[i]? = some (.ref b) → ∀ o, h.get? b = some o → h'.get? b = some o) : RowsAt h' vs f := fun i hi => by
  obtain ⟨b, us, e, l, q⟩ := r i hi
  exact ⟨b, us, e, l.at fun o z => k i b e o z, q⟩
def outOf (vs : List Value) (p : Array Nat) : Array Value := List.toArray (p.toList.map fun i => vs.getD i Value.none)
def midH (h : Heap) (a : Addr) (vs : List Value) : Heap := ((h.update a (Obj.mapSeq fun _ => #[])).push (seqObj "tuple" vs.toArray 0)).push (seqObj "list" #[] 0)
section
variable {prog : Program} {w : World} {A : Around} {E : Value → Shared → Prop} {s : Shared} {vs : List Value} {f : Nat → List Int}
end
end L2
end
section
set_option Elab.async false
set_option linter.all false
set_option maxRecDepth 100000
namespace L2
open PySem PySem.Spec PySem.W PySem.Calls PyProof.Rows
section
variable {prog : Program} {w : World} {A : Around} {R : Result → Shared → Prop} {I : Addr} {fp wr : List Addr} {n : Nat} {P : Nat → Value → Prop} {St : Nat → Heap → Prop} {Kp : Heap → Prop} {bt : Nat → Nat → Bool} {S : Addr}
def CmpIn (prog : Program) (w : World) (A : Around) (P : Nat → Value → Prop) (Kp : Heap → Prop) (bt : Nat → Nat → Bool) : Prop :=
  ∀ (i j : Nat) (x y : Value) (t : Shared) (Q E : Value → Shared → Prop), P i x → P j y → Kp t.heap → Q (.bool (bt i j)) t → wpAny (model prog w) A (richCompare .Lt x y) Q E t
end
section
variable {prog : Program} {w : World} {A : Around} {E : Value → Shared → Prop} {s : Shared} {vs : List Value} {f : Nat → List Int} {l : Addr}
end
theorem sum_snoc : ∀ (l : List Int) (x : Int), (l ++ [x]).sum = l.sum + x
  | [], x => by simp
  | y :: l, x => by rw [List.cons_append, List.sum_cons, List.sum_cons, sum_snoc l x]; omega
section
variable {X : Cx}
def pick {α : Type} (d : α) (L : List α) (p : Array Nat) : List α := p.toList.map fun i => L.getD i d
def rSortedL (K : Frag) : List V → Hp → VK → Prop := fun vs H Q => ∃ (a : Addr) (as : List Addr) (L : List (List Int)), vs = [.ref a] ∧ SqL K H a (as.map V.ref) ∧ as.length = L.length ∧ (∀ (i : Nat) (b : Addr) (l : List Int), as[i]? = some b → L[i]? = some l → SqL K H b (l.map V.int)) ∧ as.length < 64 ∧
  ∀ (p : Array Nat) (q : Addr), Arr L.length p → Up (fun i => L.getD i []) p L.length → H q = none → Q (.ref q) (upd H q (.lst ((pick 0 as p).map V.ref)))
def rMinL (K : Frag) : List V → Hp → VK → Prop := fun vs H Q => ∃ (a : Addr) (as : List Addr) (L : List (List Int)), vs = [.ref a] ∧ SqL K H a (as.map V.ref) ∧ as.length = L.length ∧ (∀ (i : Nat) (b : Addr) (l : List Int), as[i]? = some b → L[i]? = some l → SqL K H b (l.map V.int)) ∧ 0 < as.length ∧
  ∀ (i : Nat) (b : Addr) (l : List Int), as[i]? = some b → L[i]? = some l → (∀ m ∈ L, Le l m) → Q (.ref b) H
def rMinI (K : Frag) : List V → Hp → VK → Prop := fun vs H Q => ∃ (a : Addr) (ns : List Int), vs = [.ref a] ∧ SqL K H a (ns.map V.int) ∧ ns ≠ [] ∧ ∀ m, m ∈ ns → (∀ x ∈ ns, m ≤ x) → Q (.int m) H
def rSum (K : Frag) : List V → Hp → VK → Prop := fun vs H Q => ∃ (a : Addr) (ns : List Int), vs = [.ref a] ∧ SqL K H a (ns.map V.int) ∧ ns.length ≤ 1000 ∧ (∀ x ∈ ns, 0 ≤ x ∧ x ≤ 100000) ∧ Q (.int ns.sum) H
def rIndex (K : Frag) : V → List V → Hp → VK → Prop := fun x vs H Q => ∃ (l : Addr) (ns : List Int) (y : Int), x = .ref l ∧ vs = [.int y] ∧ H l = some (.lst (ns.map V.int)) ∧ y ∈ ns ∧ Q (.int (ns.idxOf y : Nat)) H
end
section
variable {X : Cx} {K : Frag}
end
end L2
end
section
set_option Elab.async false
set_option linter.all false
set_option maxRecDepth 100000
namespace Gm
open PySem L2
def cy (r : List Int) (j : Nat) : Int := r.getD (j % r.length) 0
theorem cy_mod {r : List Int} {i j : Nat} (h : i % r.length = j % r.length) : cy r i = cy r j := by unfold cy; rw [h]
theorem cy_lt {r : List Int} {j : Nat} (h : j < r.length) : cy r j = r[j] := by unfold cy; rw [Nat.mod_eq_of_lt h]; simp [h]
theorem cy_mem {r : List Int} {j : Nat} (h : 0 < r.length) : cy r j ∈ r := by
  have hm := Nat.mod_lt j h
  have : cy r j = r[j % r.length] := by unfold cy; simp [hm]
  rw [this]; exact List.getElem_mem _
theorem cy_ext {r q : List Int} (hl : r.length = q.length) (h : ∀ j, cy r j = cy q j) : r = q := by
  refine List.ext_getElem hl fun i h1 h2 => ?_
  have := h i
  rw [cy_lt h1, cy_lt h2] at this
  exact this
def rot (r : List Int) (k : Nat) : List Int := r.drop k ++ r.take k
theorem rot_len {r : List Int} {k : Nat} (h : k ≤ r.length) : (rot r k).length = r.length := by unfold rot; simp; omega
theorem add_mod_cases {a b n : Nat} (ha : a < n) (hb : b < n) : (a + b) % n = if a + b < n then a + b else a + b - n := by
  by_cases h : a + b < n
  · rw [if_pos h, Nat.mod_eq_of_lt h]
  · rw [if_neg h, Nat.mod_eq_sub_mod (by omega), Nat.mod_eq_of_lt (by omega)]
theorem cy_rot {r : List Int} {k : Nat} (h : k < r.length) (j : Nat) : cy (rot r k) j = cy r (j + k) := by
  have hm := Nat.mod_lt j (show 0 < r.length by omega)
  have e : (j + k) % r.length = if j % r.length + k < r.length then j % r.length + k else j % r.length + k - r.length := by
    rw [← add_mod_cases hm h, Nat.mod_add_mod]
  unfold cy
  rw [rot_len (by omega), e]
  unfold rot
  rw [List.getD_eq_getElem?_getD, List.getD_eq_getElem?_getD]
  congr 1
  by_cases c : j % r.length + k < r.length
  · rw [if_pos c, List.getElem?_append_left (by rw [List.length_drop]; omega), List.getElem?_drop, Nat.add_comm]
  · rw [if_neg c, List.getElem?_append_right (by rw [List.length_drop]; omega), List.length_drop, List.getElem?_take, if_pos (by omega)]
    congr 1
    omega
theorem rot_rot {r : List Int} {k i : Nat} (hk : k < r.length) (hi : i < r.length) : rot (rot r k) i = rot r ((i + k) % r.length) := by
  have hl : (rot r k).length = r.length := rot_len (by omega)
  have hm := Nat.mod_lt (i + k) (show 0 < r.length by omega)
  refine cy_ext (by rw [rot_len (by rw [hl]; omega), hl, rot_len (by omega)]) fun j => ?_
  rw [cy_rot (by rw [hl]; exact hi), cy_rot hk, cy_rot hm]
  refine cy_mod ?_
  rw [Nat.add_assoc, Nat.add_mod_mod]
abbrev Dart := Int × Int
def rowOf (L : List (List Int)) (a : Int) : List Int := L.getD a.toNat []
def pre (l : List Int) (x : Int) : Int := cy l (l.idxOf x + l.length - 1)
structure Dt (L : List (List Int)) (d : Dart) : Prop where
  lo : 0 ≤ d.1
  hi : d.1 < L.length
  mem : d.2 ∈ rowOf L d.1
def nx (L : List (List Int)) (d : Dart) : Dart := (d.2, pre (rowOf L d.2) d.1)
theorem rowOf_at {L : List (List Int)} {a : Int} (h0 : 0 ≤ a) (h1 : a < L.length) : L[a.toNat]? = some (rowOf L a) := by
  unfold rowOf
  have : a.toNat < L.length := by omega
  simp [this]
theorem pre_mem {l : List Int} {x : Int} (h : x ∈ l) : pre l x ∈ l := cy_mem (List.length_pos_of_mem h)
theorem md {i n : Nat} (h : i < n) : (i + n - 1) % n = if i = 0 then n - 1 else i - 1 := by
  by_cases e : i = 0
  · rw [if_pos e, e, Nat.zero_add, Nat.mod_eq_of_lt (by omega)]
  · rw [if_neg e]
    have : i + n - 1 = (i - 1) + n := by omega
    rw [this, Nat.add_mod_right, Nat.mod_eq_of_lt (by omega)]
theorem pre_inj {l : List Int} {x y : Int} (n : l.Nodup) (hx : x ∈ l) (hy : y ∈ l) (h : pre l x = pre l y) : x = y := by
  have ix := List.idxOf_lt_length_of_mem hx
  have iy := List.idxOf_lt_length_of_mem hy
  have p0 : 0 < l.length := by omega
  unfold pre cy at h
  have mx := Nat.mod_lt (l.idxOf x + l.length - 1) p0
  have my := Nat.mod_lt (l.idxOf y + l.length - 1) p0
  have e1 : l.getD ((l.idxOf x + l.length - 1) % l.length) 0 = l[(l.idxOf x + l.length - 1) % l.length] := by simp [mx]
  have e2 : l.getD ((l.idxOf y + l.length - 1) % l.length) 0 = l[(l.idxOf y + l.length - 1) % l.length] := by simp [my]
  rw [e1, e2] at h
  have e := (List.getElem_inj n).mp h
  rw [md ix, md iy] at e
  have ei : l.idxOf x = l.idxOf y := by split at e <;> split at e <;> omega
  have g1 := List.getElem_idxOf ix
  have g2 := List.getElem_idxOf iy
  rw [← g1, ← g2]
  congr 1
section
variable {L : List (List Int)} {d e : Dart}
theorem Dt.back (h : Dt L d) (m : IsMap L) : 0 ≤ d.2 ∧ d.2 < L.length ∧ d.2 ≠ d.1 ∧ d.1 ∈ rowOf L d.2 := by
  have r := rowOf_at h.lo h.hi
  have g := m.rg _ _ r _ h.mem
  have e1 : ((d.1.toNat : Nat) : Int) = d.1 := Int.toNat_of_nonneg h.lo
  refine ⟨g.1, g.2.1, by rw [e1] at g; exact g.2.2, ?_⟩
  have := m.sy _ _ r _ h.mem d.2.toNat (by omega) _ (rowOf_at g.1 g.2.1)
  rwa [e1] at this
theorem Dt.nx (h : Dt L d) (m : IsMap L) : Dt L (nx L d) := by
  obtain ⟨a, b, c, f⟩ := h.back m
  exact ⟨a, b, pre_mem f⟩
theorem nx_inj (m : IsMap L) (h1 : Dt L d) (h2 : Dt L e) (h : Gm.nx L d = Gm.nx L e) : d = e := by
  obtain ⟨a, b, c, f⟩ := h1.back m
  obtain ⟨a', b', c', f'⟩ := h2.back m
  unfold Gm.nx at h
  have e2 : d.2 = e.2 := congrArg Prod.fst h
  have e3 : pre (rowOf L d.2) d.1 = pre (rowOf L e.2) e.1 := congrArg Prod.snd h
  rw [← e2] at e3 f'
  exact Prod.ext (pre_inj (m.nd _ _ (rowOf_at a b)) f f' e3) e2
def dts (L : List (List Int)) : Nat → List Dart
  | 0 => []
  | k + 1 => dts L k ++ (rowOf L k).map fun x => ((k : Int), x)
theorem mem_dts : ∀ {k : Nat}, d ∈ dts L k ↔ 0 ≤ d.1 ∧ d.1 < k ∧ d.2 ∈ rowOf L d.1
  | 0 => by simp only [dts, List.not_mem_nil, false_iff]; intro h; omega
  | k + 1 => by
    rw [dts, List.mem_append, mem_dts, List.mem_map]
    constructor
    · rintro (⟨h1, h2, h3⟩ | ⟨x, hx, rfl⟩)
      · exact ⟨h1, by omega, h3⟩
      · exact ⟨by simp, by simp; omega, hx⟩
    · rintro ⟨h1, h2, h3⟩
      by_cases e : d.1 = k
      · right
        rw [e] at h3
        exact ⟨d.2, h3, Prod.ext e.symm rfl⟩
      · left; exact ⟨h1, by omega, h3⟩
theorem nodup_dts (m : IsMap L) : ∀ {k : Nat}, k ≤ L.length → (dts L k).Nodup
  | 0, _ => .nil
  | k + 1, h => by
    rw [dts, List.nodup_append]
    refine ⟨nodup_dts m (by omega), ?_, fun a ha b hb z => ?_⟩
    · have n := m.nd _ _ (rowOf_at (L := L) (a := (k : Int)) (by omega) (by omega))
      exact List.Pairwise.map _ (fun x y hxy z => hxy (congrArg Prod.snd z)) n
    · have := (mem_dts.mp ha).2.1
      obtain ⟨x, _, rfl⟩ := List.mem_map.mp hb
      rw [z] at this
      simp at this
theorem len_dts : ∀ {k : Nat}, k ≤ L.length → ((dts L k).length : Int) = ((L.take k).map (fun l => (l.length : Int))).sum
  | 0, _ => by simp [dts]
  | k + 1, h => by
    have hk : k < L.length := by omega
    have e : rowOf L (k : Int) = L[k] := by unfold rowOf; simp [hk]
    rw [dts, List.length_append, List.length_map, show L.take (k + 1) = L.take k ++ [L[k]] by rw [List.take_succ, List.getElem?_eq_getElem hk]; rfl, List.map_append, List.map_singleton, sum_snoc, ← len_dts (by omega), e]
    omega
theorem Dt.all (h : Dt L d) : d ∈ dts L L.length := mem_dts.mpr ⟨h.lo, h.hi, h.mem⟩
theorem Dt.of (h : d ∈ dts L L.length) : Dt L d := by have := mem_dts.mp h; exact ⟨this.1, this.2.1, this.2.2⟩
def it (L : List (List Int)) (d : Dart) : Nat → Dart
  | 0 => d
  | k + 1 => Gm.nx L (it L d k)
theorem it_dt (m : IsMap L) (h : Dt L d) : ∀ k, Dt L (it L d k)
  | 0 => h
  | k + 1 => (it_dt m h k).nx m
theorem it_add (i : Nat) : ∀ k, it L d (i + k) = it L (it L d i) k
  | 0 => rfl
  | k + 1 => by show Gm.nx L (it L d (i + k)) = Gm.nx L (it L (it L d i) k); rw [it_add i k]
theorem it_back (m : IsMap L) (h : Dt L d) {k : Nat} : ∀ i, it L d i = it L d (i + k) → it L d k = d
  | 0, e => by rw [Nat.zero_add] at e; exact e.symm
  | i + 1, e => by
    rw [Nat.add_right_comm] at e
    exact it_back m h i (nx_inj m (it_dt m h _) (it_dt m h _) e)
def NoRet (L : List (List Int)) (d : Dart) (k : Nat) : Prop := ∀ i, 0 < i → i < k → it L d i ≠ d
def tr (L : List (List Int)) (d : Dart) (k : Nat) : List Dart := (List.range k).map (it L d)
theorem tr_nodup (m : IsMap L) (h : Dt L d) {k : Nat} (n : NoRet L d k) : (tr L d k).Nodup := by
  unfold tr
  refine List.Pairwise.map _ (R := fun a b => a < b ∧ a < k ∧ b < k) (fun a b hab z => ?_) ?_
  · obtain ⟨j, rfl⟩ : ∃ j, b = a + j := ⟨b - a, by omega⟩
    exact n j (by omega) (by omega) (it_back m h a z)
  · have := List.pairwise_lt_range (n := k)
    refine List.Pairwise.imp_of_mem (fun ha hb hab => ⟨hab, List.mem_range.mp ha, List.mem_range.mp hb⟩) this
theorem noRet_le (m : IsMap L) (h : Dt L d) {k : Nat} (n : NoRet L d k) : k ≤ (dts L L.length).length := by
  have := len_le (tr_nodup m h n) (r := dts L L.length) fun x hx => by
    obtain ⟨i, _, rfl⟩ := List.mem_map.mp hx
    exact (it_dt m h i).all
  simpa [tr] using this
def dj (r : List Int) (j : Nat) : Dart := (cy r j, cy r (j + 1))
structure Good (L : List (List Int)) (r : List Int) : Prop where
  two : 2 ≤ r.length
  dt : ∀ j, Dt L (dj r j)
  st : ∀ j, Gm.nx L (dj r j) = dj r (j + 1)
def sh (s : Nat) (r : List Int) : List Dart := (List.range r.length).map fun j => dj r (j + s)
theorem dj_mod {r : List Int} {i j : Nat} (h : i % r.length = j % r.length) : dj r i = dj r j := by
  unfold dj
  rw [cy_mod h, cy_mod (show (i + 1) % r.length = (j + 1) % r.length by rw [Nat.add_mod, h, ← Nat.add_mod])]
theorem sh_succ (r : List Int) (s : Nat) : (sh (s + 1) r).Perm (sh s r) := by
  unfold sh
  cases hn : r.length with
  | zero => exact List.Perm.refl _
  | succ n =>
    have e1 : (List.range (n + 1)).map (fun j => dj r (j + (s + 1))) = (List.range n).map (fun j => dj r (j + (s + 1))) ++ [dj r (n + (s + 1))] := by rw [List.range_succ, List.map_append]; rfl
    have e2 : (List.range (n + 1)).map (fun j => dj r (j + s)) = dj r s :: (List.range n).map (fun j => dj r (j + (s + 1))) := by
      rw [List.range_succ_eq_map, List.map_cons, List.map_map, Nat.zero_add]
      congr 1
      refine List.map_congr_left fun j _ => ?_
      show dj r (j + 1 + s) = _
      congr 1
      omega
    have e3 : dj r (n + (s + 1)) = dj r s := dj_mod (by rw [hn, show n + (s + 1) = s + (n + 1) by omega, Nat.add_mod_right])
    rw [e1, e2, e3]
    exact List.perm_append_singleton _ _
theorem sh_perm (r : List Int) : ∀ s, (sh s r).Perm (sh 0 r)
  | 0 => List.Perm.refl _
  | s + 1 => (sh_succ r s).trans (sh_perm r s)
theorem mem_sh {r : List Int} {s : Nat} (h0 : 0 < r.length) : d ∈ sh s r ↔ ∃ j, d = dj r j := by
  rw [(sh_perm r s).mem_iff]
  unfold sh
  rw [List.mem_map]
  constructor
  · rintro ⟨j, _, rfl⟩; exact ⟨_, rfl⟩
  · rintro ⟨j, rfl⟩
    exact ⟨j % r.length, List.mem_range.mpr (Nat.mod_lt _ h0), dj_mod (by rw [Nat.add_zero, Nat.mod_mod])⟩
theorem dj_rot {r : List Int} {k : Nat} (h : k < r.length) (j : Nat) : dj (rot r k) j = dj r (j + k) := by
  unfold dj
  rw [cy_rot h, cy_rot h]
  congr 2
  omega
theorem sh_rot {r : List Int} {k : Nat} (h : k < r.length) : sh 0 (rot r k) = sh k r := by
  unfold sh
  rw [rot_len (by omega)]
  exact List.map_congr_left fun j _ => dj_rot h j
theorem Good.rot {r : List Int} {k : Nat} (g : Good L r) (h : k < r.length) : Good L (Gm.rot r k) := by
  refine ⟨by rw [rot_len (by omega)]; exact g.two, fun j => by rw [dj_rot h]; exact g.dt _, fun j => ?_⟩
  rw [dj_rot h, dj_rot h, g.st]
  congr 1
  omega
def ringOf (L : List (List Int)) (d : Dart) (k : Nat) : List Int := (List.range k).map fun i => (it L d i).1
theorem it_per {k : Nat} (e : it L d k = d) (j : Nat) : it L d (j + k) = it L d j := by rw [Nat.add_comm, it_add, e]
theorem it_mod {k : Nat} (e : it L d k = d) (j : Nat) : it L d (j % k) = it L d j := by
  have go : ∀ q, it L d (j % k + k * q) = it L d (j % k) := by
    intro q
    induction q with
    | zero => rfl
    | succ q ih => rw [Nat.mul_succ, ← Nat.add_assoc, it_per e, ih]
  rw [← go (j / k), Nat.mod_add_div]
theorem cy_ring {k : Nat} (hk : 0 < k) (e : it L d k = d) (j : Nat) : cy (ringOf L d k) j = (it L d j).1 := by
  have hl : (ringOf L d k).length = k := by unfold ringOf; simp
  have hm := Nat.mod_lt j hk
  unfold cy
  rw [hl]
  unfold ringOf
  rw [List.getD_eq_getElem?_getD, List.getElem?_map, List.getElem?_range hm]
  show (it L d (j % k)).1 = _
  rw [it_mod e]
theorem dj_ring {k : Nat} (hk : 0 < k) (e : it L d k = d) (j : Nat) : dj (ringOf L d k) j = it L d j := by
  unfold dj
  rw [cy_ring hk e, cy_ring hk e]
  rfl
theorem ring_good (m : IsMap L) (h : Dt L d) {k : Nat} (hk : 0 < k) (e : it L d k = d) : Good L (ringOf L d k) := by
  refine ⟨?_, fun j => by rw [dj_ring hk e]; exact it_dt m h j, fun j => by rw [dj_ring hk e, dj_ring hk e]; rfl⟩
  have hl : (ringOf L d k).length = k := by unfold ringOf; simp
  rw [hl]
  by_cases z : k = 1
  · subst z
    have := (h.back m).2.2.1
    exact absurd (congrArg Prod.fst e) this
  · omega
theorem ring_nodup (m : IsMap L) (h : Dt L d) {k : Nat} (hk : 0 < k) (e : it L d k = d) (n : NoRet L d k) : (sh 0 (ringOf L d k)).Nodup := by
  have hl : (ringOf L d k).length = k := by unfold ringOf; simp
  have : sh 0 (ringOf L d k) = tr L d k := by
    unfold sh tr
    rw [hl]
    exact List.map_congr_left fun j _ => by rw [dj_ring hk e, Nat.add_zero]
  rw [this]
  exact tr_nodup m h n
def Least (r : List Int) : Prop := ∀ k, k < r.length → Le r (rot r k)
theorem least_rot {r : List Int} {k : Nat} (hk : k < r.length) (h : ∀ j, j < r.length → Le (rot r k) (rot r j)) : Least (rot r k) := fun i hi => by
  rw [rot_len (by omega)] at hi
  rw [rot_rot hk hi]
  exact h _ (Nat.mod_lt _ (by omega))
structure Lands (L R : List (List Int)) : Prop where
  good : ∀ r ∈ R, Good L r
  least : ∀ r ∈ R, Least r
  sorted : R.Pairwise (fun a b => HT.lexLt a b = true)
  nd : (R.flatMap (sh 0)).Nodup
  all : ∀ d, Dt L d → d ∈ R.flatMap (sh 0)
structure Lp (L R : List (List Int)) (ks : List Dart) : Prop where
  good : ∀ r ∈ R, Good L r
  least : ∀ r ∈ R, Least r
  nd : ks.Nodup
  pm : ks.Perm (R.flatMap (sh 0))
  two : 2 * R.length ≤ ks.length
theorem Lp.start : Lp L [] [] := ⟨by simp, by simp, .nil, .nil, Nat.le_refl _⟩
theorem Lp.dt {R : List (List Int)} {ks : List Dart} (p : Lp L R ks) (h : d ∈ ks) : Dt L d := by
  obtain ⟨r, hr, hd⟩ := List.mem_flatMap.mp (p.pm.mem_iff.mp h)
  obtain ⟨j, rfl⟩ := (mem_sh (by have := (p.good r hr).two; omega)).mp hd
  exact (p.good r hr).dt j
theorem Lp.len {R : List (List Int)} {ks : List Dart} (p : Lp L R ks) : ks.length ≤ (dts L L.length).length := len_le p.nd fun x hx => (p.dt hx).all
theorem Lp.on {R : List (List Int)} {ks : List Dart} (p : Lp L R ks) (h : d ∈ ks) : ∀ t, it L d t ∈ ks := by
  intro t
  obtain ⟨r, hr, hd⟩ := List.mem_flatMap.mp (p.pm.mem_iff.mp h)
  have g := p.good r hr
  have r0 : 0 < r.length := by have := g.two; omega
  obtain ⟨j, rfl⟩ := (mem_sh r0).mp hd
  have e : it L (dj r j) t = dj r (j + t) := by
    induction t with
    | zero => rfl
    | succ t ih => show Gm.nx L (it L (dj r j) t) = _; rw [ih, g.st]; rfl
  rw [e]
  exact p.pm.mem_iff.mpr (List.mem_flatMap.mpr ⟨r, hr, (mem_sh r0).mpr ⟨_, rfl⟩⟩)
theorem Lp.new {R : List (List Int)} {ks : List Dart} (p : Lp L R ks) {k : Nat} (hk : 0 < k) (e : it L d k = d) (n : d ∉ ks) (j : Nat) : it L d j ∉ ks := by
  intro h
  refine n ?_
  have := p.on h (k * j - j)
  rw [← it_add, show j + (k * j - j) = k * j from by have := Nat.le_mul_of_pos_left j hk; omega, Nat.mul_comm] at this
  have z := it_mod e (j * k)
  rw [Nat.mul_mod_left] at z
  rw [← z] at this
  exact this
theorem Lp.add {R : List (List Int)} {ks : List Dart} (m : IsMap L) (p : Lp L R ks) (h : Dt L d) {k c : Nat} (hk : 0 < k) (e : it L d k = d) (nr : NoRet L d k) (n : d ∉ ks) (hc : c < k) (hl : ∀ j, j < k → Le (Gm.rot (ringOf L d k) c) (Gm.rot (ringOf L d k) j)) :
    Lp L (R ++ [Gm.rot (ringOf L d k) c]) (ks ++ sh (k - 1) (ringOf L d k)) := by
  have zl : (ringOf L d k).length = k := by unfold ringOf; simp
  have g := ring_good m h hk e
  have hc' : c < (ringOf L d k).length := by rw [zl]; exact hc
  refine ⟨fun r hr => ?_, fun r hr => ?_, ?_, ?_, ?_⟩
  · rcases List.mem_append.mp hr with z | z
    · exact p.good r z
    · rw [List.mem_singleton.mp z]; exact g.rot hc'
  · rcases List.mem_append.mp hr with z | z
    · exact p.least r z
    · rw [List.mem_singleton.mp z]; exact least_rot hc' (by rw [zl]; exact hl)
  · rw [List.nodup_append]
    refine ⟨p.nd, ((sh_perm _ _).nodup_iff).mpr (ring_nodup m h hk e nr), fun a ha b hb z => ?_⟩
    obtain ⟨j, rfl⟩ := (mem_sh (by omega)).mp hb
    rw [dj_ring hk e] at z
    exact p.new hk e n j (z ▸ ha)
  · rw [List.flatMap_append, List.flatMap_singleton, sh_rot hc']
    exact p.pm.append ((sh_perm _ _).trans (sh_perm _ _).symm)
  · have := g.two
    have := p.two
    rw [List.length_append, List.length_append, List.length_singleton]
    unfold sh
    rw [List.length_map, List.length_range]
    omega
end
end Gm
end
section
set_option Elab.async false
set_option linter.all false
set_option maxRecDepth 100000
namespace Gm
open PySem L2
theorem pick_at {α : Type} {d : α} {L : List α} {p : Array Nat} (i : Nat) : (pick d L p)[i]? = (p[i]?).map fun j => L.getD j d := by unfold pick; simp
theorem pick_len {α : Type} {d : α} {L : List α} {p : Array Nat} {n : Nat} (h : Arr n p) : (pick d L p).length = n := by unfold pick; simp [h.size]
theorem Grid.pick {H : Hp} {t q : Addr} {as : List Addr} {R : List (List Int)} {p : Array Nat} (g : Grid H t as R) (h : Arr R.length p) (hq : H q = none) : Grid (upd H q (.lst ((pick 0 as p).map V.ref))) q (pick 0 as p) (pick [] R p) := by
  refine ⟨upd_same, by rw [pick_len h, pick_len h], fun i a l h1 h2 => ?_⟩
  rw [pick_at] at h1 h2
  cases e : p[i]? with
  | none => rw [e] at h1; cases h1
  | some j =>
    rw [e] at h1 h2
    have hi : i < p.size := by
      rcases Nat.lt_or_ge i p.size with z | z
      · exact z
      · rw [Array.getElem?_eq_none z] at e; cases e
    have hj : j < R.length := by
      have := h.lt (i := i) (by rw [← h.size]; exact hi)
      rw [Array.getD_eq_getD_getElem?, e] at this
      exact this
    have hj2 : j < as.length := by rw [g.len]; exact hj
    have e1 : as.getD j 0 = as[j] := by simp [hj2]
    have e2 : R.getD j [] = R[j] := by simp [hj]
    have h1' : as.getD j 0 = a := Option.some.inj h1
    have h2' : R.getD j [] = l := Option.some.inj h2
    have := g.row j as[j] R[j] (by simp [hj2]) (by simp [hj])
    rw [← e1, ← e2, h1', h2'] at this
    rw [upd_ne (ne_of_none this hq)]
    exact this
def keyD (d : Dart) : List Key := [.inl d.1, .inl d.2]
def kD (ks : List Dart) : List (List Key × V) := ks.map fun d => (keyD d, V.bl true)
section
variable {σ : St} {H : Hp} {Q : VK} {K : PySem.W.Frag}
end
theorem Grid.snoc {H : Hp} {t b : Addr} {bs : List Addr} {R : List (List Int)} {l : List Int} (g : Grid H t bs R) (nt : t ∉ bs) (nb : b ≠ t) (hb : H b = some (.lst (l.map V.int))) : Grid (upd H t (.lst (bs.map V.ref ++ [.ref b]))) t (bs ++ [b]) (R ++ [l]) := by
  refine ⟨by rw [List.map_append]; exact upd_same, by rw [List.length_append, List.length_append, g.len]; rfl, fun i a m h1 h2 => ?_⟩
  rcases Nat.lt_or_ge i bs.length with hi | hi
  · rw [List.getElem?_append_left hi] at h1
    rw [List.getElem?_append_left (by rw [← g.len]; exact hi)] at h2
    have am := List.mem_of_getElem? h1
    have ne : a ≠ t := fun z => nt (by rw [← z]; exact am)
    rw [upd_ne ne]
    exact g.row i a m h1 h2
  · rw [List.getElem?_append_right hi] at h1
    rw [List.getElem?_append_right (by rw [← g.len]; exact hi), ← g.len] at h2
    have : i - bs.length = 0 := by
      have := (List.getElem?_eq_some_iff.mp h1).1
      rw [List.length_singleton] at this
      omega
    rw [this] at h1 h2
    simp at h1 h2
    subst h1 h2
    rw [upd_ne nb]
    exact hb
theorem Grid.other {H : Hp} {t g : Addr} {bs : List Addr} {R : List (List Int)} {kvs : List (List Key × V)} {o : HO} (h : Grid H t bs R) (hg : H g = some (.dT kvs)) : Grid (upd H g o) t bs R := by
  refine ⟨?_, h.len, fun i a l h1 h2 => ?_⟩
  · rw [upd_ne (fun z => by have := h.top; rw [z, hg] at this; cases this)]; exact h.top
  · have := h.row i a l h1 h2
    rw [upd_ne (fun z => by rw [z, hg] at this; cases this)]; exact this
theorem Grid.notin {H : Hp} {t b : Addr} {bs : List Addr} {R : List (List Int)} (g : Grid H t bs R) (hb : H b = none) : b ∉ t :: bs := fun z => by
  rcases List.mem_cons.mp z with z | z
  · rw [z, g.top] at hb; cases hb
  · obtain ⟨k, hk, hk2⟩ := List.mem_iff_getElem.mp z
    have kl : k < R.length := by rw [← g.len]; exact hk
    have := g.row k b _ (by rw [List.getElem?_eq_getElem hk, hk2]) (List.getElem?_eq_getElem kl)
    rw [hb] at this; cases this
theorem sh_len (s : Nat) (r : List Int) : (sh s r).length = r.length := by unfold sh; simp
theorem sh_at {s : Nat} {r : List Int} {j : Nat} (h : j < r.length) : (sh s r)[j]? = some (dj r (j + s)) := by unfold sh; simp [h]
theorem take_snoc {α : Type} {l : List α} {j : Nat} {x : α} (h : l[j]? = some x) : l.take (j + 1) = l.take j ++ [x] := by rw [List.take_succ, h]; rfl
def But (g : Addr) (H H' : Hp) : Prop := ∀ b o, b ≠ g → H b = some o → H' b = some o
theorem Same.but {g : Addr} {H H' : Hp} (h : Same H H') : But g H H' := fun b o _ e => h b o e
theorem But.trans {g : Addr} {H H' H'' : Hp} (h : But g H H') (h' : But g H' H'') : But g H H'' := fun b o n e => h' b o n (h b o n e)
theorem But.upd {g : Addr} {H : Hp} {o : HO} : But g H (upd H g o) := fun b u n e => by rw [upd_ne n]; exact e
theorem But.same {g : Addr} {H H' H'' : Hp} (h : Same H H') (h' : But g H' H'') (n : H g = none) : Same H H'' := fun b o e => h' b o (fun z => by rw [z, n] at e; cases e) (h b o e)
theorem Grid.but {g : Addr} {H H' : Hp} {t : Addr} {bs : List Addr} {R : List (List Int)} {kvs : List (List Key × V)} (h : Grid H t bs R) (hg : H g = some (.dT kvs)) (e : But g H H') : Grid H' t bs R := by
  refine ⟨e _ _ (fun z => by have := h.top; rw [z, hg] at this; cases this) h.top, h.len, fun i a l h1 h2 => ?_⟩
  have := h.row i a l h1 h2
  exact e _ _ (fun z => by rw [z, hg] at this; cases this) this
theorem flat_perm : ∀ R : List (List Int), (R.flatMap fun r => sh (r.length - 2) r).Perm (R.flatMap (sh 0))
  | [] => .nil
  | r :: R => by rw [List.flatMap_cons, List.flatMap_cons]; exact (sh_perm r _).append (flat_perm R)
def fl (R : List (List Int)) (k : Nat) : List Dart := (R.take k).flatMap fun r => sh (r.length - 2) r
theorem Lands.fl_nodup {L R : List (List Int)} (h : Lands L R) (k : Nat) : (fl R k).Nodup := by
  have n : (R.flatMap fun r => sh (r.length - 2) r).Nodup := ((flat_perm R).nodup_iff).mpr h.nd
  rw [← List.take_append_drop k R, List.flatMap_append] at n
  exact (List.nodup_append.mp n).1
theorem Lands.mem {L R : List (List Int)} (h : Lands L R) (d : Dart) : d ∈ fl R R.length ↔ d ∈ dts L L.length := by
  unfold fl
  rw [List.take_length, (flat_perm R).mem_iff]
  constructor
  · intro z
    obtain ⟨r, hr, hd⟩ := List.mem_flatMap.mp z
    obtain ⟨j, rfl⟩ := (mem_sh (by have := (h.good r hr).two; omega)).mp hd
    exact ((h.good r hr).dt j).all
  · intro z; exact h.all d (Dt.of z)
theorem Lands.fl_le {L R : List (List Int)} (h : Lands L R) (m : IsMap L) (k : Nat) : (fl R k).length ≤ (dts L L.length).length := by
  refine len_le (h.fl_nodup k) fun d hd => (h.mem d).mp ?_
  unfold fl at hd ⊢
  obtain ⟨r, hr, z⟩ := List.mem_flatMap.mp hd
  rw [List.take_length]
  exact List.mem_flatMap.mpr ⟨r, List.mem_of_mem_take hr, z⟩
theorem Lands.count {L R : List (List Int)} (h : Lands L R) (m : IsMap L) : ((fl R R.length).length : Int) = (L.map fun l => (l.length : Int)).sum := by
  rw [len_eq (h.fl_nodup _) (nodup_dts m (Nat.le_refl _)) h.mem, len_dts (Nat.le_refl _), List.take_length]
theorem flat_len : ∀ S : List (List Int), (∀ r ∈ S, 2 ≤ r.length) → S.length ≤ (S.flatMap fun r => sh (r.length - 2) r).length
  | [], _ => Nat.le_refl _
  | r :: S, h => by
    have h1 := flat_len S fun x hx => h x (List.mem_cons_of_mem _ hx)
    have h2 := h r List.mem_cons_self
    rw [List.flatMap_cons, List.length_append, sh_len, List.length_cons]
    omega
theorem Lands.small {L R : List (List Int)} (h : Lands L R) (m : IsMap L) : R.length ≤ (dts L L.length).length := by
  have n := h.fl_le m R.length
  have z := flat_len R fun r hr => (h.good r hr).two
  unfold fl at n
  rw [List.take_length] at n
  omega
theorem dts_le {L : List (List Int)} (m : IsMap L) : ∀ {k : Nat}, k ≤ L.length → (dts L k).length ≤ k * (L.length - 1)
  | 0, _ => Nat.zero_le _
  | k + 1, h => by
    have i := dts_le m (k := k) (by omega)
    have e := rowOf_at (L := L) (a := (k : Int)) (by omega) (by omega)
    have n : (rowOf L (k : Int)).length ≤ L.length - 1 := by
      have n1 : ((k : Int) :: rowOf L (k : Int)).Nodup := List.nodup_cons.mpr ⟨fun z => by have := m.rg _ _ e _ z; rw [Int.toNat_natCast] at this; exact this.2.2 rfl, m.nd _ _ e⟩
      have := len_range (n := L.length) n1 fun x hx => by
        rcases List.mem_cons.mp hx with z | z
        · omega
        · have := m.rg _ _ e _ z; exact ⟨this.1, this.2.1⟩
      rw [List.length_cons] at this
      omega
    rw [dts, List.length_append, List.length_map, Nat.succ_mul]
    omega
theorem dts_small {L : List (List Int)} (m : IsMap L) (h : L.length ≤ 11) : (dts L L.length).length < 128 := by
  have h1 := dts_le m (Nat.le_refl L.length)
  have h2 : L.length * (L.length - 1) ≤ 11 * 10 := Nat.mul_le_mul h (by omega)
  omega
theorem rot_cons {r : List Int} {i : Nat} (hi : i < r.length) : rot r i = cy r i :: (r.drop (i + 1) ++ r.take i) := by
  unfold rot
  rw [List.drop_eq_getElem_cons hi, cy_lt hi]
  rfl
end Gm
end
section
set_option Elab.async false
set_option linter.all false
set_option maxRecDepth 100000
namespace Gm
open PySem L2
def pgo : Int → List Int → Int → Int
  | p, [], _ => p
  | p, h :: t, x => if h = x then p else pgo h t x
def lst (l : List Int) : Int := l.getD (l.length - 1) 0
theorem lst_cons (h : Int) {t : List Int} (n : t ≠ []) : lst (h :: t) = lst t := by
  unfold lst
  cases t with
  | nil => exact absurd rfl n
  | cons a t => simp
theorem lst_append (u : List Int) {v : List Int} (n : v ≠ []) : lst (u ++ v) = lst v := by
  induction u with
  | nil => rfl
  | cons h t ih => rw [List.cons_append, lst_cons h (by simp [n]), ih]
theorem lst_mem {l : List Int} (n : l ≠ []) : lst l ∈ l := by
  unfold lst
  have : l.length - 1 < l.length := by have := List.length_pos_iff.mpr n; omega
  simp [this]
theorem pgo_idx : ∀ {l : List Int} {p x : Int}, x ∈ l → pgo p l x = if l.idxOf x = 0 then p else l.getD (l.idxOf x - 1) 0
  | [], _, _, h => by cases h
  | h :: t, p, x, hx => by
    unfold pgo
    rw [List.idxOf_cons]
    by_cases e : h = x
    · rw [if_pos e, e]; simp
    · rw [if_neg e]
      have e2 : (h == x) = false := beq_false_of_ne e
      rw [e2]
      have hx' : x ∈ t := (List.mem_cons.mp hx).resolve_left (fun z => e z.symm)
      rw [pgo_idx hx']
      simp only [cond_false]
      rw [if_neg (Nat.succ_ne_zero _)]
      cases q : t.idxOf x with
      | zero => simp
      | succ k => simp
theorem pre_pgo {l : List Int} {x : Int} (h : x ∈ l) : pre l x = pgo (lst l) l x := by
  have ix := List.idxOf_lt_length_of_mem h
  rw [pgo_idx h]
  unfold pre cy lst
  rw [md ix]
  split <;> rfl
theorem pgo_mem : ∀ (l : List Int) (p x : Int), pgo p l x = p ∨ pgo p l x ∈ l
  | [], p, x => .inl rfl
  | h :: t, p, x => by
    unfold pgo
    by_cases e : h = x
    · rw [if_pos e]; exact .inl rfl
    · rw [if_neg e]
      rcases pgo_mem t h x with z | z
      · rw [z]; exact .inr List.mem_cons_self
      · exact .inr (List.mem_cons_of_mem _ z)
theorem pgo_erase : ∀ {l : List Int} {p x y : Int}, l.Nodup → p ≠ y → x ∈ l → x ≠ y → pgo p (l.erase y) x = if pgo p l x = y then pgo p l y else pgo p l x
  | [], _, _, _, _, _, h, _ => by cases h
  | h :: t, p, x, y, n, hp, hx, hxy => by
    obtain ⟨n1, n2⟩ := List.nodup_cons.mp n
    by_cases e : h = y
    · subst e
      rw [List.erase_cons_head]
      have hx' : x ∈ t := (List.mem_cons.mp hx).resolve_left hxy
      have a1 : pgo p (h :: t) x = pgo h t x := by show (if h = x then p else pgo h t x) = _; rw [if_neg (fun z => hxy z.symm)]
      have a2 : pgo p (h :: t) h = p := by show (if h = h then p else pgo h t h) = _; rw [if_pos rfl]
      rw [a1, a2]
      cases t with
      | nil => cases hx'
      | cons k s =>
        by_cases e2 : k = x
        · have b1 : pgo p (k :: s) x = p := by show (if k = x then p else pgo k s x) = _; rw [if_pos e2]
          have b2 : pgo h (k :: s) x = h := by show (if k = x then h else pgo k s x) = _; rw [if_pos e2]
          rw [b1, b2, if_pos rfl]
        · have b1 : pgo p (k :: s) x = pgo k s x := by show (if k = x then p else pgo k s x) = _; rw [if_neg e2]
          have b2 : pgo h (k :: s) x = pgo k s x := by show (if k = x then h else pgo k s x) = _; rw [if_neg e2]
          rw [b1, b2, if_neg]
          intro z
          rcases pgo_mem s k x with y | y
          · rw [y] at z; exact n1 (by rw [← z]; exact List.mem_cons_self)
          · rw [z] at y; exact n1 (List.mem_cons_of_mem _ y)
    · rw [List.erase_cons_tail (by simpa using e)]
      by_cases e2 : h = x
      · have b1 : ∀ s, pgo p (h :: s) x = p := fun s => by show (if h = x then p else pgo h s x) = _; rw [if_pos e2]
        rw [b1, b1, if_neg hp]
      · have hx' : x ∈ t := (List.mem_cons.mp hx).resolve_left (fun z => e2 z.symm)
        have b1 : ∀ s, pgo p (h :: s) x = pgo h s x := fun s => by show (if h = x then p else pgo h s x) = _; rw [if_neg e2]
        have b2 : pgo p (h :: t) y = pgo h t y := by show (if h = y then p else pgo h t y) = _; rw [if_neg e]
        rw [b1, b1, b2]
        exact pgo_erase n2 e hx' hxy
theorem pgo_left : ∀ {u : List Int} {w : List Int} {p x : Int}, x ∈ u → pgo p (u ++ w) x = pgo p u x
  | [], _, _, _, h => by cases h
  | h :: t, w, p, x, hx => by
    show (if h = x then p else pgo h (t ++ w) x) = if h = x then p else pgo h t x
    by_cases e : h = x
    · rw [if_pos e, if_pos e]
    · rw [if_neg e, if_neg e]
      exact pgo_left ((List.mem_cons.mp hx).resolve_left (fun z => e z.symm))
theorem pgo_end : ∀ {u : List Int} {p y : Int}, y ∉ u → pgo p (u ++ [y]) y = if u = [] then p else lst u
  | [], p, y, _ => by show (if y = y then p else pgo y [] y) = _; rw [if_pos rfl, if_pos rfl]
  | h :: t, p, y, n => by
    have e : h ≠ y := fun z => n (by rw [z]; exact List.mem_cons_self)
    show (if h = y then p else pgo h (t ++ [y]) y) = _
    rw [if_neg e, if_neg (by simp), pgo_end (fun z => n (List.mem_cons_of_mem _ z))]
    by_cases q : t = []
    · subst q; rw [if_pos rfl]; rfl
    · rw [if_neg q, lst_cons h q]
theorem pre_erase {l : List Int} {x y : Int} (n : l.Nodup) (hx : x ∈ l) (hy : y ∈ l) (hxy : x ≠ y) : pre (l.erase y) x = if pre l x = y then pre l y else pre l x := by
  have hx2 : x ∈ l.erase y := (List.mem_erase_of_ne hxy).mpr hx
  rw [pre_pgo hx2, pre_pgo hx, pre_pgo hy]
  obtain ⟨u, v, rfl⟩ := List.append_of_mem hy
  obtain ⟨n1, n2, n3⟩ := List.nodup_append.mp n
  obtain ⟨n4, n5⟩ := List.nodup_cons.mp n2
  have yu : y ∉ u := fun z => n3 y z y List.mem_cons_self rfl
  have ee : (u ++ y :: v).erase y = u ++ v := by rw [List.erase_append_right _ yu, List.erase_cons_head]
  by_cases q : v = []
  · subst q
    rw [ee, List.append_nil]
    have xu : x ∈ u := by
      rcases List.mem_append.mp hx with z | z
      · exact z
      · exact absurd (List.mem_singleton.mp z) hxy
    have u0 : u ≠ [] := fun z => by rw [z] at xu; cases xu
    rw [lst_append u (v := [y]) (by simp), pgo_left xu, pgo_end yu, if_neg u0]
    show pgo (lst u) u x = if pgo y u x = y then lst u else pgo y u x
    cases u with
    | nil => cases xu
    | cons h t =>
      by_cases e : h = x
      · have b : ∀ q, pgo q (h :: t) x = q := fun q => by show (if h = x then q else pgo h t x) = _; rw [if_pos e]
        rw [b, b, if_pos rfl]
      · have b : ∀ q, pgo q (h :: t) x = pgo h t x := fun q => by show (if h = x then q else pgo h t x) = _; rw [if_neg e]
        rw [b, b, if_neg]
        intro z
        rcases pgo_mem t h x with w | w
        · rw [w] at z; exact yu (by rw [← z]; exact List.mem_cons_self)
        · rw [z] at w; exact yu (List.mem_cons_of_mem _ w)
  · have e1 : lst (u ++ y :: v) = lst v := by rw [lst_append u (by simp), lst_cons y q]
    have e2 : lst ((u ++ y :: v).erase y) = lst v := by rw [ee, lst_append u q]
    rw [e1, e2]
    exact pgo_erase n (fun z => n4 (by rw [← z]; exact lst_mem q)) hx hxy
theorem pre_self {l : List Int} {x : Int} (n : l.Nodup) (hx : x ∈ l) (h : pre l x = x) : l = [x] := by
  have ix := List.idxOf_lt_length_of_mem hx
  unfold pre cy at h
  have mx := Nat.mod_lt (l.idxOf x + l.length - 1) (show 0 < l.length by omega)
  have e1 : l.getD ((l.idxOf x + l.length - 1) % l.length) 0 = l[(l.idxOf x + l.length - 1) % l.length] := by simp [mx]
  rw [e1] at h
  have g := List.getElem_idxOf ix
  have e := (List.getElem_inj n).mp (h.trans g.symm)
  rw [md ix] at e
  have l1 : l.length = 1 := by split at e <;> omega
  match l, l1, hx with
  | [z], _, hx => rw [List.mem_singleton.mp hx]
theorem isMap_of {L : List (List Int)} (h : ∀ x : Int, 0 ≤ x → x < L.length → (rowOf L x).Nodup ∧ ∀ y ∈ rowOf L x, 0 ≤ y ∧ y < L.length ∧ y ≠ x ∧ x ∈ rowOf L y) : IsMap L := by
  have at_ : ∀ (i : Nat) (l : List Int), L[i]? = some l → rowOf L (i : Int) = l ∧ (i : Int) < L.length := fun i l e => by
    have hi := (List.getElem?_eq_some_iff.mp e).1
    have := rowOf_at (L := L) (a := (i : Int)) (by omega) (by omega)
    rw [Int.toNat_natCast, e] at this
    exact ⟨(Option.some.inj this).symm, by omega⟩
  refine ⟨fun i l e => ?_, fun i l e x hx => ?_, fun i l e x hx j hj m em => ?_⟩
  · obtain ⟨e1, e2⟩ := at_ i l e
    rw [← e1]; exact (h i (by omega) e2).1
  · obtain ⟨e1, e2⟩ := at_ i l e
    rw [← e1] at hx
    have := (h i (by omega) e2).2 x hx
    exact ⟨this.1, this.2.1, this.2.2.1⟩
  · obtain ⟨e1, e2⟩ := at_ i l e
    obtain ⟨e3, e4⟩ := at_ j m em
    rw [← e1] at hx
    have := ((h i (by omega) e2).2 x hx).2.2.2
    rw [hj, e3] at this
    exact this
def rem (L : List (List Int)) (a b : Int) : List (List Int) := (L.set a.toNat ((rowOf L a).erase b)).set b.toNat ((rowOf L b).erase a)
section
variable {L : List (List Int)} {a b : Int}
theorem rem_len : (rem L a b).length = L.length := by unfold rem; simp
theorem rem_row (m : IsMap L) (h : Dt L (a, b)) {x : Int} (hx : 0 ≤ x) : rowOf (rem L a b) x = if x = b then (rowOf L b).erase a else if x = a then (rowOf L a).erase b else rowOf L x := by
  obtain ⟨b0, b1, b2, b3⟩ := h.back m
  have a0 := h.lo
  have a1 := h.hi
  dsimp only at a0 a1 b0 b1 b2 b3
  show (rem L a b).getD x.toNat [] = _
  unfold rem
  rw [List.getD_eq_getElem?_getD, List.getElem?_set]
  by_cases e : x = b
  · subst e
    rw [if_pos rfl, if_pos rfl, if_pos (by rw [List.length_set]; omega)]
    rfl
  · rw [if_neg (by omega), if_neg e, List.getElem?_set]
    by_cases e2 : x = a
    · subst e2
      rw [if_pos rfl, if_pos rfl, if_pos (by omega)]
      rfl
    · rw [if_neg (by omega), if_neg e2, ← List.getD_eq_getElem?_getD]
      rfl
theorem rem_mem (m : IsMap L) (h : Dt L (a, b)) {x y : Int} (hx : 0 ≤ x) (hx1 : x < L.length) : y ∈ rowOf (rem L a b) x ↔ y ∈ rowOf L x ∧ ¬ (x = a ∧ y = b) ∧ ¬ (x = b ∧ y = a) := by
  obtain ⟨b0, b1, b2, b3⟩ := h.back m
  have a0 := h.lo
  have a1 := h.hi
  dsimp only at a0 a1 b0 b1 b2 b3
  rw [rem_row m h hx]
  by_cases e : x = b
  · subst e
    rw [if_pos rfl, (m.nd _ _ (rowOf_at hx hx1)).mem_erase_iff]
    constructor
    · rintro ⟨h1, h2⟩; exact ⟨h2, fun z => b2 z.1, fun z => h1 z.2⟩
    · rintro ⟨h1, h2, h3⟩; exact ⟨fun z => h3 ⟨rfl, z⟩, h1⟩
  · rw [if_neg e]
    by_cases e2 : x = a
    · subst e2
      rw [if_pos rfl, (m.nd _ _ (rowOf_at hx hx1)).mem_erase_iff]
      constructor
      · rintro ⟨h1, h2⟩; exact ⟨h2, fun z => h1 z.2, fun z => e z.1⟩
      · rintro ⟨h1, h2, h3⟩; exact ⟨fun z => h2 ⟨rfl, z⟩, h1⟩
    · rw [if_neg e2]
      exact ⟨fun z => ⟨z, fun y => e2 y.1, fun y => e y.1⟩, fun z => z.1⟩
theorem rem_dt (m : IsMap L) (h : Dt L (a, b)) {d : Dart} : Dt (rem L a b) d ↔ Dt L d ∧ d ≠ (a, b) ∧ d ≠ (b, a) := by
  constructor
  · intro q
    have hi := q.hi
    rw [rem_len] at hi
    have := (rem_mem m h q.lo hi).mp q.mem
    exact ⟨⟨q.lo, hi, this.1⟩, fun z => this.2.1 ⟨congrArg Prod.fst z, congrArg Prod.snd z⟩, fun z => this.2.2 ⟨congrArg Prod.fst z, congrArg Prod.snd z⟩⟩
  · rintro ⟨q, h1, h2⟩
    refine ⟨q.lo, by rw [rem_len]; exact q.hi, (rem_mem m h q.lo q.hi).mpr ⟨q.mem, fun z => h1 (Prod.ext z.1 z.2), fun z => h2 (Prod.ext z.1 z.2)⟩⟩
theorem rem_map (m : IsMap L) (h : Dt L (a, b)) : IsMap (rem L a b) := by
  refine isMap_of fun x x0 x1 => ?_
  rw [rem_len] at x1
  have n := m.nd _ _ (rowOf_at x0 x1)
  refine ⟨?_, fun y hy => ?_⟩
  · rw [rem_row m h x0]
    split
    · rename_i e; rw [← e]; exact n.erase _
    · split
      · rename_i e; rw [← e]; exact n.erase _
      · exact n
  · have q := (rem_mem m h x0 x1).mp hy
    obtain ⟨c0, c1, c2, c3⟩ := Dt.back (d := (x, y)) ⟨x0, x1, q.1⟩ m
    rw [rem_len]
    refine ⟨c0, c1, c2, (rem_mem m h c0 c1).mpr ⟨c3, fun z => q.2.2 ⟨z.2, z.1⟩, fun z => q.2.1 ⟨z.2, z.1⟩⟩⟩
theorem rem_nx (m : IsMap L) (h : Dt L (a, b)) {d : Dart} (hd : Dt (rem L a b) d) :
    nx (rem L a b) d = if nx L d = (b, a) then nx L (a, b) else if nx L d = (a, b) then nx L (b, a) else nx L d := by
  obtain ⟨q, h1, h2⟩ := (rem_dt m h).mp hd
  obtain ⟨b0, b1, b2, b3⟩ := h.back m
  obtain ⟨c0, c1, c2, c3⟩ := q.back m
  obtain ⟨x, y⟩ := d
  dsimp only at b0 b1 b2 b3 c0 c1 c2 c3
  have hmem := h.mem
  dsimp only at hmem
  unfold nx
  dsimp only
  rw [rem_row m h c0]
  by_cases e : y = b
  · subst e
    have xa : x ≠ a := fun z => h1 (by rw [z])
    rw [if_pos rfl, pre_erase (m.nd _ _ (rowOf_at c0 c1)) c3 b3 xa]
    by_cases z : pre (rowOf L y) x = a
    · rw [if_pos z, z, if_pos rfl]
    · rw [if_neg z, if_neg (fun w => z (congrArg Prod.snd w)), if_neg (fun w => b2 (congrArg Prod.fst w))]
  · rw [if_neg e]
    by_cases e2 : y = a
    · subst e2
      have xb : x ≠ b := fun z => h2 (by rw [z])
      rw [if_pos rfl, pre_erase (m.nd _ _ (rowOf_at c0 c1)) c3 hmem xb]
      rw [if_neg (fun w => e (congrArg Prod.fst w))]
      by_cases z : pre (rowOf L y) x = b
      · rw [if_pos z, z, if_pos rfl]
      · rw [if_neg z, if_neg (fun w => z (congrArg Prod.snd w))]
    · rw [if_neg e2, if_neg (fun w => e (congrArg Prod.fst w)), if_neg (fun w => e2 (congrArg Prod.fst w))]
end
end Gm
end
section
set_option Elab.async false
set_option linter.all false
set_option maxRecDepth 100000
namespace Gm
open PySem L2
inductive Wk (f : Dart → Dart) : Dart → List Dart → Dart → Prop where
  | nil (x : Dart) : Wk f x [] x
  | cons {x y : Dart} {l : List Dart} : Wk f (f x) l y → Wk f x (x :: l) y
section
variable {f g : Dart → Dart} {x y z w d : Dart} {l m : List Dart}
theorem Wk.append (h : Wk f x l y) (k : Wk f y m z) : Wk f x (l ++ m) z := by
  induction h with
  | nil _ => exact k
  | cons _ ih => exact .cons (ih k)
theorem Wk.split : ∀ {l : List Dart} {x : Dart}, Wk f x (l ++ m) z → ∃ y, Wk f x l y ∧ Wk f y m z
  | [], x, h => ⟨x, .nil x, h⟩
  | a :: l, x, h => by
    cases h with
    | cons h =>
      obtain ⟨y, h1, h2⟩ := Wk.split h
      exact ⟨y, .cons h1, h2⟩
theorem Wk.nil_eq (h : Wk f x [] y) : x = y := by cases h; rfl
theorem Wk.hd (h : Wk f x (d :: l) y) : d = x := by cases h; rfl
theorem Wk.tl (h : Wk f x (d :: l) y) : Wk f (f x) l y := by cases h; assumption
theorem Wk.on (h : Wk f x l y) : ∀ d ∈ l, f d ∈ l ∨ f d = y := by
  induction h with
  | nil _ => intro d hd; cases hd
  | @cons x y l h ih =>
    intro d hd
    rcases List.mem_cons.mp hd with e | e
    · subst e
      cases h with
      | nil _ => exact .inr rfl
      | cons h => exact .inl (List.mem_cons_of_mem _ List.mem_cons_self)
    · rcases ih d e with q | q
      · exact .inl (List.mem_cons_of_mem _ q)
      · exact .inr q
theorem Wk.new (h : Wk f x l y) (n : l ≠ []) (hy : y ∉ l) (h1 : ∀ d ∈ l, f d = y → g d = w) (h2 : ∀ d ∈ l, f d ≠ y → g d = f d) : Wk g x l w := by
  induction h with
  | nil _ => exact absurd rfl n
  | @cons x y l h ih =>
    cases h with
    | nil _ =>
      have : g x = w := h1 x List.mem_cons_self rfl
      rw [← this]
      exact .cons (.nil _)
    | @cons _ _ l2 h =>
      have ne : f x ≠ y := fun q => hy (by rw [← q]; exact List.mem_cons_of_mem _ List.mem_cons_self)
      have e := h2 x List.mem_cons_self ne
      refine .cons ?_
      rw [e]
      exact ih (by simp) (fun q => hy (List.mem_cons_of_mem _ q)) (fun d hd => h1 d (List.mem_cons_of_mem _ hd)) fun d hd => h2 d (List.mem_cons_of_mem _ hd)
theorem Wk.congr (h : Wk f x l y) (e : ∀ d ∈ l, g d = f d) : Wk g x l y := by
  induction h with
  | nil _ => exact .nil _
  | @cons x y l h ih =>
    refine .cons ?_
    rw [e x List.mem_cons_self]
    exact ih fun d hd => e d (List.mem_cons_of_mem _ hd)
end
def Cyc (f : Dart → Dart) (c : List Dart) : Prop := ∃ x l, c = x :: l ∧ Wk f x c x
section
variable {f : Dart → Dart} {c : List Dart} {d : Dart}
theorem Cyc.ne (h : Cyc f c) : c ≠ [] := by obtain ⟨x, l, rfl, _⟩ := h; simp
theorem Cyc.on (h : Cyc f c) (hd : d ∈ c) : f d ∈ c := by
  obtain ⟨x, l, rfl, k⟩ := h
  rcases k.on d hd with q | q
  · exact q
  · rw [q]; exact List.mem_cons_self
theorem Cyc.turn (h : Cyc f c) (hd : d ∈ c) : ∃ v, (d :: v).Perm c ∧ Wk f (f d) v d := by
  obtain ⟨x, l, e, k⟩ := h
  obtain ⟨u, v, rfl⟩ := List.append_of_mem hd
  obtain ⟨y, k1, k2⟩ := k.split
  have := k2.hd
  subst this
  exact ⟨v ++ u, by rw [← List.cons_append]; exact List.perm_append_comm, k2.tl.append k1⟩
end
structure Dec (L : List (List Int)) (R : List (List Dart)) : Prop where
  cyc : ∀ c ∈ R, Cyc (nx L) c
  nd : R.flatten.Nodup
  mem : ∀ d, d ∈ R.flatten ↔ Dt L d
theorem perm_front {α : Type} {x : α} {l : List α} (h : x ∈ l) : ∃ r, l.Perm (x :: r) := by
  obtain ⟨u, v, rfl⟩ := List.append_of_mem h
  exact ⟨u ++ v, List.perm_middle⟩
theorem Dec.perm {L : List (List Int)} {R S : List (List Dart)} (h : Dec L R) (p : R.Perm S) : Dec L S :=
  ⟨fun c hc => h.cyc c (p.mem_iff.mpr hc), (p.flatten.nodup_iff).mp h.nd, fun d => by rw [← p.flatten.mem_iff]; exact h.mem d⟩
theorem Dec.swap {L : List (List Int)} {R : List (List Dart)} {c e : List Dart} (h : Dec L (c :: R)) (p : e.Perm c) (k : Cyc (nx L) e) : Dec L (e :: R) := by
  have q : (e :: R).flatten.Perm (c :: R).flatten := by rw [List.flatten_cons, List.flatten_cons]; exact p.append_right _
  refine ⟨fun s hs => ?_, q.nodup_iff.mpr h.nd, fun d => by rw [q.mem_iff]; exact h.mem d⟩
  rcases List.mem_cons.mp hs with z | z
  · rw [z]; exact k
  · exact h.cyc s (List.mem_cons_of_mem _ z)
theorem Dec.front {L : List (List Int)} {R : List (List Dart)} {d : Dart} (h : Dec L R) (hd : Dt L d) : ∃ v S, Dec L ((d :: v) :: S) ∧ R.length = S.length + 1 ∧ Wk (nx L) (nx L d) v d ∧ (∀ c ∈ S, c ∈ R) := by
  obtain ⟨c, hc, hdc⟩ := List.mem_flatten.mp ((h.mem d).mpr hd)
  obtain ⟨S, p⟩ := perm_front hc
  obtain ⟨v, pv, k⟩ := (h.cyc c hc).turn hdc
  exact ⟨v, S, (h.perm p).swap pv ⟨d, v, rfl, .cons k⟩, p.length_eq, k, fun s hs => p.mem_iff.mpr (List.mem_cons_of_mem _ hs)⟩
section
variable {L : List (List Int)} {a b : Int}
theorem rem_perm (m : IsMap L) (h : Dt L (a, b)) : (dts L L.length).Perm ((a, b) :: (b, a) :: dts (rem L a b) (rem L a b).length) ∧ (dts L L.length).length = (dts (rem L a b) (rem L a b).length).length + 2 := by
  obtain ⟨b0, b1, b2, b3⟩ := h.back m
  have hb : Dt L (b, a) := ⟨b0, b1, b3⟩
  have n2 : ((a, b) :: (b, a) :: dts (rem L a b) (rem L a b).length).Nodup := by
    refine List.nodup_cons.mpr ⟨fun z => ?_, List.nodup_cons.mpr ⟨fun z => ?_, nodup_dts (rem_map m h) (Nat.le_refl _)⟩⟩
    · rcases List.mem_cons.mp z with z | z
      · exact b2 (congrArg Prod.fst z).symm
      · exact ((rem_dt m h).mp (Dt.of z)).2.1 rfl
    · exact ((rem_dt m h).mp (Dt.of z)).2.2 rfl
  have e : ∀ x, x ∈ dts L L.length ↔ x ∈ (a, b) :: (b, a) :: dts (rem L a b) (rem L a b).length := fun x => by
    constructor
    · intro z
      by_cases e1 : x = (a, b)
      · rw [e1]; exact List.mem_cons_self
      · by_cases e2 : x = (b, a)
        · rw [e2]; exact List.mem_cons_of_mem _ List.mem_cons_self
        · exact List.mem_cons_of_mem _ (List.mem_cons_of_mem _ ((rem_dt m h).mpr ⟨Dt.of z, e1, e2⟩).all)
    · intro z
      rcases List.mem_cons.mp z with z | z
      · rw [z]; exact h.all
      · rcases List.mem_cons.mp z with z | z
        · rw [z]; exact hb.all
        · exact ((rem_dt m h).mp (Dt.of z)).1.all
  have n1 := nodup_dts m (Nat.le_refl L.length)
  have l := len_eq n1 n2 e
  refine ⟨?_, by rw [l]; rfl⟩
  exact (List.perm_iff_count.mpr fun x => by
    have c : ∀ {l : List Dart}, l.Nodup → l.count x = if x ∈ l then 1 else 0 := fun {l} hn => by
      by_cases hx : x ∈ l
      · rw [if_pos hx]
        have h1 := List.nodup_iff_count.mp hn x
        have h2 := List.count_pos_iff.mpr hx
        omega
      · rw [if_neg hx, List.count_eq_zero.mpr hx]
    rw [c n1, c n2]
    by_cases hx : x ∈ dts L L.length
    · rw [if_pos hx, if_pos ((e x).mp hx)]
    · rw [if_neg hx, if_neg (fun z => hx ((e x).mpr z))])
theorem rem_dec {R : List (List Dart)} (m : IsMap L) (h : Dt L (a, b)) (D : Dec L R) :
    (∃ A B S, Dec (rem L a b) ((if A = [] then [] else [A]) ++ (if B = [] then [] else [B]) ++ S) ∧ R.length = S.length + 1 ∧ Wk (nx L) (nx L (a, b)) A (b, a) ∧ Wk (nx L) (nx L (b, a)) B (a, b)) ∨
    (∃ A B S, Dec (rem L a b) ((A ++ B) :: S) ∧ R.length = S.length + 2 ∧ A ≠ [] ∧ B ≠ [] ∧ Wk (nx (rem L a b)) (nx L (a, b)) A (nx L (b, a)) ∧ Wk (nx (rem L a b)) (nx L (b, a)) B (nx L (a, b)) ∧ (∀ d ∈ A ++ B, Dt (rem L a b) d)) := by
  obtain ⟨b0, b1, b2, b3⟩ := h.back m
  have hb : Dt L (b, a) := ⟨b0, b1, b3⟩
  have ne : (a, b) ≠ (b, a) := fun z => b2 (congrArg Prod.fst z).symm
  have spec : ∀ d, Dt L d → d ≠ (a, b) → d ≠ (b, a) → nx (rem L a b) d = if nx L d = (b, a) then nx L (a, b) else if nx L d = (a, b) then nx L (b, a) else nx L d := fun d h0 h1 h2 => rem_nx m h ((rem_dt m h).mpr ⟨h0, h1, h2⟩)
  obtain ⟨v, S, D1, len1, kv, _⟩ := D.front h
  have nd1 := D1.nd
  rw [List.flatten_cons, List.cons_append, List.nodup_cons, List.mem_append] at nd1
  obtain ⟨nd1a, nd1b⟩ := nd1
  obtain ⟨ndv, ndS, ndx⟩ := List.nodup_append.mp nd1b
  have dtv : ∀ d ∈ v, Dt L d := fun d hd => (D1.mem d).mp (by rw [List.flatten_cons]; exact List.mem_append_left _ (List.mem_cons_of_mem _ hd))
  by_cases q : (b, a) ∈ v
  · left
    obtain ⟨A, B, rfl⟩ := List.append_of_mem q
    obtain ⟨y, kA, kB⟩ := kv.split
    have := kB.hd
    subst this
    have kB := kB.tl
    obtain ⟨nA, nB, nX⟩ := List.nodup_append.mp ndv
    obtain ⟨nB1, nB2⟩ := List.nodup_cons.mp nB
    have baA : (b, a) ∉ A := fun z => nX _ z _ List.mem_cons_self rfl
    have abA : (a, b) ∉ A := fun z => nd1a (.inl (List.mem_append_left _ z))
    have abB : (a, b) ∉ B := fun z => nd1a (.inl (List.mem_append_right _ (List.mem_cons_of_mem _ z)))
    refine ⟨A, B, S, ⟨fun c hc => ?_, ?_, fun d => ?_⟩, len1, kA, kB⟩
    · rcases List.mem_append.mp hc with hc | hc
      · rcases List.mem_append.mp hc with hc | hc
        · by_cases z : A = []
          · rw [if_pos z] at hc; cases hc
          · rw [if_neg z] at hc
            rw [List.mem_singleton.mp hc]
            have k2 : Wk (nx (rem L a b)) (nx L (a, b)) A (nx L (a, b)) := kA.new z baA (fun d hd e => by rw [spec d (dtv d (List.mem_append_left _ hd)) (fun y => abA (y ▸ hd)) (fun y => baA (y ▸ hd)), if_pos e]) fun d hd e => by
              rw [spec d (dtv d (List.mem_append_left _ hd)) (fun y => abA (y ▸ hd)) (fun y => baA (y ▸ hd)), if_neg e, if_neg]
              intro y
              rcases kA.on d hd with w | w
              · exact abA (y ▸ w)
              · exact e w
            cases A with
            | nil => exact absurd rfl z
            | cons p A => have := k2.hd; subst this; exact ⟨_, _, rfl, k2⟩
        · by_cases z : B = []
          · rw [if_pos z] at hc; cases hc
          · rw [if_neg z] at hc
            rw [List.mem_singleton.mp hc]
            have dB : ∀ d ∈ B, Dt L d := fun d hd => dtv d (List.mem_append_right _ (List.mem_cons_of_mem _ hd))
            have k2 : Wk (nx (rem L a b)) (nx L (b, a)) B (nx L (b, a)) := kB.new z abB (fun d hd e => by rw [spec d (dB d hd) (fun y => abB (y ▸ hd)) (fun y => nB1 (y ▸ hd)), e, if_neg ne, if_pos rfl]) fun d hd e => by
              rw [spec d (dB d hd) (fun y => abB (y ▸ hd)) (fun y => nB1 (y ▸ hd)), if_neg, if_neg e]
              intro y
              rcases kB.on d hd with w | w
              · exact nB1 (y ▸ w)
              · exact e w
            cases B with
            | nil => exact absurd rfl z
            | cons p B => have := k2.hd; subst this; exact ⟨_, _, rfl, k2⟩
      · have cy := D1.cyc c (List.mem_cons_of_mem _ hc)
        have inS : ∀ d ∈ c, d ∈ S.flatten := fun d hd => List.mem_flatten.mpr ⟨c, hc, hd⟩
        have no1 : (a, b) ∉ c := fun z => nd1a (.inr (inS _ z))
        have no2 : (b, a) ∉ c := fun z => ndx _ q _ (inS _ z) rfl
        obtain ⟨p, r, rfl, k⟩ := id cy
        refine ⟨p, r, rfl, k.congr fun d hd => ?_⟩
        have dd : Dt L d := (D1.mem d).mp (by rw [List.flatten_cons]; exact List.mem_append_right _ (inS d hd))
        have on := cy.on hd
        have o1 : nx L d ≠ (b, a) := fun y => no2 (by rw [← y]; exact on)
        have o2 : nx L d ≠ (a, b) := fun y => no1 (by rw [← y]; exact on)
        rw [spec d dd (fun y => no1 (y ▸ hd)) (fun y => no2 (y ▸ hd)), if_neg o1, if_neg o2]
    · have fA : ∀ A : List Dart, (if A = [] then ([] : List (List Dart)) else [A]).flatten = A := fun A => by
        by_cases z : A = []
        · rw [if_pos z, z]; rfl
        · rw [if_neg z]; simp
      rw [List.flatten_append, List.flatten_append, fA, fA, List.append_assoc]
      have : (A ++ (B ++ S.flatten)).Perm (A ++ (B ++ S.flatten)) := List.Perm.refl _
      have e : ((A ++ (b, a) :: B) ++ S.flatten).Perm ((b, a) :: (A ++ (B ++ S.flatten))) := by
        rw [List.append_assoc, List.cons_append]
        exact List.perm_middle
      exact (List.nodup_cons.mp (e.nodup_iff.mp nd1b)).2
    · have fA : ∀ A : List Dart, (if A = [] then ([] : List (List Dart)) else [A]).flatten = A := fun A => by
        by_cases z : A = []
        · rw [if_pos z, z]; rfl
        · rw [if_neg z]; simp
      rw [List.flatten_append, List.flatten_append, fA, fA, List.append_assoc, rem_dt m h, ← D1.mem]
      have e : ((A ++ (b, a) :: B) ++ S.flatten).Perm ((b, a) :: (A ++ (B ++ S.flatten))) := by
        rw [List.append_assoc, List.cons_append]
        exact List.perm_middle
      have e2 := List.nodup_cons.mp (e.nodup_iff.mp nd1b)
      rw [List.flatten_cons, List.cons_append]
      have e3 : (a, b) ∉ A ++ (B ++ S.flatten) := fun z => nd1a (List.mem_append.mp (e.mem_iff.mpr (List.mem_cons_of_mem _ z)))
      constructor
      · intro z
        exact ⟨List.mem_cons_of_mem _ (e.mem_iff.mpr (List.mem_cons_of_mem _ z)), fun y => e3 (y ▸ z), fun y => e2.1 (y ▸ z)⟩
      · rintro ⟨z, z1, z2⟩
        rcases List.mem_cons.mp z with z | z
        · exact absurd z z1
        · rcases List.mem_cons.mp (e.mem_iff.mp z) with z | z
          · exact absurd z z2
          · exact z
  · right
    have q2 : (b, a) ∈ S.flatten := by
      have := (D1.mem (b, a)).mpr hb
      rw [List.flatten_cons, List.cons_append] at this
      rcases List.mem_cons.mp this with z | z
      · exact absurd z.symm ne
      · rcases List.mem_append.mp z with z | z
        · exact absurd z q
        · exact z
    obtain ⟨c, hc, hbc⟩ := List.mem_flatten.mp q2
    obtain ⟨T, pT⟩ := perm_front hc
    obtain ⟨w, pw, kw⟩ := (D1.cyc c (List.mem_cons_of_mem _ hc)).turn hbc
    have pS : S.flatten.Perm (((b, a) :: w) ++ T.flatten) := by
      refine pT.flatten.trans ?_
      rw [List.flatten_cons]
      exact pw.symm.append_right _
    have nS := pS.nodup_iff.mp ndS
    rw [List.cons_append, List.nodup_cons, List.mem_append] at nS
    obtain ⟨nS1, nS2⟩ := nS
    have abS : (a, b) ∉ S.flatten := fun z => nd1a (.inr z)
    have abw : (a, b) ∉ w := fun z => abS (pS.mem_iff.mpr (List.mem_append_left _ (List.mem_cons_of_mem _ z)))
    have baw : (b, a) ∉ w := fun z => nS1 (.inl z)
    have abv : (a, b) ∉ v := fun z => nd1a (.inl z)
    have dtw : ∀ d ∈ w, Dt L d := fun d hd => (D1.mem d).mp (by rw [List.flatten_cons]; exact List.mem_append_right _ (pS.mem_iff.mpr (List.mem_append_left _ (List.mem_cons_of_mem _ hd))))
    have v0 : v ≠ [] := fun z => by
      rw [z] at kv
      have : nx L (a, b) = (a, b) := kv.nil_eq
      exact b2 (congrArg Prod.fst this)
    have w0 : w ≠ [] := fun z => by
      rw [z] at kw
      have : nx L (b, a) = (b, a) := kw.nil_eq
      exact b2 (congrArg Prod.fst this).symm
    have k1 : Wk (nx (rem L a b)) (nx L (a, b)) v (nx L (b, a)) := kv.new v0 abv (fun d hd e => by rw [spec d (dtv d hd) (fun y => abv (y ▸ hd)) (fun y => q (y ▸ hd)), e, if_neg ne, if_pos rfl]) fun d hd e => by
      rw [spec d (dtv d hd) (fun y => abv (y ▸ hd)) (fun y => q (y ▸ hd)), if_neg, if_neg e]
      intro y
      rcases kv.on d hd with u | u
      · exact q (y ▸ u)
      · exact e u
    have k2 : Wk (nx (rem L a b)) (nx L (b, a)) w (nx L (a, b)) := kw.new w0 baw (fun d hd e => by rw [spec d (dtw d hd) (fun y => abw (y ▸ hd)) (fun y => baw (y ▸ hd)), if_pos e]) fun d hd e => by
      rw [spec d (dtw d hd) (fun y => abw (y ▸ hd)) (fun y => baw (y ▸ hd)), if_neg e, if_neg]
      intro y
      rcases kw.on d hd with u | u
      · exact abw (y ▸ u)
      · exact e u
    have pe : ((a, b) :: (v ++ S.flatten)).Perm ((a, b) :: (b, a) :: ((v ++ w) ++ T.flatten)) := by
      refine List.Perm.cons _ ?_
      rw [List.append_assoc]
      exact (pS.append_left v).trans (by rw [List.cons_append]; exact List.perm_middle)
    have nA : ((a, b) :: (b, a) :: ((v ++ w) ++ T.flatten)).Nodup := pe.nodup_iff.mp (List.nodup_cons.mpr ⟨fun z => nd1a (List.mem_append.mp z), nd1b⟩)
    obtain ⟨nA1, nA2⟩ := List.nodup_cons.mp nA
    obtain ⟨nA3, nA4⟩ := List.nodup_cons.mp nA2
    have mm : ∀ d, d ∈ (v ++ w) ++ T.flatten ↔ Dt (rem L a b) d := fun d => by
      rw [rem_dt m h, ← D1.mem, List.flatten_cons, List.cons_append, pe.mem_iff]
      constructor
      · intro z
        exact ⟨List.mem_cons_of_mem _ (List.mem_cons_of_mem _ z), fun y => nA1 (List.mem_cons_of_mem _ (y ▸ z)), fun y => nA3 (y ▸ z)⟩
      · rintro ⟨z, z1, z2⟩
        rcases List.mem_cons.mp z with z | z
        · exact absurd z z1
        · rcases List.mem_cons.mp z with z | z
          · exact absurd z z2
          · exact z
    refine ⟨v, w, T, ⟨fun s hs => ?_, by rw [List.flatten_cons]; exact nA4, fun d => by rw [List.flatten_cons]; exact mm d⟩, by rw [len1, pT.length_eq]; rfl, v0, w0, k1, k2, fun d hd => (mm d).mp (List.mem_append_left _ hd)⟩
    rcases List.mem_cons.mp hs with z | z
    · rw [z]
      have k := k1.append k2
      cases v with
      | nil => exact absurd rfl v0
      | cons p v => have := k1.hd; subst this; exact ⟨_, _, rfl, k⟩
    · have hsS : s ∈ S := pT.mem_iff.mpr (List.mem_cons_of_mem _ z)
      have cy := D1.cyc s (List.mem_cons_of_mem _ hsS)
      have inT : ∀ d ∈ s, d ∈ T.flatten := fun d hd => List.mem_flatten.mpr ⟨s, z, hd⟩
      have no1 : (a, b) ∉ s := fun y => nA1 (List.mem_cons_of_mem _ (List.mem_append_right _ (inT _ y)))
      have no2 : (b, a) ∉ s := fun y => nA3 (List.mem_append_right _ (inT _ y))
      obtain ⟨p, r, rfl, k⟩ := id cy
      refine ⟨p, r, rfl, k.congr fun d hd => ?_⟩
      have dd : Dt L d := ((rem_dt m h).mp ((mm d).mp (List.mem_append_right _ (inT d hd)))).1
      have on := cy.on hd
      have o1 : nx L d ≠ (b, a) := fun y => no2 (by rw [← y]; exact on)
      have o2 : nx L d ≠ (a, b) := fun y => no1 (by rw [← y]; exact on)
      rw [spec d dd (fun y => no1 (y ▸ hd)) (fun y => no2 (y ▸ hd)), if_neg o1, if_neg o2]
end
end Gm
end
section
set_option Elab.async false
set_option linter.all false
set_option maxRecDepth 100000
namespace Gm
open PySem L2
def iso (L : List (List Int)) : Nat := L.countP (·.isEmpty)
def Spans (L : List (List Int)) (S : List Int) : Prop := ∀ x : Int, 0 ≤ x → x < L.length → ∃ s ∈ S, Reach L s x
theorem Reach.one {L : List (List Int)} {s : Int} {d : Dart} (h : Reach L s d.1) (q : Dt L d) : Reach L s d.2 := by
  have e : ((d.1.toNat : Nat) : Int) = d.1 := Int.toNat_of_nonneg q.lo
  exact .step (i := d.1.toNat) (by rw [e]; exact h) (rowOf_at q.lo q.hi) q.mem
theorem Reach.trans {L : List (List Int)} {s x y : Int} (h : Reach L s x) (k : Reach L x y) : Reach L s y := by
  induction k with
  | here => exact h
  | step _ e hx ih => exact .step ih e hx
theorem Reach.dart {L : List (List Int)} {i : Nat} {l : List Int} {x : Int} (e : L[i]? = some l) (hx : x ∈ l) : Dt L ((i : Int), x) := by
  have hi := (List.getElem?_eq_some_iff.mp e).1
  have := rowOf_at (L := L) (a := (i : Int)) (by omega) (by omega)
  rw [Int.toNat_natCast, e] at this
  exact ⟨by simp, by simpa using hi, by rw [← Option.some.inj this]; exact hx⟩
section
variable {L : List (List Int)} {a b : Int}
theorem Reach.off (m : IsMap L) (h : Dt L (a, b)) {s x : Int} (r : Reach L s x) : Reach (rem L a b) s x ∨ Reach (rem L a b) a x ∨ Reach (rem L a b) b x := by
  induction r with
  | here => exact .inl .here
  | step r e hx ih =>
    rename_i i l y
    have d := Reach.dart e hx
    by_cases e1 : ((i : Int), y) = (a, b)
    · have : y = b := congrArg Prod.snd e1
      rw [this]; exact .inr (.inr .here)
    · by_cases e2 : ((i : Int), y) = (b, a)
      · have : y = a := congrArg Prod.snd e2
        rw [this]; exact .inr (.inl .here)
      · have d2 := (rem_dt m h).mpr ⟨d, e1, e2⟩
        rcases ih with z | z | z
        · exact .inl (Reach.one (d := ((i : Int), y)) z d2)
        · exact .inr (.inl (Reach.one (d := ((i : Int), y)) z d2))
        · exact .inr (.inr (Reach.one (d := ((i : Int), y)) z d2))
theorem Reach.near (m : IsMap L) (h : Dt L (a, b)) {s x : Int} (r : Reach L s x) : Reach (rem L a b) s x ∨ Reach (rem L a b) s a ∨ Reach (rem L a b) s b := by
  induction r with
  | here => exact .inl .here
  | step r e hx ih =>
    rename_i i l y
    have d := Reach.dart e hx
    rcases ih with z | z
    · by_cases e1 : ((i : Int), y) = (a, b)
      · have : (i : Int) = a := congrArg Prod.fst e1
        rw [this] at z; exact .inr (.inl z)
      · by_cases e2 : ((i : Int), y) = (b, a)
        · have : (i : Int) = b := congrArg Prod.fst e2
          rw [this] at z; exact .inr (.inr z)
        · exact .inl (Reach.one (d := ((i : Int), y)) z ((rem_dt m h).mpr ⟨d, e1, e2⟩))
    · exact .inr z
theorem Wk.reach {x y : Dart} {l : List Dart} (h : Wk (nx L) x l y) (q : ∀ d ∈ l, Dt L d) : Reach L x.1 y.1 := by
  induction h with
  | nil _ => exact .here
  | @cons x y l _ ih =>
    have d := q x List.mem_cons_self
    exact (Reach.one (d := x) .here d).trans (ih fun d hd => q d (List.mem_cons_of_mem _ hd))
theorem Spans.more (m : IsMap L) (h : Dt L (a, b)) {S : List Int} (s : Spans L S) : ∃ t, Spans (rem L a b) (t :: S) := by
  obtain ⟨b0, b1, b2, b3⟩ := h.back m
  obtain ⟨s0, hs0, r0⟩ := s a h.lo h.hi
  have pick : Reach (rem L a b) s0 a ∨ Reach (rem L a b) s0 b := by
    rcases r0.near m h with z | z | z
    · exact .inl z
    · exact .inl z
    · exact .inr z
  rcases pick with p | p
  · refine ⟨b, fun x x0 x1 => ?_⟩
    rw [rem_len] at x1
    obtain ⟨s1, hs1, r1⟩ := s x x0 x1
    rcases r1.off m h with z | z | z
    · exact ⟨s1, List.mem_cons_of_mem _ hs1, z⟩
    · exact ⟨s0, List.mem_cons_of_mem _ hs0, p.trans z⟩
    · exact ⟨b, List.mem_cons_self, z⟩
  · refine ⟨a, fun x x0 x1 => ?_⟩
    rw [rem_len] at x1
    obtain ⟨s1, hs1, r1⟩ := s x x0 x1
    rcases r1.off m h with z | z | z
    · exact ⟨s1, List.mem_cons_of_mem _ hs1, z⟩
    · exact ⟨a, List.mem_cons_self, z⟩
    · exact ⟨s0, List.mem_cons_of_mem _ hs0, p.trans z⟩
theorem Spans.still (m : IsMap L) (h : Dt L (a, b)) (r1 : Reach (rem L a b) a b) (r2 : Reach (rem L a b) b a) {S : List Int} (s : Spans L S) : Spans (rem L a b) S := by
  obtain ⟨s0, hs0, r0⟩ := s a h.lo h.hi
  have pick : Reach (rem L a b) s0 a := by
    rcases r0.near m h with z | z | z
    · exact z
    · exact z
    · exact z.trans r2
  intro x x0 x1
  rw [rem_len] at x1
  obtain ⟨s1, hs1, q⟩ := s x x0 x1
  rcases q.off m h with z | z | z
  · exact ⟨s1, hs1, z⟩
  · exact ⟨s0, hs0, pick.trans z⟩
  · exact ⟨s0, hs0, (pick.trans r1).trans z⟩
theorem rem_iso (m : IsMap L) (h : Dt L (a, b)) : iso (rem L a b) = iso L + (if (rowOf L b).erase a = [] then 1 else 0) + (if (rowOf L a).erase b = [] then 1 else 0) := by
  obtain ⟨b0, b1, b2, b3⟩ := h.back m
  have a0 := h.lo
  have a1 := h.hi
  have hm := h.mem
  dsimp only at a0 a1 b0 b1 b2 b3 hm
  have la : a.toNat < L.length := by omega
  have lb : b.toNat < L.length := by omega
  have ea : L[a.toNat] = rowOf L a := by have := rowOf_at a0 a1; rw [List.getElem?_eq_getElem la] at this; exact Option.some.inj this
  have eb : L[b.toNat] = rowOf L b := by have := rowOf_at b0 b1; rw [List.getElem?_eq_getElem lb] at this; exact Option.some.inj this
  have na : (rowOf L a).isEmpty = false := by cases q : rowOf L a with | nil => rw [q] at hm; cases hm | cons _ _ => rfl
  have nb : (rowOf L b).isEmpty = false := by cases q : rowOf L b with | nil => rw [q] at b3; cases b3 | cons _ _ => rfl
  have iE : ∀ l : List Int, (if l.isEmpty = true then 1 else 0) = (if l = [] then 1 else 0) := fun l => by cases l <;> simp
  unfold iso rem
  have hne : ¬ a.toNat = b.toNat := by omega
  have e1 : (L.set a.toNat ((rowOf L a).erase b))[b.toNat]'(by rw [List.length_set]; exact lb) = rowOf L b := by rw [List.getElem_set, if_neg hne, eb]
  rw [List.countP_set (by rw [List.length_set]; exact lb), List.countP_set la, e1, ea, na, nb, iE, iE]
  simp only [Bool.false_eq_true, if_false, Nat.sub_zero]
  omega
theorem rem_iso_b (m : IsMap L) (h : Dt L (a, b)) : (rowOf L b).erase a = [] ↔ nx L (a, b) = (b, a) := by
  obtain ⟨b0, b1, b2, b3⟩ := h.back m
  dsimp only at b0 b1 b2 b3
  have n := m.nd _ _ (rowOf_at b0 b1)
  constructor
  · intro z
    have : rowOf L b = [a] := by
      obtain ⟨u, v, e⟩ := List.append_of_mem b3
      rw [e] at z n ⊢
      have yu : a ∉ u := fun y => (List.nodup_append.mp n).2.2 a y a List.mem_cons_self rfl
      rw [List.erase_append_right _ yu, List.erase_cons_head] at z
      obtain ⟨z1, z2⟩ := List.append_eq_nil_iff.mp z
      rw [z1, z2]; rfl
    unfold nx
    rw [this]
    refine Prod.ext rfl ?_
    show pre [a] a = a
    unfold pre cy
    simp [Nat.mod_one]
  · intro z
    have e : pre (rowOf L b) a = a := congrArg Prod.snd z
    rw [pre_self n b3 e]
    simp
end
end Gm
end
section
set_option Elab.async false
set_option linter.all false
set_option maxRecDepth 100000
namespace Gm
open PySem L2
theorem Wk.all {f : Dart → Dart} {x y : Dart} {l : List Dart} {P : Dart → Prop} (h : Wk f x l y) (hx : P x) (s : ∀ d ∈ l, P d → P (f d)) : ∀ d ∈ l, P d := by
  induction h with
  | nil _ => intro d hd; cases hd
  | @cons x y l _ ih =>
    intro d hd
    rcases List.mem_cons.mp hd with e | e
    · rw [e]; exact hx
    · exact ih (s x List.mem_cons_self hx) (fun d hd => s d (List.mem_cons_of_mem _ hd)) d e
theorem Cyc.conn {f : Dart → Dart} {c : List Dart} {x y : Dart} {P : Dart → Prop} (h : Cyc f c) (hx : x ∈ c) (hy : y ∈ c) (px : P x) (s : ∀ d ∈ c, P d → P (f d)) : P y := by
  obtain ⟨v, p, k⟩ := h.turn hx
  have k2 : Wk f x (x :: v) x := .cons k
  exact k2.all px (fun d hd => s d (p.mem_iff.mp hd)) y (p.mem_iff.mpr hy)
theorem flat_same {R : List (List Dart)} (n : R.flatten.Nodup) {c e : List Dart} {d : Dart} (hc : c ∈ R) (he : e ∈ R) (h1 : d ∈ c) (h2 : d ∈ e) : c = e := by
  have p := (List.pairwise_flatten.mp n).2
  obtain ⟨i, hi, rfl⟩ := List.mem_iff_getElem.mp hc
  obtain ⟨j, hj, rfl⟩ := List.mem_iff_getElem.mp he
  have q := List.pairwise_iff_getElem.mp p
  rcases Nat.lt_trichotomy i j with z | z | z
  · exact absurd rfl (q i j hi hj z d h1 d h2)
  · subst z; rfl
  · exact absurd rfl (q j i hj hi z d h2 d h1)
def hdD (c : List Dart) : Dart := c.headD (0, 0)
def rep (R : List (List Dart)) (d : Dart) : Dart := ((R.find? fun c => decide (d ∈ c)).map hdD).getD (0, 0)
theorem rep_at {R : List (List Dart)} {d : Dart} (h : d ∈ R.flatten) : ∃ c ∈ R, d ∈ c ∧ rep R d = hdD c := by
  obtain ⟨c, hc, hd⟩ := List.mem_flatten.mp h
  unfold rep
  cases q : R.find? fun c => decide (d ∈ c) with
  | none => have := List.find?_eq_none.mp q c hc; simp [hd] at this
  | some e =>
    have h1 := List.find?_some q
    exact ⟨e, List.mem_of_find?_eq_some q, by simpa using h1, rfl⟩
theorem hd_mem {c : List Dart} (h : c ≠ []) : hdD c ∈ c := by cases c with | nil => exact absurd rfl h | cons a l => exact List.mem_cons_self
theorem Dec.le {L : List (List Int)} {R S : List (List Dart)} (h : Dec L R) (k : Dec L S) : R.length ≤ S.length := by
  have hm : ∀ c ∈ R, hdD c ∈ S.flatten := fun c hc => (k.mem _).mpr ((h.mem _).mp (List.mem_flatten.mpr ⟨c, hc, hd_mem (h.cyc c hc).ne⟩))
  have n : (R.map fun c => rep S (hdD c)).Nodup := by
    have p := (List.pairwise_flatten.mp h.nd).2
    refine List.Pairwise.map _ (fun x y hxy => hxy) (List.Pairwise.imp_of_mem (fun {c e} hc he hce z => ?_) p)
    obtain ⟨c', h1, h2, h3⟩ := rep_at (hm c hc)
    obtain ⟨e', g1, g2, g3⟩ := rep_at (hm e he)
    rw [h3, g3] at z
    have ee : c' = e' := flat_same k.nd h1 g1 (hd_mem (k.cyc c' h1).ne) (by rw [z]; exact hd_mem (k.cyc e' g1).ne)
    subst ee
    have : hdD e ∈ c := (k.cyc c' h1).conn (P := fun d => d ∈ c) h2 g2 (hd_mem (h.cyc c hc).ne) fun d _ hd => (h.cyc c hc).on hd
    exact hce _ this _ (hd_mem (h.cyc e he).ne) rfl
  have := len_le n (r := S.map hdD) fun x hx => by
    obtain ⟨c, hc, rfl⟩ := List.mem_map.mp hx
    obtain ⟨c', h1, h2, h3⟩ := rep_at (hm c hc)
    rw [h3]
    exact List.mem_map.mpr ⟨c', h1, rfl⟩
  simpa using this
theorem Dec.count {L : List (List Int)} {R S : List (List Dart)} (h : Dec L R) (k : Dec L S) : R.length = S.length := Nat.le_antisymm (h.le k) (k.le h)
theorem wk_dj {L : List (List Int)} {r : List Int} (g : Good L r) : ∀ (n s : Nat), Wk (nx L) (dj r s) ((List.range n).map fun j => dj r (j + s)) (dj r (s + n))
  | 0, s => .nil _
  | n + 1, s => by
    have e2 : (List.range (n + 1)).map (fun j => dj r (j + s)) = dj r s :: (List.range n).map (fun j => dj r (j + (s + 1))) := by
      rw [List.range_succ_eq_map, List.map_cons, List.map_map, Nat.zero_add]
      congr 1
      refine List.map_congr_left fun j _ => ?_
      show dj r (j + 1 + s) = _
      congr 1
      omega
    rw [e2]
    refine .cons ?_
    rw [g.st, show s + (n + 1) = s + 1 + n by omega]
    exact wk_dj g n (s + 1)
theorem Good.cyc {L : List (List Int)} {r : List Int} (g : Good L r) : Cyc (nx L) (sh 0 r) := by
  have k := wk_dj g r.length 0
  have e : dj r (0 + r.length) = dj r 0 := dj_mod (by rw [Nat.zero_add, Nat.mod_self, Nat.zero_mod])
  rw [e] at k
  have two := g.two
  have k' : Wk (nx L) (dj r 0) (sh 0 r) (dj r 0) := k
  cases q : sh 0 r with
  | nil => have := sh_len 0 r; rw [q] at this; simp at this; omega
  | cons x l =>
    rw [q] at k'
    have := k'.hd
    subst this
    exact ⟨_, _, rfl, k'⟩
theorem Lands.dec {L R : List (List Int)} (h : Lands L R) : Dec L (R.map (sh 0)) := by
  have e : (R.map (sh 0)).flatten = R.flatMap (sh 0) := rfl
  refine ⟨fun c hc => ?_, by rw [e]; exact h.nd, fun d => ?_⟩
  · obtain ⟨r, hr, rfl⟩ := List.mem_map.mp hc
    exact (h.good r hr).cyc
  · rw [e]
    constructor
    · intro z
      obtain ⟨r, hr, hd⟩ := List.mem_flatMap.mp z
      obtain ⟨j, rfl⟩ := (mem_sh (by have := (h.good r hr).two; omega)).mp hd
      exact (h.good r hr).dt j
    · exact h.all d
theorem mem_dueF {L : List (List Int)} : ∀ {k : Nat} {d : Dart}, k ≤ L.length → (d ∈ dueF L k ↔ 0 ≤ d.1 ∧ d.1 < k ∧ d.1 < d.2 ∧ d.2 < L.length ∧ d.2 ∈ rowOf L d.1)
  | 0, d, _ => by simp only [dueF, List.not_mem_nil, false_iff]; intro h; omega
  | k + 1, d, hk => by
    rw [dueF, List.mem_append, mem_dueF (by omega), List.mem_map]
    have er : L.getD k [] = rowOf L (k : Int) := rfl
    rw [er]
    constructor
    · rintro (⟨h1, h2, h3⟩ | ⟨x, hx, rfl⟩)
      · exact ⟨h1, by omega, h3⟩
      · have := mem_rowF.mp hx
        exact ⟨by simp, by simp; omega, this.1, by have := this.2.1; dsimp only; omega, this.2.2⟩
    · rintro ⟨h1, h2, h3, h4, h5⟩
      by_cases e : d.1 = k
      · right
        rw [e] at h5 h3
        exact ⟨d.2, mem_rowF.mpr ⟨h3, by omega, h5⟩, Prod.ext e.symm rfl⟩
      · left; exact ⟨h1, by omega, h3, h4, h5⟩
theorem nodup_dueF {L : List (List Int)} : ∀ {k : Nat}, k ≤ L.length → (dueF L k).Nodup
  | 0, _ => .nil
  | k + 1, hk => by
    rw [dueF, List.nodup_append]
    refine ⟨nodup_dueF (by omega), ?_, fun a ha b hb z => ?_⟩
    · exact List.Pairwise.map _ (fun x y hxy z => by have := congrArg Prod.snd z; dsimp only at this; omega) (sorted_rowF (i := k) (l := L.getD k []) (L.length - (k + 1)))
    · have := ((mem_dueF (by omega)).mp ha).2.1
      obtain ⟨x, _, rfl⟩ := List.mem_map.mp hb
      rw [z] at this
      simp at this
theorem filt_add : ∀ (l : List Dart) (p : Dart → Bool), l.length = (l.filter p).length + (l.filter fun d => !p d).length
  | [], _ => rfl
  | x :: l, p => by
    have := filt_add l p
    cases q : p x with
    | true => rw [List.filter_cons_of_pos q, List.filter_cons_of_neg (by simp [q]), List.length_cons, List.length_cons]; omega
    | false => rw [List.filter_cons_of_neg (by simp [q]), List.filter_cons_of_pos (by simp [q]), List.length_cons, List.length_cons]; omega
theorem due_half {L : List (List Int)} (m : IsMap L) : (dts L L.length).length = 2 * (dueF L L.length).length := by
  have n := nodup_dts m (Nat.le_refl L.length)
  have nd := nodup_dueF (L := L) (Nat.le_refl L.length)
  have s := filt_add (dts L L.length) (fun d : Dart => decide (d.1 < d.2))
  have e1 : ((dts L L.length).filter fun d => decide (d.1 < d.2)).length = (dueF L L.length).length := by
    refine len_eq (n.filter _) nd fun d => ?_
    rw [List.mem_filter, mem_dueF (Nat.le_refl _)]
    constructor
    · rintro ⟨h1, h2⟩
      have q := Dt.of h1
      exact ⟨q.lo, q.hi, by simpa using h2, (q.back m).2.1, q.mem⟩
    · rintro ⟨h1, h2, h3, h4, h5⟩
      exact ⟨Dt.all ⟨h1, h2, h5⟩, by simpa using h3⟩
  have e2 : ((dts L L.length).filter fun d => !decide (d.1 < d.2)).length = ((dueF L L.length).map fun d => (d.2, d.1)).length := by
    have nd2 : ((dueF L L.length).map fun d => (d.2, d.1)).Nodup := List.Pairwise.map _ (fun x y hxy z => hxy (Prod.ext (congrArg Prod.snd z) (congrArg Prod.fst z))) nd
    refine len_eq (n.filter _) nd2 fun d => ?_
    · rw [List.mem_filter, List.mem_map]
      constructor
      · rintro ⟨h1, h2⟩
        have q := Dt.of h1
        obtain ⟨b0, b1, b2, b3⟩ := q.back m
        refine ⟨(d.2, d.1), (mem_dueF (Nat.le_refl _)).mpr ⟨b0, b1, ?_, q.hi, b3⟩, rfl⟩
        have : ¬ d.1 < d.2 := by simpa using h2
        dsimp only
        omega
      · rintro ⟨e, he, rfl⟩
        obtain ⟨h1, h2, h3, h4, h5⟩ := (mem_dueF (Nat.le_refl _)).mp he
        obtain ⟨b0, b1, b2, b3⟩ := Dt.back (d := e) ⟨h1, h2, h5⟩ m
        refine ⟨Dt.all ⟨b0, b1, b3⟩, ?_⟩
        have : ¬ e.2 < e.1 := by omega
        simpa using this
  rw [List.length_map] at e2
  omega
theorem wk_tr {L : List (List Int)} {d : Dart} : ∀ k, Wk (nx L) d (tr L d k) (it L d k)
  | 0 => .nil _
  | k + 1 => by
    have e : tr L d (k + 1) = tr L d k ++ [it L d k] := by unfold tr; rw [List.range_succ, List.map_append]; rfl
    rw [e]
    exact (wk_tr k).append (.cons (.nil _))
theorem tr_cyc {L : List (List Int)} {d : Dart} {k : Nat} (hk : 0 < k) (e : it L d k = d) : Cyc (nx L) (tr L d k) := by
  have w := wk_tr (L := L) (d := d) k
  rw [e] at w
  obtain ⟨j, rfl⟩ : ∃ j, k = j + 1 := ⟨k - 1, by omega⟩
  have e2 : tr L d (j + 1) = d :: (tr L d (j + 1)).tail := by unfold tr; rw [List.range_succ_eq_map]; rfl
  exact ⟨d, _, e2, w⟩
theorem exists_per {L : List (List Int)} {d : Dart} (m : IsMap L) (h : Dt L d) : ∃ k, 0 < k ∧ it L d k = d ∧ NoRet L d k := by
  have go : ∀ n, (∃ k, 0 < k ∧ it L d k = d ∧ NoRet L d k) ∨ NoRet L d (n + 1) := by
    intro n
    induction n with
    | zero => exact .inr fun i h1 h2 => by omega
    | succ n ih =>
      rcases ih with z | z
      · exact .inl z
      · by_cases e : it L d (n + 1) = d
        · exact .inl ⟨n + 1, by omega, e, z⟩
        · refine .inr fun i h1 h2 => ?_
          by_cases q : i = n + 1
          · rw [q]; exact e
          · exact z i h1 (by omega)
  rcases go (dts L L.length).length with z | z
  · exact z
  · have := noRet_le m h z
    omega
structure Dp (L : List (List Int)) (R : List (List Dart)) : Prop where
  cyc : ∀ c ∈ R, Cyc (nx L) c
  nd : R.flatten.Nodup
  dt : ∀ d ∈ R.flatten, Dt L d
section
variable {L : List (List Int)} {R : List (List Dart)} {d : Dart} {k : Nat}
theorem Dp.start : Dp L [] := ⟨by simp, .nil, by simp⟩
theorem Dp.on (p : Dp L R) (h : d ∈ R.flatten) : ∀ t, it L d t ∈ R.flatten
  | 0 => h
  | t + 1 => by
    obtain ⟨c, hc, hd⟩ := List.mem_flatten.mp (p.on h t)
    exact List.mem_flatten.mpr ⟨c, hc, (p.cyc c hc).on hd⟩
theorem Dp.new (p : Dp L R) (hk : 0 < k) (e : it L d k = d) (n : d ∉ R.flatten) (j : Nat) : it L d j ∉ R.flatten := by
  intro h
  refine n ?_
  have := p.on h (k * j - j)
  rw [← it_add, show j + (k * j - j) = k * j from by have := Nat.le_mul_of_pos_left j hk; omega, Nat.mul_comm] at this
  have z := it_mod e (j * k)
  rw [Nat.mul_mod_left] at z
  rw [← z] at this
  exact this
theorem Dp.add (m : IsMap L) (p : Dp L R) (h : Dt L d) (hk : 0 < k) (e : it L d k = d) (nr : NoRet L d k) (n : d ∉ R.flatten) : Dp L (R ++ [tr L d k]) := by
  refine ⟨fun c hc => ?_, ?_, fun x hx => ?_⟩
  · rcases List.mem_append.mp hc with z | z
    · exact p.cyc c z
    · rw [List.mem_singleton.mp z]; exact tr_cyc hk e
  · rw [List.flatten_append, List.flatten_singleton, List.nodup_append]
    refine ⟨p.nd, tr_nodup m h nr, fun x hx y hy z => ?_⟩
    obtain ⟨j, _, rfl⟩ := List.mem_map.mp hy
    exact p.new hk e n j (z ▸ hx)
  · rw [List.flatten_append, List.flatten_singleton] at hx
    rcases List.mem_append.mp hx with z | z
    · exact p.dt x z
    · obtain ⟨j, _, rfl⟩ := List.mem_map.mp z
      exact it_dt m h j
theorem Dp.len (p : Dp L R) : R.flatten.length ≤ (dts L L.length).length := len_le p.nd fun x hx => (p.dt x hx).all
theorem Dp.few : ∀ {R : List (List Dart)}, (∀ c ∈ R, c ≠ []) → R.length ≤ R.flatten.length
  | [], _ => Nat.le_refl _
  | c :: R, h => by
    have := Dp.few (R := R) fun x hx => h x (List.mem_cons_of_mem _ hx)
    have := List.length_pos_iff.mpr (h c List.mem_cons_self)
    rw [List.flatten_cons, List.length_append, List.length_cons]
    omega
theorem Dp.dec (p : Dp L R) (all : ∀ d, Dt L d → d ∈ R.flatten) : Dec L R := ⟨p.cyc, p.nd, fun d => ⟨p.dt d, all d⟩⟩
end
end Gm
end
section
set_option Elab.async false
set_option linter.all false
set_option maxRecDepth 100000
namespace L2
open PySem PySem.Spec PySem.W PySem.Calls PyProof.Rows
section
variable {X : Cx}
def ddup (ns : List Int) : List Int := ns.foldl step_dedup []
def rSetI (K : Frag) : List V → Hp → VK → Prop := fun vs H Q => ∃ (a : Addr) (ns : List Int), vs = [.ref a] ∧ SqL K H a (ns.map V.int) ∧ ns.length ≤ 1000 ∧ ∀ (p : Addr) (S : Int → Bool), H p = none → Q (.ref p) (upd H p (.set S (ddup ns).length))
def rIsB : R2 := fun x y H Q => ∃ a b : Bool, x = .bl a ∧ y = .bl b ∧ Q (.bl (a == b)) H
def rInP (K : Frag) : R2 := fun x y H Q => ∃ (p l : Addr) (d : Int × Int) (ps : List Addr) (T : List (Int × Int)), x = .ref p ∧ y = .ref l ∧ H p = some (.tup [.int d.1, .int d.2]) ∧ H l = some (.lst (ps.map V.ref)) ∧ Gm.PR H ps T ∧ Q (.bl (decide (d ∈ T))) H
def rRemove : V → List V → Hp → VK → Prop := fun x vs H Q => ∃ (l : Addr) (ns : List Int) (y : Int), x = .ref l ∧ vs = [.int y] ∧ H l = some (.lst (ns.map V.int)) ∧ y ∈ ns ∧ Q .non (upd H l (.lst ((ns.erase y).map V.int)))
end
end L2
end
section
set_option Elab.async false
set_option linter.all false
set_option maxRecDepth 100000
namespace Gm
open PySem L2
theorem exists_dec {L : List (List Int)} (m : IsMap L) : ∃ R, Dec L R := by
  have go : ∀ ds : List Dart, (∀ d ∈ ds, Dt L d) → ∃ R, Dp L R ∧ ∀ d ∈ ds, d ∈ R.flatten := by
    intro ds
    induction ds with
    | nil => intro _; exact ⟨[], Dp.start, by simp⟩
    | cons d ds ih =>
      intro h
      obtain ⟨R, p, q⟩ := ih fun x hx => h x (List.mem_cons_of_mem _ hx)
      by_cases e : d ∈ R.flatten
      · refine ⟨R, p, fun x hx => ?_⟩
        rcases List.mem_cons.mp hx with z | z
        · rw [z]; exact e
        · exact q x z
      · have dt := h d List.mem_cons_self
        obtain ⟨k, k0, ek, nr⟩ := exists_per m dt
        refine ⟨_, p.add m dt k0 ek nr e, fun x hx => ?_⟩
        rw [List.flatten_append, List.flatten_singleton]
        rcases List.mem_cons.mp hx with z | z
        · rw [z]; exact List.mem_append_right _ (List.mem_map.mpr ⟨0, List.mem_range.mpr k0, rfl⟩)
        · exact List.mem_append_left _ (q x z)
  obtain ⟨R, p, q⟩ := go (dts L L.length) fun d hd => Dt.of hd
  exact ⟨R, p.dec fun d hd => q d hd.all⟩
theorem Wk.last {f : Dart → Dart} {x y : Dart} {l : List Dart} (h : Wk f x l y) (n : l ≠ []) : ∃ d ∈ l, f d = y := by
  induction h with
  | nil _ => exact absurd rfl n
  | @cons x y l k ih =>
    cases l with
    | nil => exact ⟨x, List.mem_cons_self, k.nil_eq⟩
    | cons p l =>
      obtain ⟨d, hd, e⟩ := ih (by simp)
      exact ⟨d, List.mem_cons_of_mem _ hd, e⟩
section
variable {M : List (List Int)} {a b z1 z2 : Int}
theorem add_dec {R R' : List (List Dart)} (m' : IsMap M) (h : Dt M (a, b)) (f1 : nx M (z1, a) = (a, b)) (f2 : nx M (z2, b) = (b, a)) (d1 : Dt (rem M a b) (z1, a)) (d2 : Dt (rem M a b) (z2, b)) (D : Dec (rem M a b) R) (D' : Dec M R')
    (conn : ∀ P : Dart → Prop, P (z1, a) → (∀ d, Dt (rem M a b) d → P d → P (nx (rem M a b) d)) → P (z2, b)) : R'.length = R.length + 1 ∧ iso M = iso (rem M a b) := by
  obtain ⟨b0, b1, b2, b3⟩ := h.back m'
  have hb : Dt M (b, a) := ⟨b0, b1, b3⟩
  have o1 := (rem_dt m' h).mp d1
  have o2 := (rem_dt m' h).mp d2
  have x1 : nx M (a, b) ≠ (b, a) := fun z => o2.2.1 (nx_inj m' h o2.1 (z.trans f2.symm)).symm
  have x2 : nx M (b, a) ≠ (a, b) := fun z => o1.2.2 (nx_inj m' hb o1.1 (z.trans f1.symm)).symm
  have i1 : ¬ (rowOf M b).erase a = [] := fun z => x1 ((rem_iso_b m' h).mp z)
  have i2 : ¬ (rowOf M a).erase b = [] := fun z => x2 ((rem_iso_b m' hb).mp z)
  have iE := rem_iso m' h
  rw [if_neg i1, if_neg i2] at iE
  refine ⟨?_, iE.symm⟩
  rcases rem_dec m' h D' with ⟨A, B, S, DL, lR, kA, kB⟩ | ⟨A, B, S, DL, lR, _⟩
  · exfalso
    have A0 : A ≠ [] := fun z => by rw [z] at kA; exact x1 kA.nil_eq
    have B0 : B ≠ [] := fun z => by rw [z] at kB; exact x2 kB.nil_eq
    rw [if_neg A0, if_neg B0] at DL
    have inA : ∀ d ∈ A, Dt M d := fun d hd => ((rem_dt m' h).mp ((DL.mem d).mp (List.mem_flatten.mpr ⟨A, by simp, hd⟩))).1
    have inB : ∀ d ∈ B, Dt M d := fun d hd => ((rem_dt m' h).mp ((DL.mem d).mp (List.mem_flatten.mpr ⟨B, by simp, hd⟩))).1
    obtain ⟨p, hp, ep⟩ := kA.last A0
    obtain ⟨q, hq, eq⟩ := kB.last B0
    have pe : p = (z2, b) := nx_inj m' (inA p hp) o2.1 (ep.trans f2.symm)
    have qe : q = (z1, a) := nx_inj m' (inB q hq) o1.1 (eq.trans f1.symm)
    rw [pe] at hp
    rw [qe] at hq
    have cB : Cyc (nx (rem M a b)) B := DL.cyc B (by simp)
    have := conn (fun d => d ∈ B) hq fun d _ hd => cB.on hd
    have nd := DL.nd
    rw [List.flatten_append, List.flatten_append, List.flatten_singleton, List.flatten_singleton, List.append_assoc] at nd
    exact (List.nodup_append.mp nd).2.2 _ hp _ (List.mem_append_left _ this) rfl
  · have := D.count DL
    rw [List.length_cons] at this
    omega
theorem leaf_dec {R R' : List (List Dart)} (m' : IsMap M) (h : Dt M (a, b)) (e1 : nx M (a, b) = (b, a)) (f1 : nx M (z1, a) = (a, b)) (d1 : Dt (rem M a b) (z1, a)) (D : Dec (rem M a b) R) (D' : Dec M R') : R'.length = R.length ∧ iso (rem M a b) = iso M + 1 := by
  obtain ⟨b0, b1, b2, b3⟩ := h.back m'
  have hb : Dt M (b, a) := ⟨b0, b1, b3⟩
  have o1 := (rem_dt m' h).mp d1
  have x2 : nx M (b, a) ≠ (a, b) := fun z => o1.2.2 (nx_inj m' hb o1.1 (z.trans f1.symm)).symm
  have i2 : ¬ (rowOf M a).erase b = [] := fun z => x2 ((rem_iso_b m' hb).mp z)
  have iE := rem_iso m' h
  rw [if_pos ((rem_iso_b m' h).mpr e1), if_neg i2] at iE
  refine ⟨?_, iE⟩
  rcases rem_dec m' h D' with ⟨A, B, S, DL, lR, kA, kB⟩ | ⟨A, B, S, DL, lR, A0, B0, kA, kB, dd⟩
  · have A0 : A = [] := by
      cases A with
      | nil => rfl
      | cons p A =>
        have hp := kA.hd
        have dt : Dt (rem M a b) p := (DL.mem p).mp (List.mem_flatten.mpr ⟨p :: A, by simp, List.mem_cons_self⟩)
        rw [hp, e1] at dt
        exact absurd rfl ((rem_dt m' h).mp dt).2.2
    have B0 : B ≠ [] := fun z => by rw [z] at kB; exact x2 kB.nil_eq
    rw [if_pos A0, if_neg B0] at DL
    have := D.count DL
    rw [List.nil_append, List.singleton_append, List.length_cons] at this
    omega
  · cases A with
    | nil => exact absurd rfl A0
    | cons p A =>
      have hp := kA.hd
      have dt := dd p (by simp)
      rw [hp, e1] at dt
      exact absurd rfl ((rem_dt m' h).mp dt).2.2
end
structure Sheet (L : List (List Int)) : Prop where
  map : IsMap L
  two : 2 ≤ L.length
  span : Spans L [0]
  chi : ∃ R, Dec L R ∧ (L.length : Int) + R.length + iso L = (dueF L L.length).length + 2
theorem Reach.mono {L M : List (List Int)} (h : ∀ d, Dt L d → Dt M d) {s x : Int} (r : Reach L s x) : Reach M s x := by
  induction r with
  | here => exact .here
  | step r e hx ih =>
    rename_i i l y
    exact Reach.one (d := ((i : Int), y)) ih (h _ (Reach.dart e hx))
def both (L : List (List Int)) (a b : Int) (A B : List Int) : List (List Int) := (L.set a.toNat A).set b.toNat B
structure Fresh2 (L : List (List Int)) (a b : Int) (A B : List Int) : Prop where
  map : IsMap L
  a0 : 0 ≤ a
  a1 : a < L.length
  b0 : 0 ≤ b
  b1 : b < L.length
  ne : a ≠ b
  no : b ∉ rowOf L a
  pa : A.Perm (b :: rowOf L a)
  pb : B.Perm (a :: rowOf L b)
  ea : A.erase b = rowOf L a
  eb : B.erase a = rowOf L b
section
variable {L : List (List Int)} {a b : Int} {A B : List Int}
theorem Fresh2.no' (F : Fresh2 L a b A B) : a ∉ rowOf L b := fun z => F.no (Dt.back (d := (b, a)) ⟨F.b0, F.b1, z⟩ F.map).2.2.2
theorem both_len : (both L a b A B).length = L.length := by unfold both; simp
theorem Fresh2.row (F : Fresh2 L a b A B) {x : Int} (hx : 0 ≤ x) : rowOf (both L a b A B) x = if x = b then B else if x = a then A else rowOf L x := by
  have := F.a0; have := F.a1; have := F.b0; have := F.b1; have := F.ne
  show (both L a b A B).getD x.toNat [] = _
  unfold both
  rw [List.getD_eq_getElem?_getD, List.getElem?_set]
  by_cases e : x = b
  · subst e
    rw [if_pos rfl, if_pos rfl, if_pos (by rw [List.length_set]; omega)]
    rfl
  · rw [if_neg (by omega), if_neg e, List.getElem?_set]
    by_cases e2 : x = a
    · subst e2
      rw [if_pos rfl, if_pos rfl, if_pos (by omega)]
      rfl
    · rw [if_neg (by omega), if_neg e2, ← List.getD_eq_getElem?_getD]
      rfl
theorem Fresh2.mem (F : Fresh2 L a b A B) {x y : Int} (hx : 0 ≤ x) : y ∈ rowOf (both L a b A B) x ↔ y ∈ rowOf L x ∨ (x = a ∧ y = b) ∨ (x = b ∧ y = a) := by
  rw [F.row hx]
  by_cases e : x = b
  · subst e
    rw [if_pos rfl, F.pb.mem_iff, List.mem_cons]
    constructor
    · rintro (z | z)
      · exact .inr (.inr ⟨rfl, z⟩)
      · exact .inl z
    · rintro (z | z | z)
      · exact .inr z
      · exact absurd z.1.symm F.ne
      · exact .inl z.2
  · rw [if_neg e]
    by_cases e2 : x = a
    · subst e2
      rw [if_pos rfl, F.pa.mem_iff, List.mem_cons]
      constructor
      · rintro (z | z)
        · exact .inr (.inl ⟨rfl, z⟩)
        · exact .inl z
      · rintro (z | z | z)
        · exact .inr z
        · exact .inl z.2
        · exact absurd z.1 e
    · rw [if_neg e2]
      exact ⟨.inl, fun z => z.elim id fun z => z.elim (fun w => absurd w.1 e2) fun w => absurd w.1 e⟩
theorem Fresh2.isMap (F : Fresh2 L a b A B) : IsMap (both L a b A B) := by
  have := F.a0; have := F.a1; have := F.b0; have := F.b1; have ne := F.ne
  refine isMap_of fun x x0 x1 => ?_
  rw [both_len] at x1 ⊢
  have n := F.map.nd _ _ (rowOf_at x0 x1)
  refine ⟨?_, fun y hy => ?_⟩
  · rw [F.row x0]
    split
    · rename_i e; subst e; exact F.pb.nodup_iff.mpr (List.nodup_cons.mpr ⟨F.no', n⟩)
    · split
      · rename_i e; subst e; exact F.pa.nodup_iff.mpr (List.nodup_cons.mpr ⟨F.no, n⟩)
      · exact n
  · rcases (F.mem x0).mp hy with z | ⟨z, w⟩ | ⟨z, w⟩
    · obtain ⟨c0, c1, c2, c3⟩ := Dt.back (d := (x, y)) ⟨x0, x1, z⟩ F.map
      exact ⟨c0, c1, c2, (F.mem c0).mpr (.inl c3)⟩
    · subst z w
      exact ⟨F.b0, F.b1, ne.symm, (F.mem F.b0).mpr (.inr (.inr ⟨rfl, rfl⟩))⟩
    · subst z w
      exact ⟨F.a0, F.a1, ne, (F.mem F.a0).mpr (.inr (.inl ⟨rfl, rfl⟩))⟩
theorem Fresh2.dt (F : Fresh2 L a b A B) : Dt (both L a b A B) (a, b) := ⟨F.a0, by rw [both_len]; exact F.a1, (F.mem F.a0).mpr (.inr (.inl ⟨rfl, rfl⟩))⟩
theorem Fresh2.rem (F : Fresh2 L a b A B) : rem (both L a b A B) a b = L := by
  have a0 := F.a0; have a1 := F.a1; have b0 := F.b0; have b1 := F.b1; have ne := F.ne
  unfold Gm.rem
  rw [F.row a0, F.row b0, if_neg ne, if_pos rfl, if_pos rfl, F.ea, F.eb]
  unfold both
  apply List.ext_getElem?
  intro i
  rw [List.getElem?_set]
  by_cases e : b.toNat = i
  · rw [if_pos e]
    have : i < L.length := by omega
    rw [if_pos (by simp; omega), ← e, rowOf_at b0 b1]
  · rw [if_neg e, List.getElem?_set]
    by_cases e2 : a.toNat = i
    · rw [if_pos e2, if_pos (by simp; omega), ← e2, rowOf_at a0 a1]
    · rw [if_neg e2, List.getElem?_set, if_neg e, List.getElem?_set, if_neg e2]
theorem Fresh2.sub (F : Fresh2 L a b A B) (d : Dart) (h : Dt L d) : Dt (both L a b A B) d := ⟨h.lo, by rw [both_len]; exact h.hi, (F.mem h.lo).mpr (.inl h.mem)⟩
theorem Fresh2.due (F : Fresh2 L a b A B) : (dueF (both L a b A B) L.length).length = (dueF L L.length).length + 1 := by
  have h1 := (rem_perm F.isMap F.dt).2
  rw [F.rem] at h1
  have h2 := due_half F.isMap
  have h3 := due_half F.map
  rw [both_len] at h1 h2
  omega
theorem Fresh2.sheet (F : Fresh2 L a b A B) (s : Sheet L) {z1 z2 : Int} (h1 : z1 ∈ rowOf L a) (h2 : z2 ∈ rowOf L b) (f1 : pre A z1 = b) (f2 : pre B z2 = a)
    (conn : ∀ P : Dart → Prop, P (z1, a) → (∀ d, Dt L d → P d → P (nx L d)) → P (z2, b)) : Sheet (both L a b A B) := by
  obtain ⟨c0, c1, c2, c3⟩ := Dt.back (d := (a, z1)) ⟨F.a0, F.a1, h1⟩ F.map
  obtain ⟨e0, e1, e2, e3⟩ := Dt.back (d := (b, z2)) ⟨F.b0, F.b1, h2⟩ F.map
  obtain ⟨R, D, ch⟩ := s.chi
  obtain ⟨R', D'⟩ := exists_dec F.isMap
  have n1 : nx (both L a b A B) (z1, a) = (a, b) := by
    unfold nx; dsimp only; rw [F.row F.a0, if_neg F.ne, if_pos rfl, f1]
  have n2 : nx (both L a b A B) (z2, b) = (b, a) := by
    unfold nx; dsimp only; rw [F.row F.b0, if_pos rfl, f2]
  obtain ⟨l1, l2⟩ := add_dec (R := R) F.isMap F.dt n1 n2 (by rw [F.rem]; exact ⟨c0, c1, c3⟩) (by rw [F.rem]; exact ⟨e0, e1, e3⟩) (by rw [F.rem]; exact D) D' (by rw [F.rem]; exact conn)
  rw [F.rem] at l2
  refine ⟨F.isMap, by rw [both_len]; exact s.two, fun x x0 x1 => ?_, R', D', ?_⟩
  · rw [both_len] at x1
    obtain ⟨t, ht, r⟩ := s.span x x0 x1
    exact ⟨t, ht, r.mono F.sub⟩
  · rw [both_len, F.due, l1, l2]
    omega
end
theorem put_erase : ∀ {l : List Int} {k : Nat} {x : Int}, x ∉ l → (put l k x).erase x = l := fun {l k x} h => by
  unfold put
  rw [List.erase_append_right _ (fun z => h (List.mem_of_mem_take z)), List.erase_cons_head, List.take_append_drop]
theorem pgo_put : ∀ {l : List Int} {p z x : Int}, z ∈ l → x ≠ z → pgo p (put l (l.idxOf z) x) z = x
  | [], _, _, _, h, _ => by cases h
  | h :: t, p, z, x, hz, hx => by
    rw [List.idxOf_cons]
    by_cases e : h = z
    · subst e
      have : (h == h) = true := by simp
      rw [this]
      show pgo p (x :: h :: t) h = x
      show (if x = h then p else if h = h then x else pgo h t h) = x
      rw [if_neg hx, if_pos rfl]
    · have e2 : (h == z) = false := beq_false_of_ne e
      rw [e2]
      show pgo p (h :: put t (t.idxOf z) x) z = x
      show (if h = z then p else pgo h (put t (t.idxOf z) x) z) = x
      rw [if_neg e]
      exact pgo_put ((List.mem_cons.mp hz).resolve_left (fun w => e w.symm)) hx
theorem pre_put {l : List Int} {z x : Int} (hz : z ∈ l) (hx : x ∉ l) : pre (put l (l.idxOf z) x) z = x := by
  rw [pre_pgo (mem_put.mpr (.inr hz))]
  exact pgo_put hz (fun w => hx (w ▸ hz))
theorem snoc_erase {l : List Int} {x : Int} (h : x ∉ l) : (l ++ [x]).erase x = l := by rw [List.erase_append_right _ h, List.erase_cons_head, List.append_nil]
theorem pre_snoc {l : List Int} {y x : Int} : pre ((y :: l) ++ [x]) y = x := by
  rw [pre_pgo (by simp), lst_append (y :: l) (v := [x]) (by simp)]
  show (if y = y then lst [x] else _) = x
  rw [if_pos rfl]; rfl
end Gm
end
section
set_option Elab.async false
set_option linter.all false
set_option maxRecDepth 100000
namespace Gm
open PySem L2
theorem Reach.inv {L : List (List Int)} {s x : Int} (r : Reach L s x) : x = s ∨ ∃ (j : Nat) (l : List Int), L[j]? = some l ∧ x ∈ l := by
  cases r with
  | here => exact .inl rfl
  | step r e hx => exact .inr ⟨_, _, e, hx⟩
theorem Sheet.iso0 {L : List (List Int)} (s : Sheet L) : iso L = 0 := by
  unfold iso
  refine List.countP_eq_zero.mpr fun l hl => ?_
  obtain ⟨i, hi, rfl⟩ := List.mem_iff_getElem.mp hl
  have ei : L[i]? = some L[i] := List.getElem?_eq_getElem hi
  intro z
  have e0 : L[i] = [] := by simpa using z
  have two := s.two
  by_cases h0 : i = 0
  · subst h0
    obtain ⟨t, ht, r⟩ := s.span 1 (by omega) (by omega)
    have : t = 0 := List.mem_singleton.mp ht
    subst this
    have go : ∀ x, Reach L 0 x → x = 0 := fun x r => by
      induction r with
      | here => rfl
      | step r e hx ih =>
        rename_i j l y
        have : j = 0 := by omega
        subst this
        rw [ei] at e
        cases e
        rw [e0] at hx
        cases hx
    exact absurd (go 1 r) (by omega)
  · obtain ⟨t, ht, r⟩ := s.span i (by omega) (by omega)
    have : t = 0 := List.mem_singleton.mp ht
    subst this
    rcases r.inv with w | ⟨j, l, e, hx⟩
    · omega
    · have := s.map.sy _ _ e _ hx i rfl _ ei
      rw [e0] at this
      cases this
theorem Sheet.three {L : List (List Int)} (s : Sheet L) (h3 : 3 ≤ L.length) {R : List (List Dart)} (D : Dec L R) {c : List Dart} (hc : c ∈ R) : 3 ≤ c.length := by
  have dt : ∀ d ∈ c, Dt L d := fun d hd => (D.mem d).mp (List.mem_flatten.mpr ⟨c, hc, hd⟩)
  obtain ⟨x, l, e, k⟩ := D.cyc c hc
  subst e
  have hx := dt x List.mem_cons_self
  obtain ⟨b0, b1, b2, b3⟩ := hx.back s.map
  have k1 := k.tl
  cases l with
  | nil => exact absurd (congrArg Prod.fst k1.nil_eq) b2
  | cons y l =>
    cases l with
    | cons w l => simp
    | nil =>
      exfalso
      have ey := k1.hd
      have ex := k1.tl.nil_eq
      rw [← ey] at ex
      have y1 : y.1 = x.2 := by rw [ey]; rfl
      have y2 : y.2 = x.1 := congrArg Prod.fst ex
      have p1 : pre (rowOf L x.2) x.1 = x.1 := by
        have : y.2 = pre (rowOf L x.2) x.1 := by rw [ey]; rfl
        rw [← this, y2]
      have p2 : pre (rowOf L x.1) x.2 = x.2 := by
        have : pre (rowOf L y.2) y.1 = x.2 := congrArg Prod.snd ex
        rwa [y1, y2] at this
      have r1 := pre_self (s.map.nd _ _ (rowOf_at b0 b1)) b3 p1
      have r2 := pre_self (s.map.nd _ _ (rowOf_at hx.lo hx.hi)) hx.mem p2
      have go : ∀ u, Reach L 0 u → ((u = x.1 ∨ u = x.2) ↔ ((0 : Int) = x.1 ∨ (0 : Int) = x.2)) := fun u r => by
        induction r with
        | here => exact Iff.rfl
        | step r e hv ih =>
          rename_i i l v
          refine Iff.trans ?_ ih
          have d := Reach.dart e hv
          obtain ⟨q0, q1, q2, q3⟩ := d.back s.map
          have dm := d.mem
          dsimp only at q0 q1 q2 q3 dm
          constructor
          · rintro (z | z)
            · rw [z, r2] at q3; exact .inr (List.mem_singleton.mp q3)
            · rw [z, r1] at q3; exact .inl (List.mem_singleton.mp q3)
          · rintro (z | z)
            · rw [z, r2] at dm; exact .inr (List.mem_singleton.mp dm)
            · rw [z, r1] at dm; exact .inl (List.mem_singleton.mp dm)
      have reach : ∀ u : Int, 0 ≤ u → u < L.length → Reach L 0 u := fun u h0 h1 => by
        obtain ⟨t, ht, r⟩ := s.span u h0 h1
        rw [List.mem_singleton.mp ht] at r; exact r
      have z0 := (go x.1 (reach x.1 hx.lo hx.hi)).mp (.inl rfl)
      have l1 := hx.lo
      have c0 := (go 0 (reach 0 (by omega) (by omega))).mpr z0
      have c1 := (go 1 (reach 1 (by omega) (by omega))).mpr z0
      have c2 := (go 2 (reach 2 (by omega) (by omega))).mpr z0
      omega
theorem flat_three : ∀ {R : List (List Dart)}, (∀ c ∈ R, 3 ≤ c.length) → 3 * R.length ≤ R.flatten.length
  | [], _ => Nat.le_refl _
  | c :: R, h => by
    have := flat_three (R := R) fun x hx => h x (List.mem_cons_of_mem _ hx)
    have := h c List.mem_cons_self
    rw [List.flatten_cons, List.length_append, List.length_cons]
    omega
theorem Dec.len {L : List (List Int)} {R : List (List Dart)} (m : IsMap L) (D : Dec L R) : R.flatten.length = (dts L L.length).length :=
  len_eq D.nd (nodup_dts m (Nat.le_refl _)) fun d => (D.mem d).trans ⟨fun h => h.all, fun h => Dt.of h⟩
theorem Sheet.few {L : List (List Int)} (s : Sheet L) (h : L.length ≤ 20) : (dts L L.length).length < 128 := by
  by_cases h3 : 3 ≤ L.length
  · obtain ⟨R, D, ch⟩ := s.chi
    have f := flat_three fun c hc => s.three h3 D hc
    rw [D.len s.map] at f
    have i := s.iso0
    have d := due_half s.map
    omega
  · exact dts_small s.map (by omega)
def lone (L : List (List Int)) : List (List Int) := L ++ [[]]
section
variable {L : List (List Int)}
theorem lone_row {x : Int} (x0 : 0 ≤ x) : rowOf (lone L) x = if x < L.length then rowOf L x else [] := by
  unfold rowOf lone
  rw [List.getD_eq_getElem?_getD, List.getD_eq_getElem?_getD]
  by_cases h : x < L.length
  · rw [if_pos h, List.getElem?_append_left (by omega)]
  · rw [if_neg h, List.getElem?_append_right (by omega)]
    cases q : ([[]] : List (List Int))[x.toNat - L.length]? with
    | none => rfl
    | some l =>
      have := List.mem_of_getElem? q
      rw [List.mem_singleton.mp this]; rfl
theorem lone_dt {d : Dart} : Dt (lone L) d ↔ Dt L d := by
  constructor
  · intro h
    have m := h.mem
    rw [lone_row h.lo] at m
    by_cases z : d.1 < L.length
    · rw [if_pos z] at m; exact ⟨h.lo, z, m⟩
    · rw [if_neg z] at m; cases m
  · intro h
    refine ⟨h.lo, by unfold lone; have := h.hi; simp; omega, ?_⟩
    rw [lone_row h.lo, if_pos h.hi]; exact h.mem
theorem lone_len : (lone L).length = L.length + 1 := by unfold lone; simp
theorem lone_map (m : IsMap L) : IsMap (lone L) := by
  refine isMap_of fun x x0 x1 => ?_
  rw [lone_row x0]
  by_cases z : x < L.length
  · rw [if_pos z]
    refine ⟨m.nd _ _ (rowOf_at x0 z), fun y hy => ?_⟩
    obtain ⟨c0, c1, c2, c3⟩ := Dt.back (d := (x, y)) ⟨x0, z, hy⟩ m
    dsimp only at c0 c1 c2 c3
    rw [lone_row c0, if_pos c1, lone_len]
    exact ⟨c0, by omega, c2, c3⟩
  · rw [if_neg z]; exact ⟨.nil, fun y hy => by cases hy⟩
theorem lone_nx (m : IsMap L) {d : Dart} (h : Dt L d) : nx (lone L) d = nx L d := by
  obtain ⟨b0, b1, b2, b3⟩ := h.back m
  unfold nx
  rw [lone_row b0, if_pos b1]
theorem lone_dec {R : List (List Dart)} (m : IsMap L) (D : Dec L R) : Dec (lone L) R := by
  refine ⟨fun c hc => ?_, D.nd, fun d => (D.mem d).trans lone_dt.symm⟩
  obtain ⟨x, l, e, k⟩ := D.cyc c hc
  exact ⟨x, l, e, k.congr fun d hd => lone_nx m ((D.mem d).mp (List.mem_flatten.mpr ⟨c, hc, hd⟩))⟩
theorem lone_iso : iso (lone L) = iso L + 1 := by unfold iso lone; rw [List.countP_append]; rfl
theorem lone_dts (m : IsMap L) : (dts (lone L) (lone L).length).length = (dts L L.length).length :=
  len_eq (nodup_dts (lone_map m) (Nat.le_refl _)) (nodup_dts m (Nat.le_refl _)) fun d => ⟨fun h => (lone_dt.mp (Dt.of h)).all, fun h => (lone_dt.mpr (Dt.of h)).all⟩
end
structure Pl (L : List (List Int)) (r : List Int) (c1 cj : Nat) (dn : List Nat) (M : List (List Int)) : Prop where
  sh : Sheet M
  len : M.length = L.length + 1
  new : rowOf M (L.length : Int) = dn.map (cy r)
  hd : ∃ rest, dn = c1 :: rest
  keep : ∀ x : Int, 0 ≤ x → x < L.length → (∀ c ∈ dn, cy r c ≠ x) → rowOf M x = rowOf L x
  sub : ∀ d, Dt L d → Dt M d
  le : c1 ≤ cj
  top : cj < r.length
  i1 : ∀ i, cj ≤ i → i + 1 < c1 + r.length → nx M (dj r i) = dj r (i + 1)
  i2 : nx M (dj r (c1 + (r.length - 1))) = (cy r c1, (L.length : Int))
  i3 : nx M (cy r c1, (L.length : Int)) = ((L.length : Int), cy r cj)
  i4 : nx M ((L.length : Int), cy r cj) = dj r cj
section
variable {L : List (List Int)} {r : List Int}
theorem dj_ne {i j : Nat} (n : (sh 0 r).Nodup) (h : i < j) (h2 : j < i + r.length) : dj r i ≠ dj r j := by
  intro z
  have r0 : 0 < r.length := by omega
  have e1 : dj r (i % r.length) = dj r i := dj_mod (Nat.mod_mod _ _)
  have e2 : dj r (j % r.length) = dj r j := dj_mod (Nat.mod_mod _ _)
  have m1 := Nat.mod_lt i r0
  have m2 := Nat.mod_lt j r0
  have at_ : ∀ k (hk : k < r.length), (sh 0 r)[k]'(by rw [sh_len]; exact hk) = dj r k := fun k hk => by
    have := sh_at (s := 0) hk
    rw [List.getElem?_eq_getElem (by rw [sh_len]; exact hk)] at this
    exact Option.some.inj this
  have e3 : i % r.length = j % r.length := by
    refine (List.getElem_inj (h₀ := by rw [sh_len]; exact m1) (h₁ := by rw [sh_len]; exact m2) n).mp ?_
    rw [at_ _ m1, at_ _ m2, e1, e2, z]
  have := Nat.div_add_mod i r.length
  have := Nat.div_add_mod j r.length
  have a : r.length * (i / r.length) < r.length * (j / r.length) := by omega
  have b : i / r.length + 1 ≤ j / r.length := Nat.lt_of_mul_lt_mul_left a
  have c := Nat.mul_le_mul_left r.length b
  rw [Nat.mul_add, Nat.mul_one] at c
  omega
theorem corner_in (g : Good L r) (m : IsMap L) {c : Nat} : cy r (c + (r.length - 1)) ∈ rowOf L (cy r c) ∧ 0 ≤ cy r c ∧ cy r c < L.length ∧ dj r (c + (r.length - 1)) = (cy r (c + (r.length - 1)), cy r c) := by
  have two := g.two
  have e : cy r (c + (r.length - 1) + 1) = cy r c := cy_mod (by rw [show c + (r.length - 1) + 1 = c + r.length by omega, Nat.add_mod_right])
  have d := g.dt (c + (r.length - 1))
  have b := d.back m
  have ed : dj r (c + (r.length - 1)) = (cy r (c + (r.length - 1)), cy r c) := by unfold dj; rw [e]
  rw [ed] at b
  exact ⟨b.2.2.2, b.1, b.2.1, ed⟩
theorem near_n {x : Int} (m : IsMap L) (x0 : 0 ≤ x) (x1 : x < L.length) : (L.length : Int) ∉ rowOf L x := fun z => by
  have := m.rg _ _ (rowOf_at x0 x1) _ z
  omega
theorem Pl.first (s : Sheet L) (g : Good L r) (nd : (Gm.sh 0 r).Nodup) {c : Nat} (hc : c < r.length) :
    Fresh2 (lone L) (cy r c) (L.length : Int) (put (rowOf L (cy r c)) ((rowOf L (cy r c)).idxOf (cy r (c + (r.length - 1)))) L.length) [cy r c] ∧
    Pl L r c c [c] (both (lone L) (cy r c) (L.length : Int) (put (rowOf L (cy r c)) ((rowOf L (cy r c)).idxOf (cy r (c + (r.length - 1)))) L.length) [cy r c]) := by
  have two := g.two
  obtain ⟨z1, x0, x1, ed⟩ := corner_in g s.map (c := c)
  generalize hx : cy r c = x at z1 x0 x1 ed ⊢
  generalize hz : cy r (c + (r.length - 1)) = z at z1 ed ⊢
  have nn := near_n s.map x0 x1
  have lx : rowOf (lone L) x = rowOf L x := by rw [lone_row x0, if_pos x1]
  have ln : rowOf (lone L) (L.length : Int) = [] := by rw [lone_row (by omega), if_neg (by omega)]
  have F : Fresh2 (lone L) x (L.length : Int) (put (rowOf L x) ((rowOf L x).idxOf z) L.length) [x] :=
    ⟨lone_map s.map, x0, by rw [lone_len]; omega, by omega, by rw [lone_len]; omega, by omega, by rw [lx]; exact nn, by rw [lx]; exact put_perm _ _ _, by rw [ln], by rw [lx]; exact put_erase nn, by rw [ln]; simp⟩
  refine ⟨F, ?_⟩
  generalize hM : both (lone L) x (L.length : Int) (put (rowOf L x) ((rowOf L x).idxOf z) L.length) [x] = M at F ⊢
  have FM : IsMap M := hM ▸ F.isMap
  have Fd : Dt M (x, (L.length : Int)) := hM ▸ F.dt
  have Fr : rem M x (L.length : Int) = lone L := hM ▸ F.rem
  have Frow : ∀ {y : Int}, 0 ≤ y → rowOf M y = if y = (L.length : Int) then [x] else if y = x then put (rowOf L x) ((rowOf L x).idxOf z) L.length else rowOf (lone L) y := fun h => hM ▸ F.row h
  have Ml : M.length = L.length + 1 := by rw [← hM, both_len, lone_len]
  have xn : x ≠ (L.length : Int) := by omega
  have sub : ∀ d, Dt L d → Dt M d := fun d hd => hM ▸ F.sub d (lone_dt.mpr hd)
  have f1 : nx M (z, x) = (x, (L.length : Int)) := by unfold nx; dsimp only; rw [Frow x0, if_neg xn, if_pos rfl, pre_put z1 nn]
  have f2 : nx M (x, (L.length : Int)) = ((L.length : Int), x) := by
    unfold nx; dsimp only; rw [Frow (by omega), if_pos rfl]
    refine Prod.ext rfl ?_
    show pre [x] x = x
    unfold pre cy
    simp [Nat.mod_one]
  have dzx : Dt L (z, x) := by
    obtain ⟨c0, c1, c2, c3⟩ := Dt.back (d := (x, z)) ⟨x0, x1, z1⟩ s.map
    exact ⟨c0, c1, c3⟩
  have nxs : ∀ d, Dt L d → d ≠ (z, x) → nx M d = nx L d := fun d hd hne => by
    have h0 := rem_nx FM Fd (d := d) (by rw [Fr]; exact lone_dt.mpr hd)
    rw [Fr, lone_nx s.map hd] at h0
    have dm := sub d hd
    have n1 : nx M d ≠ ((L.length : Int), x) := fun w => by
      have := nx_inj FM dm Fd (w.trans f2.symm)
      rw [this] at hd
      exact near_n s.map x0 x1 hd.mem
    have n2 : nx M d ≠ (x, (L.length : Int)) := fun w => hne (nx_inj FM dm (sub _ dzx) (w.trans f1.symm))
    rw [if_neg n1, if_neg n2] at h0
    exact h0.symm
  have nxn : nx M ((L.length : Int), x) = nx L (z, x) := by
    have h0 := rem_nx FM Fd (d := (z, x)) (by rw [Fr]; exact lone_dt.mpr dzx)
    rw [Fr, lone_nx s.map dzx, f1, if_neg (fun w => xn (congrArg Prod.fst w)), if_pos rfl] at h0
    exact h0.symm
  obtain ⟨R, D, ch⟩ := s.chi
  obtain ⟨R', D'⟩ := exists_dec FM
  obtain ⟨l1, l2⟩ := leaf_dec (R := R) (z1 := z) FM Fd f2 f1 (by rw [Fr]; exact lone_dt.mpr dzx) (by rw [Fr]; exact lone_dec s.map D) D'
  rw [Fr, lone_iso] at l2
  have due : (dueF M M.length).length = (dueF L L.length).length + 1 := by
    have h1 := (rem_perm FM Fd).2
    rw [Fr, lone_dts s.map] at h1
    have h2 := due_half FM
    have h3 := due_half s.map
    omega
  have sht : Sheet M := by
    refine ⟨FM, by have := s.two; omega, fun y y0 y1 => ?_, R', D', ?_⟩
    · by_cases e : y < L.length
      · obtain ⟨t, ht, q⟩ := s.span y y0 e
        exact ⟨t, ht, q.mono sub⟩
      · have ey : y = (L.length : Int) := by rw [Ml] at y1; omega
        obtain ⟨t, ht, q⟩ := s.span x x0 x1
        rw [ey]
        exact ⟨t, ht, Reach.one (d := (x, (L.length : Int))) (q.mono sub) Fd⟩
    · rw [due, Ml, l1]
      omega
  have edz : dj r (c + (r.length - 1)) = (z, x) := ed
  refine ⟨sht, Ml, by rw [Frow (by omega), if_pos rfl, List.map_singleton, hx], ⟨[], rfl⟩, fun y y0 y1 hy => ?_, sub, Nat.le_refl _, hc, fun i hi1 hi2 => ?_, ?_, ?_, ?_⟩
  · have : cy r c ≠ y := hy c (by simp)
    rw [hx] at this
    rw [Frow y0, if_neg (by omega), if_neg (fun w => this w.symm), lone_row y0, if_pos y1]
  · rw [nxs _ (g.dt i) (by rw [← edz]; exact dj_ne nd (by omega) (by omega)), g.st]
  · rw [edz, f1, hx]
  · rw [hx, f2]
  · rw [hx, nxn, ← edz, g.st]
    exact dj_mod (by rw [show c + (r.length - 1) + 1 = c + r.length by omega, Nat.add_mod_right])
theorem Pl.next {M : List (List Int)} {c1 cj c : Nat} {dn : List Nat} (s : Sheet L) (g : Good L r) (nd : (Gm.sh 0 r).Nodup) (p : Pl L r c1 cj dn M) (hc : cj < c) (hc2 : c < r.length) (un : ∀ e ∈ dn, cy r e ≠ cy r c) :
    Fresh2 M (cy r c) (L.length : Int) (put (rowOf L (cy r c)) ((rowOf L (cy r c)).idxOf (cy r (c + (r.length - 1)))) L.length) (rowOf M (L.length : Int) ++ [cy r c]) ∧
    Pl L r c1 c (dn ++ [c]) (both M (cy r c) (L.length : Int) (put (rowOf L (cy r c)) ((rowOf L (cy r c)).idxOf (cy r (c + (r.length - 1)))) L.length) (rowOf M (L.length : Int) ++ [cy r c])) := by
  have two := g.two
  have le := p.le
  obtain ⟨z1, x0, x1, ed⟩ := corner_in g s.map (c := c)
  have rx := p.keep (cy r c) x0 x1 un
  have xnew : cy r c ∉ rowOf M (L.length : Int) := by
    rw [p.new]
    intro w
    obtain ⟨e, he, h⟩ := List.mem_map.mp w
    exact un e he h
  have newp := p.new
  generalize hx : cy r c = x at z1 x0 x1 ed rx xnew ⊢
  generalize hz : cy r (c + (r.length - 1)) = z at z1 ed ⊢
  have nn := near_n s.map x0 x1
  have F : Fresh2 M x (L.length : Int) (put (rowOf L x) ((rowOf L x).idxOf z) L.length) (rowOf M (L.length : Int) ++ [x]) :=
    ⟨p.sh.map, x0, by rw [p.len]; omega, by omega, by rw [p.len]; omega, by omega, by rw [rx]; exact nn, by rw [rx]; exact put_perm _ _ _, List.perm_append_singleton _ _, by rw [rx]; exact put_erase nn, snoc_erase xnew⟩
  refine ⟨F, ?_⟩
  obtain ⟨rest, hd⟩ := p.hd
  have rown : rowOf M (L.length : Int) = cy r c1 :: rest.map (cy r) := by rw [newp, hd]; rfl
  have e1 : dj r (c - 1) = (z, x) := by
    rw [← ed]
    exact (dj_mod (by rw [show c + (r.length - 1) = (c - 1) + r.length by omega, Nat.add_mod_right])).symm
  have dzx : Dt L (z, x) := e1 ▸ g.dt (c - 1)
  have dyn : Dt M (cy r c1, (L.length : Int)) := by
    have := Dt.back (d := ((L.length : Int), cy r c1)) ⟨by simp, by rw [p.len]; simp; omega, by rw [rown]; exact List.mem_cons_self⟩ p.sh.map
    exact ⟨this.1, this.2.1, this.2.2.2⟩
  have f1' : pre (put (rowOf L x) ((rowOf L x).idxOf z) L.length) z = (L.length : Int) := pre_put z1 nn
  have f2' : pre (rowOf M (L.length : Int) ++ [x]) (cy r c1) = x := by rw [rown]; exact pre_snoc
  have conn : ∀ P : Dart → Prop, P (z, x) → (∀ d, Dt M d → P d → P (nx M d)) → P (cy r c1, (L.length : Int)) := fun P h0 hs => by
    have go : ∀ k, c - 1 + k ≤ c1 + (r.length - 1) → P (dj r (c - 1 + k)) := by
      intro k
      induction k with
      | zero => intro _; rw [Nat.add_zero, e1]; exact h0
      | succ k ih =>
        intro hk
        have := hs _ (p.sub _ (g.dt (c - 1 + k))) (ih (by omega))
        rw [p.i1 (c - 1 + k) (by omega) (by omega)] at this
        exact this
    have := go (c1 + (r.length - 1) - (c - 1)) (by omega)
    rw [show c - 1 + (c1 + (r.length - 1) - (c - 1)) = c1 + (r.length - 1) by omega] at this
    have := hs _ (p.sub _ (g.dt _)) this
    rw [p.i2] at this
    exact this
  have sht := F.sheet p.sh (z1 := z) (z2 := cy r c1) (by rw [rx]; exact z1) (by rw [rown]; exact List.mem_cons_self) f1' f2' conn
  generalize hM : both M x (L.length : Int) (put (rowOf L x) ((rowOf L x).idxOf z) L.length) (rowOf M (L.length : Int) ++ [x]) = N at F sht ⊢
  have FM : IsMap N := hM ▸ F.isMap
  have Fd : Dt N (x, (L.length : Int)) := hM ▸ F.dt
  have Fr : rem N x (L.length : Int) = M := hM ▸ F.rem
  have Frow : ∀ {y : Int}, 0 ≤ y → rowOf N y = if y = (L.length : Int) then rowOf M (L.length : Int) ++ [x] else if y = x then put (rowOf L x) ((rowOf L x).idxOf z) L.length else rowOf M y := fun h => hM ▸ F.row h
  have Nl : N.length = L.length + 1 := by rw [← hM, both_len, p.len]
  have xn : x ≠ (L.length : Int) := by omega
  have subM : ∀ d, Dt M d → Dt N d := fun d hd => hM ▸ F.sub d hd
  have f1 : nx N (z, x) = (x, (L.length : Int)) := by unfold nx; dsimp only; rw [Frow x0, if_neg xn, if_pos rfl, f1']
  have f2 : nx N (cy r c1, (L.length : Int)) = ((L.length : Int), x) := by unfold nx; dsimp only; rw [Frow (by omega), if_pos rfl, f2']
  have nxs : ∀ d, Dt M d → d ≠ (z, x) → d ≠ (cy r c1, (L.length : Int)) → nx N d = nx M d := fun d hd hne hne2 => by
    have h0 := rem_nx FM Fd (d := d) (by rw [Fr]; exact hd)
    rw [Fr] at h0
    have dm := subM d hd
    have n1 : nx N d ≠ ((L.length : Int), x) := fun w => hne2 (nx_inj FM dm (subM _ dyn) (w.trans f2.symm))
    have n2 : nx N d ≠ (x, (L.length : Int)) := fun w => hne (nx_inj FM dm (subM _ (p.sub _ dzx)) (w.trans f1.symm))
    rw [if_neg n1, if_neg n2] at h0
    exact h0.symm
  have nxn : nx N ((L.length : Int), x) = nx M (z, x) := by
    have h0 := rem_nx FM Fd (d := (z, x)) (by rw [Fr]; exact p.sub _ dzx)
    rw [Fr, f1, if_neg (fun w => xn (congrArg Prod.fst w)), if_pos rfl] at h0
    exact h0.symm
  have inL : ∀ i, dj r i ≠ (cy r c1, (L.length : Int)) := fun i w => by
    have d := g.dt i
    have := (d.back s.map).2.1
    rw [w] at this
    simp at this
  refine ⟨sht, Nl, ?_, ⟨rest ++ [c], by rw [hd]; rfl⟩, fun y y0 y1 hy => ?_, fun d hd => subM d (p.sub d hd), by omega, hc2, fun i hi1 hi2 => ?_, ?_, ?_, ?_⟩
  · rw [Frow (by omega), if_pos rfl, newp, List.map_append, List.map_singleton, hx]
  · have h1 : cy r c ≠ y := hy c (by simp)
    rw [hx] at h1
    rw [Frow y0, if_neg (by omega), if_neg (fun w => h1 w.symm)]
    exact p.keep y y0 y1 fun e he => hy e (List.mem_append_left _ he)
  · rw [nxs _ (p.sub _ (g.dt i)) (by rw [← e1]; exact (dj_ne nd (by omega) (by omega)).symm) (inL i)]
    exact p.i1 i (by omega) hi2
  · rw [nxs _ (p.sub _ (g.dt _)) (by rw [← e1]; exact (dj_ne nd (by omega) (by omega)).symm) (inL _)]
    exact p.i2
  · rw [f2, hx]
  · rw [hx, nxn, ← e1, p.i1 (c - 1) (by omega) (by omega)]
    rw [show c - 1 + 1 = c by omega]
end
end Gm
end
section
set_option Elab.async false
set_option linter.all false
set_option maxRecDepth 100000
namespace L2
open PySem PySem.Spec PySem.W PySem.Calls PyProof.Rows
theorem pi_listK {X : Cx} {K : Frag} (h : X.K = K) {tg l : Expr} {tl : TE} (hl : PE X l tl) : PI X tg l (iList K tl) := h ▸ pi_list hl
end L2
namespace Gm
open PySem L2
theorem Same.off {H H1 H2 : Hp} {as : List Addr} (e : Same H H1) (fr : ∀ b ∈ as, H b = none) (o : ∀ b u, b ∉ as → H1 b = some u → H2 b = some u) : Same H H2 := fun b u h => o b u (fun z => by rw [fr b z] at h; cases h) (e b u h)
theorem Sheet.pos {L : List (List Int)} {R : List (List Dart)} (s : Sheet L) (D : Dec L R) : 0 < R.length := by
  refine Nat.pos_of_ne_zero fun z => ?_
  have R0 : R = [] := List.length_eq_zero_iff.mp z
  subst R0
  have two := s.two
  have i0 := s.iso0
  unfold iso at i0
  have := List.countP_eq_zero.mp i0 L[0] (List.getElem_mem (by omega))
  cases q : L[0] with
  | nil => rw [q] at this; exact this rfl
  | cons x r =>
    have d := Reach.dart (L := L) (i := 0) (List.getElem?_eq_getElem (by omega)) (by rw [q]; exact List.mem_cons_self)
    have := (D.mem _).mpr d
    cases this
theorem PR.at {H : Hp} : ∀ {ps : List Addr} {T : List (Int × Int)}, PR H ps T → ∀ {i : Nat} {a : Addr}, ps[i]? = some a → ∃ x : Int × Int, T[i]? = some x ∧ H a = some (.tup [.int x.1, .int x.2])
  | _, _, .nil, _, _, e => by simp at e
  | _, _, .cons r t, 0, _, e => by simp at e; subst e; exact ⟨_, rfl, r⟩
  | _, _, .cons r t, i + 1, _, e => by
    obtain ⟨x, h1, h2⟩ := PR.at t (i := i) (by simpa using e)
    exact ⟨x, by simpa using h1, h2⟩
theorem it_succ {L : List (List Int)} {d : Dart} (k : Nat) : it L (nx L d) k = it L d (k + 1) := by
  rw [Nat.add_comm, it_add]; rfl
theorem wk_is_tr {L : List (List Int)} {x y : Dart} {l : List Dart} (h : Wk (nx L) x l y) : l = tr L x l.length ∧ y = it L x l.length := by
  induction h with
  | nil x => exact ⟨rfl, rfl⟩
  | @cons x y l _ ih =>
    obtain ⟨h1, h2⟩ := ih
    refine ⟨?_, by rw [List.length_cons, ← it_succ]; exact h2⟩
    rw [List.length_cons]
    unfold tr
    rw [List.range_succ_eq_map, List.map_cons, List.map_map]
    show x :: l = x :: _
    congr 1
    refine h1.trans ?_
    unfold tr
    refine List.map_congr_left fun j _ => ?_
    exact it_succ j
theorem sh_ring {L : List (List Int)} {d : Dart} {k : Nat} (hk : 0 < k) (e : it L d k = d) : sh 0 (ringOf L d k) = tr L d k := by
  have hl : (ringOf L d k).length = k := by unfold ringOf; simp
  unfold sh tr
  rw [hl]
  exact List.map_congr_left fun j _ => by rw [dj_ring hk e, Nat.add_zero]
theorem Dec.good {L : List (List Int)} {R : List (List Dart)} (m : IsMap L) (D : Dec L R) {c : List Dart} (hc : c ∈ R) : Good L (c.map (·.1)) ∧ sh 0 (c.map (·.1)) = c ∧ c.Nodup := by
  obtain ⟨x, l, e, k⟩ := D.cyc c hc
  obtain ⟨h1, h2⟩ := wk_is_tr k
  have k0 : 0 < c.length := by rw [e]; simp
  have dx : Dt L x := (D.mem x).mp (List.mem_flatten.mpr ⟨c, hc, by rw [e]; exact List.mem_cons_self⟩)
  have er : c.map (·.1) = ringOf L x c.length := by
    conv => lhs; rw [h1]
    unfold ringOf tr
    rw [List.map_map]; rfl
  have hn : c.Nodup := (List.pairwise_flatten.mp D.nd).1 c hc
  rw [er]
  exact ⟨ring_good m dx k0 h2.symm, (sh_ring k0 h2.symm).trans h1.symm, hn⟩
theorem Good.on {L : List (List Int)} {r : List Int} (g : Good L r) {P : Dart → Prop} (hs : ∀ d, Dt L d → P d → P (nx L d)) {i : Nat} (h : P (dj r i)) (j : Nat) : P (dj r j) := by
  have two := g.two
  have go : ∀ k, P (dj r (i + k)) := by
    intro k
    induction k with
    | zero => exact h
    | succ k ih => have := hs _ (g.dt _) ih; rw [g.st] at this; exact this
  have := go (j + i * r.length - i)
  have e : i ≤ i * r.length := Nat.le_mul_of_pos_right i (by omega)
  rw [show i + (j + i * r.length - i) = j + i * r.length by omega] at this
  rw [dj_mod (i := j + i * r.length) (j := j) (by rw [Nat.add_mul_mod_self_right])] at this
  exact this
theorem Sheet.out {L : List (List Int)} {a b : Int} {R : List (List Dart)} (s : Sheet L) (D : Dec L R) (h : Dt L (a, b)) {c : List Dart} (hc : c ∈ R) (h1 : (a, b) ∈ c) (h2 : (b, a) ∉ c) : Sheet (rem L a b) := by
  have m := s.map
  obtain ⟨R0, D0, ch⟩ := s.chi
  rw [← D.count D0] at ch
  have iE := rem_iso m h
  obtain ⟨b0, b1, b2, b3⟩ := h.back m
  have hb : Dt L (b, a) := ⟨b0, b1, b3⟩
  rcases rem_dec m h D with ⟨A, B, S, D', lR, kA, kB⟩ | ⟨A, B, S, D', lR, A0, B0, kA, kB, dd⟩
  · exfalso
    have cy := D.cyc c hc
    have go : ∀ {x y : Dart} {l : List Dart}, Wk (nx L) x l y → x ∈ c → y ∈ c := fun {x y l} w => by
      induction w with
      | nil _ => exact id
      | cons _ ih => exact fun hx => ih (cy.on hx)
    exact h2 (go kA (cy.on h1))
  · have nb : ¬ (rowOf L b).erase a = [] := fun z => by
      cases A with
      | nil => exact A0 rfl
      | cons p A =>
        have hp := kA.hd
        have dt := dd p (by simp)
        rw [hp, (rem_iso_b m h).mp z] at dt
        exact ((rem_dt m h).mp dt).2.2 rfl
    have na : ¬ (rowOf L a).erase b = [] := fun z => by
      cases B with
      | nil => exact B0 rfl
      | cons p B =>
        have hp := kB.hd
        have dt := dd p (by simp)
        rw [hp, (rem_iso_b m hb).mp z] at dt
        exact ((rem_dt m h).mp dt).2.1 rfl
    rw [if_neg nb, if_neg na] at iE
    have r2 : Reach (rem L a b) b a := kA.reach fun d hd => dd d (List.mem_append_left _ hd)
    have r1 : Reach (rem L a b) a b := kB.reach fun d hd => dd d (List.mem_append_right _ hd)
    have hp := (rem_perm m h).2
    have hd1 := due_half m
    have hd2 := due_half (rem_map m h)
    refine ⟨rem_map m h, by rw [rem_len]; exact s.two, s.span.still m h r1 r2, _, D', ?_⟩
    rw [List.length_cons, iE, rem_len]
    rw [rem_len] at hp hd2
    omega
end Gm
end
section
set_option Elab.async false
set_option linter.all false
set_option maxRecDepth 100000
namespace L2
open PySem PySem.Spec PySem.W PySem.Calls PyProof.Rows
def Itz (K : Frag) (a b : Addr) : It :=
  ⟨fun i H => ∃ xs ys x y, SqL K H a xs ∧ SqL K H b ys ∧ xs[i]? = some x ∧ ys[i]? = some y,
   fun i H v H' => ∃ p x y, H p = none ∧ v = .ref p ∧ (∀ xs, SqL K H a xs → xs[i]? = some x) ∧ (∀ ys, SqL K H b ys → ys[i]? = some y) ∧ H' = upd H p (.tup [x, y]),
   fun i H => ∃ xs ys, SqL K H a xs ∧ SqL K H b ys ∧ (xs.length ≤ i ∨ ys.length ≤ i)⟩
theorem turn_zip {P : Program} {w : World} {K : Frag} {elts : List Expr} {kx : Nat} {px : Pos} {a b z TI TO i1 i2 : Addr} (D : ZipApart z TI TO i1 i2 a b) :
    Turn P w K (.Tuple elts kx px) (Itz K a b) [z, TI, TO, i1, i2] z (fun i h => IsZip h z TI TO .none ∧ IsPair h TI (.ref i1) (.ref i2) ∧ (∃ u v, IsPair h TO u v) ∧ h.IsListIter i1 a i ∧ h.IsListIter i2 b i) where
  mem := by simp
  obj := fun i h st c hc => by
    obtain ⟨h1, h2, ⟨u, v, h3⟩, h4, h5⟩ := st
    simp only [List.mem_cons, List.not_mem_nil, or_false] at hc
    rcases hc with rfl | rfl | rfl | rfl | rfl
    · exact ⟨_, h1, fun v q => by cases q⟩
    · exact ⟨_, h2, fun v q => by cases q⟩
    · exact ⟨_, h3, fun v q => by cases q⟩
    · obtain ⟨o, e1, _, d⟩ := h4; exact ⟨o, e1, fun v q => by rw [d] at q; cases q⟩
    · obtain ⟨o, e1, _, d⟩ := h5; exact ⟨o, e1, fun v q => by rw [d] at q; cases q⟩
  keep := fun i h h' st k => by
    obtain ⟨h1, h2, ⟨u, v, h3⟩, h4, h5⟩ := st
    exact ⟨k z (by simp) _ h1, k TI (by simp) _ h2, ⟨u, v, k TO (by simp) _ h3⟩, h4.at fun o q => k i1 (by simp) o q, h5.at fun o q => k i2 (by simp) o q⟩
  item := by
    intro X hP hw hK hc i pins s σ H E I hf st hg
    subst hP hw hK
    obtain ⟨h1, h2, ⟨u, v, h3⟩, h4, h5⟩ := st
    obtain ⟨xs, ys, x, y, hqa, hqb, hx, hy⟩ := hg
    obtain ⟨ia, ra, pa, za⟩ := I.list hqa
    obtain ⟨ib, rb, pb, zb⟩ := I.list hqb
    obtain ⟨u1, hu1, ru1⟩ := ra.get hx
    obtain ⟨u2, hu2, ru2⟩ := rb.get hy
    have lt : ∀ c ∈ [z, TI, TO, i1, i2], c < s.heap.objs.size := fun c hc => by
      simp only [List.mem_cons, List.not_mem_nil, or_false] at hc
      rcases hc with rfl | rfl | rfl | rfl | rfl
      · exact Heap.lt_size h1
      · exact Heap.lt_size h2
      · exact Heap.lt_size h3
      · obtain ⟨_, q, _⟩ := id h4; exact Heap.lt_size q
      · obtain ⟨_, q, _⟩ := id h5; exact Heap.lt_size q
    refine wpAny_pyNext_zip_item D h1 h2 h3 h4 h5 pa.isList pb.isList (x := u1) (y := u2) (by simpa using hu1) (by simpa using hu2) fun h' k1 k2 k3 k4 hT hsz hk => ⟨_, rfl, ?_⟩
    refine wpAny_letOwnedTupleGo_zip k1 fun h2' he2 hs2 => ?_
    have hn : H s.heap.objs.size = none := I.hok.fresh (Nat.le_refl _)
    have nz : s.heap.objs.size ≠ z := Nat.ne_of_gt (lt z (by simp))
    have kk : ∀ c o, c ∉ [z, TI, TO, i1, i2] → s.heap.get? c = some o → h2'.get? c = some o := fun c o hc q => by
      simp only [List.mem_cons, List.not_mem_nil, or_false, not_or] at hc
      exact (hs2.2 c hc.1).trans (hk c o hc.1 hc.2.2.1 hc.2.2.2.1 hc.2.2.2.2 q)
    have hT2 : h2'.get? s.heap.objs.size = some { cls := .type "tuple", data := .seq #[u1, u2] } := (hs2.2 _ nz).trans hT
    refine ⟨.ref s.heap.objs.size, upd H s.heap.objs.size (.tup [x, y]), Inv.turnedLay (s := s) (h' := h2') (t' := s.toks) I kk hf (Nat.le_refl _) ⟨by simp only [List.length_cons, List.length_nil]; rw [sizeLine_eq]; decide, [u1, u2], .cons ru1 (.cons ru2 .nil), ⟨_, hT2, rfl, _, rfl⟩⟩, rfl,
      ⟨_, x, y, hn, rfl, fun ys' hy' => by rw [I.list_inj hy' hqa]; exact hx, fun ys' hy' => by rw [I.list_inj hy' hqb]; exact hy, rfl⟩, ⟨he2, ?_, ⟨u1, u2, (hs2.2 _ D.TOz).trans k2⟩, k3.at fun o q => (hs2.2 i1 D.i1z).trans q, k4.at fun o q => (hs2.2 i2 D.i2z).trans q⟩, fun c hc => ?_⟩
    · exact (hs2.2 _ D.TIz).trans (hk TI _ D.TIz D.TITO D.TIi1 D.TIi2 h2)
    · rw [upd_ne (Nat.ne_of_lt (lt c hc))]
      exact (hf c hc).1
  done := by
    intro X hP hw hK hc i pins s σ H E I hf st hg
    subst hP hw hK
    obtain ⟨h1, h2, ⟨u, v, h3⟩, h4, h5⟩ := st
    obtain ⟨xs, ys, hqa, hqb, hend⟩ := hg
    obtain ⟨ia, ra, pa, za⟩ := I.list hqa
    obtain ⟨ib, rb, pb, zb⟩ := I.list hqb
    have la := ra.length
    have lb := rb.length
    refine wpAny_pyNext_zip_end (I.ok.hd hc) D h1 h2 h3 h4 h5 pa.isList pb.isList ?_ fun h' eb => ⟨rfl, Inv.turnedL (t' := s.toks) (ch := [z, TI, TO, i1, i2]) I (fun c o hc q => ?_) hf⟩
    · rcases hend with q | q
      · left; simp; omega
      · right; simp; omega
    · simp only [List.mem_cons, List.not_mem_nil, or_false, not_or] at hc
      exact eb c o hc.1 hc.2.2.1 hc.2.2.2.1 hc.2.2.2.2 q
  self := fun _ _ _ _ _ st h => wpAny_pyIter_zip st.1 h
def iZip (K : Frag) (ta : TA) : TI := fun σ H R => ta σ H fun vs H1 => ∃ a b, vs = [.ref a, .ref b] ∧ (∃ xs, SqL K H1 a xs) ∧ (∃ ys, SqL K H1 b ys) ∧ R (Itz K a b) H1
theorem boot_zip' : bootBuiltins "zip" = some (.type "zip") := by decide +kernel
theorem pi_zip {X : Cx} {l m : Expr} {ta : TA} {p pos : Pos} {elts : List Expr} {kx : Nat} {px : Pos} (hm : X.mg "zip" = none) (ha : PA X [l, m] ta) (hg : Gl X "zip" := by rfl) (he : starEach [l, m] X.env = (false, eval l X.env) :: starEach [m] X.env := by rfl) (hpl : (backTo pos (starEach [m] X.env)).any (·.1) = false := by rfl) :
    PI X (.Tuple elts kx px) (.Call (.Name "zip" p) [l, m] [] pos) (iZip X.K ta) := by
  intro pins s σ H R I h
  refine Call_ (ld_blt I hg hm boot_zip' (PyProof.Rows.callWith_type1 (thn (ha pos pins s σ H _ I h) fun us s1 ⟨vs, H1, I1, r1, q1⟩ => ?_) he hpl))
  obtain ⟨a, b, rfl, ⟨xs, hqa⟩, ⟨ys, hqb⟩, q⟩ := q1
  obtain ⟨u1, u2, rfl, ru1, ru2⟩ := vals2 r1
  cases ru1
  cases ru2
  obtain ⟨ia, ra, pa, za⟩ := I1.list hqa
  obtain ⟨ib, rb, pb, zb⟩ := I1.list hqb
  have lta : a < s1.heap.objs.size := by obtain ⟨_, e, _⟩ := pa.isList; exact Heap.lt_size e
  have ltb : b < s1.heap.objs.size := by obtain ⟨_, e, _⟩ := pb.isList; exact Heap.lt_size e
  have ne : ∀ {j k : Nat}, j ≠ k → s1.heap.objs.size + j ≠ s1.heap.objs.size + k := fun h z => h (Nat.add_left_cancel z)
  have nl : ∀ {c : Addr} (k : Nat), c < s1.heap.objs.size → c ≠ s1.heap.objs.size + k := fun k l => Nat.ne_of_lt (Nat.lt_of_lt_of_le l (Nat.le_add_right _ _))
  have D : ZipApart (s1.heap.objs.size + 4) (s1.heap.objs.size + 2) (s1.heap.objs.size + 3) s1.heap.objs.size (s1.heap.objs.size + 1) a b :=
    ⟨ne (by decide), ne (by decide), ne (j := 0) (by decide), ne (by decide), ne (by decide), ne (k := 0) (by decide), ne (by decide), ne (k := 0) (by decide), ne (by decide), ne (j := 0) (by decide), nl _ lta, nl _ lta, nl 0 lta, nl _ lta, nl _ ltb, nl _ ltb, nl 0 ltb, nl _ ltb⟩
  refine call_zip_2 pa.isList pb.isList fun h' hz hTI hTO h1 h2 hsz hk => ?_
  refine wpAny_pyIter_zip hz ?_
  have I2 : Inv X pins σ H1 { s1 with heap := h' } := I1.kept (t' := s1.toks) fun c o e => hk c o e
  refine ⟨_, [s1.heap.objs.size + 4, s1.heap.objs.size + 2, s1.heap.objs.size + 3, s1.heap.objs.size, s1.heap.objs.size + 1], _, _, H1, rfl, I2, turn_zip D, ⟨hz, hTI, ⟨_, _, hTO⟩, h1, h2⟩, fun c hc => ?_, q⟩
  have le : s1.heap.objs.size ≤ c := by
    simp only [List.mem_cons, List.not_mem_nil, or_false] at hc
    rcases hc with rfl | rfl | rfl | rfl | rfl
    · exact Nat.le_add_right _ _
    · exact Nat.le_add_right _ _
    · exact Nat.le_add_right _ _
    · exact Nat.le_refl _
    · exact Nat.le_add_right _ _
  exact I1.fpOk le (I1.hok.fresh le)
end L2
end
section
set_option Elab.async false
set_option linter.all false
set_option maxRecDepth 100000
namespace Gm
open PySem L2
theorem Good.it {L : List (List Int)} {r : List Int} (g : Good L r) (j : Nat) : ∀ i, dj r (j + i) = Gm.it L (dj r j) i
  | 0 => rfl
  | i + 1 => by show dj r (j + i + 1) = nx L (Gm.it L (dj r j) i); rw [← g.it j i, g.st]
theorem same_ring {L : List (List Int)} {r q : List Int} (g : Good L r) (k : Good L q) (n1 : (sh 0 r).Nodup) (n2 : (sh 0 q).Nodup) {j : Nat} (h : dj r 0 = dj q j) : ∃ c, c < q.length ∧ r = rot q c := by
  have r0 : 0 < r.length := by have := g.two; omega
  have q0 : 0 < q.length := by have := k.two; omega
  have mem : ∀ x, x ∈ sh 0 r ↔ x ∈ sh 0 q := fun x => by
    have cr := g.cyc
    have cq := k.cyc
    have hr : dj r 0 ∈ sh 0 r := (mem_sh r0).mpr ⟨0, rfl⟩
    have hq : dj r 0 ∈ sh 0 q := (mem_sh q0).mpr ⟨j, h⟩
    constructor
    · intro z; exact cr.conn (P := fun d => d ∈ sh 0 q) hr z hq fun d _ hd => cq.on hd
    · intro z; exact cq.conn (P := fun d => d ∈ sh 0 r) hq z hr fun d _ hd => cr.on hd
  have len : r.length = q.length := by have := len_eq n1 n2 mem; rwa [sh_len, sh_len] at this
  refine ⟨j % q.length, Nat.mod_lt _ q0, ?_⟩
  refine cy_ext (by rw [rot_len (Nat.le_of_lt (Nat.mod_lt _ q0)), len]) fun i => ?_
  rw [cy_rot (Nat.mod_lt _ q0)]
  have e1 : dj r i = dj q (j + i) := by
    have h1 := g.it 0 i
    have h2 := k.it j i
    rw [Nat.zero_add] at h1
    rw [h1, h2, h]
  have e2 : cy r i = cy q (j + i) := congrArg Prod.fst e1
  rw [e2]
  exact cy_mod (by rw [Nat.add_mod_mod, Nat.add_comm])
theorem Lands.sub {L R S : List (List Int)} (h : Lands L R) (k : Lands L S) {r : List Int} (hr : r ∈ R) : r ∈ S := by
  have g := h.good r hr
  have r0 : 0 < r.length := by have := g.two; omega
  obtain ⟨q, hq, hd⟩ := List.mem_flatMap.mp (k.all _ (g.dt 0))
  have kq := k.good q hq
  have q0 : 0 < q.length := by have := kq.two; omega
  obtain ⟨j, ej⟩ := (mem_sh q0).mp hd
  have n1 : (sh 0 r).Nodup := (List.pairwise_flatMap.mp h.nd).1 r hr
  have n2 : (sh 0 q).Nodup := (List.pairwise_flatMap.mp k.nd).1 q hq
  obtain ⟨c, hc, e⟩ := same_ring g kq n1 n2 ej
  have l1 : Le q r := by rw [e]; exact k.least q hq c hc
  have l2 : Le r q := by
    by_cases z : c = 0
    · have : r = q := by rw [e, z]; unfold rot; simp
      rw [this]; exact Le.refl _
    · have hl : r.length = q.length := by rw [e, rot_len (Nat.le_of_lt hc)]
      have := h.least r hr (q.length - c) (by omega)
      rw [e] at this ⊢
      rw [rot_rot hc (by omega), show q.length - c + c = q.length by omega, Nat.mod_self] at this
      have r00 : rot q 0 = q := by unfold rot; simp
      rw [r00] at this
      exact this
  rw [Le.anti l2 l1]; exact hq
def RotEq (a b : List Int) : Prop := a = b ∨ ∃ c, c < b.length ∧ a = rot b c
theorem RotEq.refl (a : List Int) : RotEq a a := .inl rfl
theorem RotEq.len {a b : List Int} (h : RotEq a b) : a.length = b.length := by
  rcases h with rfl | ⟨c, hc, rfl⟩
  · rfl
  · exact rot_len (Nat.le_of_lt hc)
theorem RotEq.idx {a b : List Int} (h : RotEq a b) (n : b.Nodup) {x : Int} {t : List Int} (e : a = x :: t) : x ∈ b ∧ rot b (b.idxOf x) = a := by
  have h' : ∃ c, c < b.length ∧ a = rot b c := by
    rcases h with rfl | h
    · exact ⟨0, by rw [e]; simp, by unfold rot; simp⟩
    · exact h
  obtain ⟨c, hc, ea⟩ := h'
  have hx : x = b[c] := by
    rw [ea, rot_cons hc] at e
    injection e with e1 e2
    rw [← e1, cy_lt hc]
  have mem : x ∈ b := by rw [hx]; exact List.getElem_mem _
  have ix := List.idxOf_lt_length_of_mem mem
  have g := List.getElem_idxOf ix
  have : b.idxOf x = c := (List.getElem_inj n).mp (g.trans hx)
  exact ⟨mem, by rw [this, ea]⟩
end Gm
namespace L2
open PySem PySem.Spec PySem.W PySem.Calls PyProof.Rows
end L2
namespace Gm
open PySem L2
theorem RotEq.perm {a b : List Int} (h : RotEq a b) : a.Perm b := by
  rcases h with rfl | ⟨c, hc, rfl⟩
  · exact List.Perm.refl _
  · unfold rot
    exact (List.perm_append_comm).trans (by rw [List.take_append_drop])
theorem IsMap.of_perm {L M : List (List Int)} (m : IsMap M) (hl : L.length = M.length) (h : ∀ (i : Nat) (l k : List Int), L[i]? = some l → M[i]? = some k → l.Perm k) : IsMap L := by
  have at_ : ∀ (j : Nat) (x : List Int), L[j]? = some x → ∃ y, M[j]? = some y ∧ x.Perm y := fun j x e => by
    have hj : j < M.length := by rw [← hl]; exact (List.getElem?_eq_some_iff.mp e).1
    exact ⟨M[j], List.getElem?_eq_getElem hj, h j x M[j] e (List.getElem?_eq_getElem hj)⟩
  refine ⟨fun j x e => ?_, fun j x e y hy => ?_, fun j x e y hy k hk z ez => ?_⟩
  · obtain ⟨y, e1, e2⟩ := at_ j x e
    exact e2.nodup_iff.mpr (m.nd _ _ e1)
  · obtain ⟨w, e1, e2⟩ := at_ j x e
    rw [hl]
    exact m.rg _ _ e1 y (e2.mem_iff.mp hy)
  · obtain ⟨w, e1, e2⟩ := at_ j x e
    obtain ⟨w', e3, e4⟩ := at_ k z ez
    exact e4.mem_iff.mpr (m.sy _ _ e1 y (e2.mem_iff.mp hy) k hk _ e3)
def RotMap (L M : List (List Int)) : Prop := L.length = M.length ∧ ∀ (i : Nat) (l m : List Int), L[i]? = some l → M[i]? = some m → RotEq l m
theorem RotMap.isMap {L M : List (List Int)} (h : RotMap L M) (m : IsMap M) : IsMap L := m.of_perm h.1 fun i l k e1 e2 => (h.2 i l k e1 e2).perm
theorem RotMap.mem {L M : List (List Int)} (h : RotMap L M) {x y : Int} (x0 : 0 ≤ x) (x1 : x < L.length) : y ∈ rowOf L x ↔ y ∈ rowOf M x := by
  have e1 := rowOf_at x0 x1
  have e2 := rowOf_at (L := M) x0 (by rw [← h.1]; exact x1)
  exact (h.2 _ _ _ e1 e2).perm.mem_iff
end Gm
end
section
set_option Elab.async false
set_option linter.all false
set_option maxRecDepth 100000
namespace Gm
open PySem L2
theorem rotEq_le {b : List Int} {c : Nat} (h : c ≤ b.length) : RotEq (rot b c) b := by
  by_cases e : c = b.length
  · left; unfold rot; rw [e]; simp
  · exact .inr ⟨c, by omega, rfl⟩
theorem RotEq.trans {a b c : List Int} (h : RotEq a b) (k : RotEq b c) : RotEq a c := by
  rcases k with rfl | ⟨j, hj, rfl⟩
  · exact h
  · rcases h with rfl | ⟨i, hi, rfl⟩
    · exact .inr ⟨j, hj, rfl⟩
    · rw [rot_len (Nat.le_of_lt hj)] at hi
      rw [rot_rot hj hi]
      exact .inr ⟨_, Nat.mod_lt _ (by omega), rfl⟩
theorem RotEq.erase {l m : List Int} (h : RotEq l m) (n : m.Nodup) (x : Int) : RotEq (l.erase x) (m.erase x) := by
  by_cases hx : x ∈ m
  · rcases h with rfl | ⟨c, hc, rfl⟩
    · exact .inl rfl
    · obtain ⟨u, v, rfl⟩ := List.append_of_mem hx
      obtain ⟨n1, n2, n3⟩ := List.nodup_append.mp n
      obtain ⟨n4, n5⟩ := List.nodup_cons.mp n2
      have xu : x ∉ u := fun z => n3 x z x List.mem_cons_self rfl
      have em : (u ++ x :: v).erase x = u ++ v := by rw [List.erase_append_right _ xu, List.erase_cons_head]
      rw [em]
      by_cases hcu : c ≤ u.length
      · have e1 : (u ++ x :: v).drop c = u.drop c ++ x :: v := List.drop_append_of_le_length hcu
        have e2 : (u ++ x :: v).take c = u.take c := List.take_append_of_le_length hcu
        have e3 : (rot (u ++ x :: v) c).erase x = rot (u ++ v) c := by
          unfold rot
          rw [e1, e2, List.append_assoc, List.erase_append_right _ (fun z => xu (List.mem_of_mem_drop z)), List.cons_append, List.erase_cons_head, List.drop_append_of_le_length hcu, List.take_append_of_le_length hcu, List.append_assoc]
        rw [e3]
        exact rotEq_le (by rw [List.length_append]; omega)
      · obtain ⟨k, rfl⟩ : ∃ k, c = u.length + (k + 1) := ⟨c - u.length - 1, by omega⟩
        have e1 : (u ++ x :: v).drop (u.length + (k + 1)) = v.drop k := by rw [List.drop_append, List.drop_of_length_le (by omega), List.nil_append, show u.length + (k + 1) - u.length = k + 1 by omega]; rfl
        have e2 : (u ++ x :: v).take (u.length + (k + 1)) = u ++ x :: v.take k := by rw [List.take_append, List.take_of_length_le (by omega), show u.length + (k + 1) - u.length = k + 1 by omega]; rfl
        have d1 : (u ++ v).drop (u.length + k) = v.drop k := by
          have hu : u.drop (u.length + k) = [] := List.drop_of_length_le (by omega)
          rw [List.drop_append, hu, List.nil_append, show u.length + k - u.length = k by omega]
        have d2 : (u ++ v).take (u.length + k) = u ++ v.take k := by
          have hu : u.take (u.length + k) = u := List.take_of_length_le (by omega)
          rw [List.take_append, hu, show u.length + k - u.length = k by omega]
        have e3 : (rot (u ++ x :: v) (u.length + (k + 1))).erase x = rot (u ++ v) (u.length + k) := by
          unfold rot
          rw [e1, e2, d1, d2, List.erase_append_right _ (fun z => n4 (List.mem_of_mem_drop z)), List.erase_append_right _ xu, List.erase_cons_head]
        rw [e3]
        refine rotEq_le ?_
        rw [List.length_append, List.length_cons] at hc
        rw [List.length_append]
        omega
  · have h2 : x ∉ l := fun z => hx (h.perm.mem_iff.mp z)
    rw [List.erase_of_not_mem hx, List.erase_of_not_mem h2]
    exact h
theorem rotMap_of {L M : List (List Int)} (hl : L.length = M.length) (h : ∀ x : Int, 0 ≤ x → x < L.length → RotEq (rowOf L x) (rowOf M x)) : RotMap L M := by
  refine ⟨hl, fun i l m h1 h2 => ?_⟩
  have hi := (List.getElem?_eq_some_iff.mp h1).1
  have q := h i (by omega) (by omega)
  have r1 := rowOf_at (L := L) (a := (i : Int)) (by omega) (by omega)
  have r2 := rowOf_at (L := M) (a := (i : Int)) (by omega) (by omega)
  rw [Int.toNat_natCast] at r1 r2
  rw [r1] at h1
  rw [r2] at h2
  rw [← Option.some.inj h1, ← Option.some.inj h2]
  exact q
theorem RotMap.row {L M : List (List Int)} (h : RotMap L M) {x : Int} (x0 : 0 ≤ x) (x1 : x < L.length) : RotEq (rowOf L x) (rowOf M x) := h.2 _ _ _ (rowOf_at x0 x1) (rowOf_at x0 (by rw [← h.1]; exact x1))
theorem RotMap.trans {L M N : List (List Int)} (h : RotMap L M) (k : RotMap M N) : RotMap L N := rotMap_of (h.1.trans k.1) fun x x0 x1 => (h.row x0 x1).trans (k.row x0 (by rw [← h.1]; exact x1))
theorem RotMap.dt {L M : List (List Int)} (h : RotMap L M) {d : Dart} (k : Dt M d) : Dt L d := ⟨k.lo, by rw [h.1]; exact k.hi, (h.mem k.lo (by rw [h.1]; exact k.hi)).mpr k.mem⟩
theorem RotMap.rem {L M : List (List Int)} (h : RotMap L M) (m : IsMap M) {a b : Int} (d : Dt M (a, b)) : RotMap (rem L a b) (Gm.rem M a b) := by
  have mL := h.isMap m
  have dL := h.dt d
  obtain ⟨b0, b1, b2, b3⟩ := d.back m
  have a0 := d.lo
  have a1 := d.hi
  dsimp only at a0 a1 b0 b1
  refine rotMap_of (by rw [rem_len, rem_len]; exact h.1) fun x x0 x1 => ?_
  rw [rem_len] at x1
  rw [rem_row mL dL x0, rem_row m d x0]
  by_cases e : x = b
  · rw [if_pos e, if_pos e]; exact (h.row b0 (by rw [h.1]; exact b1)).erase (m.nd _ _ (rowOf_at b0 b1)) a
  · rw [if_neg e, if_neg e]
    by_cases e2 : x = a
    · rw [if_pos e2, if_pos e2]; exact (h.row a0 (by rw [h.1]; exact a1)).erase (m.nd _ _ (rowOf_at a0 a1)) b
    · rw [if_neg e2, if_neg e2]; exact h.row x0 x1
end Gm
end
section
set_option Elab.async false
set_option linter.all false
set_option maxRecDepth 100000
namespace PySem
abbrev ZipO (h : Heap) (z TI TO a : Addr) (f : Bool) : Prop :=
  h.get? z = some { cls := .type "zip", dict := none, data := .fields #[rawInt a, .bool f, .bool false, .ref TI, .ref TO], slots := #[] }
section
variable {prog : Program} {w : World} {A : Around} {E : Value → Shared → Prop} {s : Shared}
end
structure ZipSt (h : Heap) (z TI TO i1 i2 l1 l2 S : Addr) (i : Nat) : Prop where
  own : (i = 0 ∧ IsZip h z TI TO .none ∧ ∃ a b, IsPair h TO a b) ∨ ∃ a f oa, ZipO h z TI TO a f ∧ h.get? a = some oa ∧ a ∉ [z, i1, i2, S]
  it : IsPair h TI (.ref i1) (.ref i2)
  one : h.IsListIter i1 l1 i
  two : h.IsListIter i2 l2 i
theorem ZipSt.keep {h h' : Heap} {z TI TO i1 i2 l1 l2 S : Addr} {i : Nat} (x : ZipSt h z TI TO i1 i2 l1 l2 S i) (hk : ∀ b o, b ≠ S → h.get? b = some o → h'.get? b = some o) (hS : S ∉ [z, TI, TO, i1, i2]) : ZipSt h' z TI TO i1 i2 l1 l2 S i := by
  simp only [List.mem_cons, List.not_mem_nil, or_false, not_or] at hS
  obtain ⟨n1, n2, n3, n4, n5⟩ := hS
  refine ⟨?_, hk _ _ (Ne.symm n2) x.it, x.one.at fun o e => hk _ _ (Ne.symm n4) e, x.two.at fun o e => hk _ _ (Ne.symm n5) e⟩
  rcases x.own with ⟨e, h1, a, b, h2⟩ | ⟨a, f, oa, h1, h2, h3⟩
  · exact .inl ⟨e, hk _ _ (Ne.symm n1) h1, a, b, hk _ _ (Ne.symm n3) h2⟩
  · refine .inr ⟨a, f, oa, hk _ _ (Ne.symm n1) h1, hk _ _ ?_ h2, h3⟩
    simp only [List.mem_cons, List.not_mem_nil, or_false, not_or] at h3
    exact h3.2.2.2
structure ZipG (xs ys : Array Value) (lo : Addr) (h : Heap) (as : List Addr) : Prop where
  rise : as.Pairwise (· < ·)
  above : ∀ a ∈ as, lo ≤ a
  pairs : ∀ (j : Nat) (a : Addr), as[j]? = some a → ∃ x y, xs[j]? = some x ∧ ys[j]? = some y ∧ IsPair h a x y
section
variable {prog : Program} {w : World} {A : Around} {E : Value → Shared → Prop} {s : Shared}
end
section
variable {prog : Program} {w : World} {A : Around} {s : Shared} {R : Result → Shared → Prop} {xs ys : Array Value}
end
namespace F
end F
section
variable {prog : Program} {w : World} {A : Around} {E : Value → Shared → Prop} {s : Shared} {xs ys : Array Value}
end
end PySem
end
section
set_option Elab.async false
set_option linter.all false
set_option maxRecDepth 100000
namespace L2
open PySem PySem.Spec PySem.W PySem.Calls PyProof.Rows
section
variable {X : Cx} {pins : List (Addr × Obj)} {σ : St} {H H' : Hp} {s : Shared} {h' : Heap}
end
def layT : List Addr → List (V × V) → Hp → Hp
  | a :: as, p :: ps, H => upd (layT as ps H) a (.tup [p.1, p.2])
  | _, _, H => H
def tListZip (K : Frag) (ta : TA) : TE := fun σ H Q => ta σ H fun vs H1 => ∃ a b xs ys, vs = [.ref a, .ref b] ∧ SqL K H1 a xs ∧ SqL K H1 b ys ∧ xs.length = ys.length ∧
  ∀ (l : Addr) (as : List Addr) (H2 : Hp), Same H1 H2 → H1 l = none → H2 l = some (.lst (as.map V.ref)) → as.length = xs.length →
    (∀ (j : Nat) (a : Addr), as[j]? = some a → H1 a = none ∧ a ≠ l ∧ ∃ x y, xs[j]? = some x ∧ ys[j]? = some y ∧ H2 a = some (.tup [x, y])) → Q (.ref l) H2
end L2
end
section
set_option Elab.async false
set_option linter.all false
set_option maxRecDepth 100000
namespace Gm
open PySem L2
theorem Lp.perm {L R : List (List Int)} {ks ks' : List Dart} (p : Lp L R ks) (h : ks'.Perm ks) : Lp L R ks' :=
  ⟨p.good, p.least, h.nodup_iff.mpr p.nd, h.trans p.pm, by rw [h.length_eq]; exact p.two⟩
theorem PR.mk {H : Hp} : ∀ {ps : List Addr} {T : List (Int × Int)}, ps.length = T.length → (∀ (j : Nat) (a : Addr) (d : Int × Int), ps[j]? = some a → T[j]? = some d → H a = some (.tup [.int d.1, .int d.2])) → PR H ps T
  | [], [], _, _ => .nil
  | [], _ :: _, h, _ => by simp at h
  | _ :: _, [], h, _ => by simp at h
  | a :: ps, d :: T, h, f => .cons (f 0 a d rfl rfl) (PR.mk (by simpa using h) fun j b e h1 h2 => f (j + 1) b e (by simpa using h1) (by simpa using h2))
theorem at_cy {r : List Int} {j : Nat} (h : j < r.length) : r[j]? = some (cy r j) := by
  rw [cy_lt h]; exact List.getElem?_eq_getElem _
section
variable {K : PySem.W.Frag} {σ : St} {H : Hp} {Q : VK}
end
end Gm
end
section
set_option Elab.async false
set_option linter.all false
set_option maxRecDepth 100000
namespace L2
open PySem PySem.Spec PySem.W PySem.Calls PyProof.Rows
section
variable {X : Cx}
def rNotInP (K : Frag) : R2 := fun x y H Q => ∃ (p l : Addr) (d : Int × Int) (ps : List Addr) (T : List (Int × Int)), x = .ref p ∧ y = .ref l ∧ H p = some (.tup [.int d.1, .int d.2]) ∧ H l = some (.lst (ps.map V.ref)) ∧ Gm.PR H ps T ∧ Q (.bl (!decide (d ∈ T))) H
end
section
variable {K : Frag} {σ : St} {H : Hp} {Q : VK}
theorem ixN_of {n : Nat} {k : Int} (h0 : 0 ≤ k) (h1 : k < n) : ixN n k = some k.toNat := by
  unfold ixN
  rw [if_pos h0, if_pos h1]
end
end L2
namespace Gm
open PySem L2
theorem Grid.setRow {H : Hp} {t b : Addr} {bs : List Addr} {R : List (List Int)} {l : List Int} {k : Nat} (g : Grid H t bs R) (nt : t ∉ bs) (nb : b ≠ t) (hb : H b = some (.lst (l.map V.int))) : Grid (upd H t (.lst ((bs.map V.ref).set k (.ref b)))) t (bs.set k b) (R.set k l) := by
  refine ⟨by rw [← List.map_set]; exact upd_same, by rw [List.length_set, List.length_set, g.len], fun i a m h1 h2 => ?_⟩
  have hne : ∀ c ∈ bs, c ≠ t := fun c hc e => nt (e ▸ hc)
  by_cases e : k = i
  · subst e
    by_cases hk : k < bs.length
    · rw [List.getElem?_set_self (by simpa using hk)] at h1
      rw [List.getElem?_set_self (by rw [← g.len]; simpa using hk)] at h2
      cases h1
      cases h2
      rw [upd_ne nb]
      exact hb
    · rw [List.getElem?_eq_none (by rw [List.length_set]; omega)] at h1
      cases h1
  · rw [List.getElem?_set_ne e] at h1 h2
    rw [upd_ne (hne a (List.mem_of_getElem? h1))]
    exact g.row i a m h1 h2
theorem RotMap.refl (L : List (List Int)) : RotMap L L := ⟨rfl, fun i l m h1 h2 => by rw [h1] at h2; cases h2; exact RotEq.refl _⟩
end Gm
end
section
set_option Elab.async false
set_option linter.all false
set_option maxRecDepth 100000
namespace Gm
open PySem L2
section
variable {K : PySem.W.Frag} {σ : St} {H : Hp} {Q : VK}
end
end Gm
end
section
set_option Elab.async false
set_option linter.all false
set_option maxRecDepth 100000
namespace L2
open PySem PySem.Spec PySem.W PySem.Calls PyProof.Rows
section
variable {X : Cx}
def rAll (K : Frag) : List V → Hp → VK → Prop := fun vs H Q => ∃ (a : Addr) (bs : List Bool), vs = [.ref a] ∧ SqL K H a (bs.map V.bl) ∧ Q (.bl (bs.all id)) H
end
section
variable {K : Frag} {σ : St} {H : Hp} {Q : VK}
theorem comp_zip {R : Hp → Prop} {acc a b : Addr} {xs ys : List V} {n : Nat} {g : TG} {tt : TT} {te : TE} (hn : n = min xs.length ys.length) (Pv : Nat → St → List V → Hp → Prop) (h0 : Pv 0 σ [] H) (hl : ∀ i σ zs H, i ≤ n → Pv i σ zs H → SqL K H a xs ∧ SqL K H b ys)
    (hs : ∀ i x y p σ zs H, xs[i]? = some x → ys[i]? = some y → i < n → Pv i σ zs H → H p = none → g (.ref p) σ (upd H p (.tup [x, y])) fun σ2 H4 => tt σ2 H4 fun b H5 => if b = true then te σ2 H5 fun y H6 => H6 acc = some (.lst zs) ∧ zs.length < sizeLine ∧ ∃ m', m' < n - i ∧ (m' = n - (i + 1) ∧ i + 1 ≤ n ∧ Pv (i + 1) σ2 (zs ++ [y]) (upd H6 acc (.lst (zs ++ [y])))) else ∃ m', m' < n - i ∧ (m' = n - (i + 1) ∧ i + 1 ≤ n ∧ Pv (i + 1) σ2 zs H5))
    (hd : ∀ σ zs H, Pv n σ zs H → R H) :
    ∃ W : Nat → Nat → St → List V → Hp → Prop, (∃ m, W 0 m σ [] H) ∧ ∀ i m σ' zs H2, W i m σ' zs H2 → (((Itz K a b).stop i H2 ∧ R H2) ∨ ((Itz K a b).go i H2 ∧ ∀ x H3, (Itz K a b).yld i H2 x H3 → g x σ' H3 fun σ2 H4 => tt σ2 H4 fun b H5 =>
      if b = true then te σ2 H5 fun y H6 => H6 acc = some (.lst zs) ∧ zs.length < sizeLine ∧ ∃ m', m' < m ∧ W (i + 1) m' σ2 (zs ++ [y]) (upd H6 acc (.lst (zs ++ [y]))) else ∃ m', m' < m ∧ W (i + 1) m' σ2 zs H5)) := by
  refine ⟨fun i m σ zs H => m = n - i ∧ i ≤ n ∧ Pv i σ zs H, ⟨n, by simp, Nat.zero_le _, h0⟩, ?_⟩
  rintro i m σ zs H ⟨rfl, hi, p⟩
  obtain ⟨qa, qb⟩ := hl i σ zs H hi p
  by_cases hlt : i < n
  · have h1 : i < xs.length := by omega
    have h2 : i < ys.length := by omega
    refine .inr ⟨⟨xs, ys, xs[i], ys[i], qa, qb, by simp [h1], by simp [h2]⟩, fun x H' y => ?_⟩
    obtain ⟨r, u, v, hr, rfl, hu, hv, rfl⟩ := y
    exact hs i u v r σ zs H (hu xs qa) (hv ys qb) hlt p hr
  · have e : i = n := by omega
    exact .inl ⟨⟨xs, ys, qa, qb, by omega⟩, hd σ zs H (e ▸ p)⟩
end
end L2
end
section
set_option Elab.async false
set_option linter.all false
set_option maxRecDepth 100000
namespace Gm
open PySem L2
def kN (ks : List (Dart × Int)) : List (List Key × V) := ks.map fun p => (keyD p.1, V.int p.2)
def lk (s : List Int → Nat) (R : List (List Int)) : Nat → List (Dart × Int)
  | 0 => []
  | k + 1 => lk s R k ++ (sh (s (R.getD k [])) (R.getD k [])).map fun d => (d, (k : Int))
def lo (R : List (List Int)) (d : Dart) : Int := (R.findIdx fun r => decide (d ∈ sh 0 r) : Nat)
def otS (R : List (List Int)) (s : Nat) (r : List Int) : List Int := (sh s r).map fun d => lo R (d.2, d.1)
def Fine (D : List (List Int)) : Prop := ∀ (k : Nat) (l : List Int), D[k]? = some l → (k : Int) ∉ l ∧ l.Nodup
theorem back_dt {L : List (List Int)} (im : IsMap L) {d : Dart} (h : Dt L d) : Dt L (d.2, d.1) := by
  have := h.back im
  exact ⟨this.1, this.2.1, this.2.2.2⟩
end Gm
namespace Gm
open PySem L2
end Gm
namespace L2
end L2
namespace Gm
open PySem L2
end Gm
namespace Gm
end Gm
namespace L2
open PySem
theorem pg_tupK {X : Cx} {K : PySem.W.Frag} (hK : X.K = K) {pos : Pos} {es : List Expr} {k : Nat} {t : TGs} {n : Nat} (hc : X.calm = true) (h : PGs X es t)
    (hn : (assignEach es X.env).length = n := by rfl) (hst : (assignEach es X.env).findIdx? (·.1) = none := by rfl) : PG X (.Tuple es k pos) (gTup K n t) := by
  subst hK
  exact pg_tup hc h hn hst
end L2
namespace L2
end L2
end
section
set_option Elab.async false
set_option linter.all false
set_option maxRecDepth 100000
namespace Gm
open PySem L2
inductive ReX (L : List (List Int)) (S : List Int) (s : Int) : Int → Prop where
  | here : ReX L S s s
  | step {i : Nat} {l : List Int} {x : Int} : ReX L S s i → L[i]? = some l → x ∈ l → x ∉ S → ReX L S s x
theorem ReX.rg {L : List (List Int)} {S : List Int} {s x : Int} (h : ReX L S s x) (m : IsMap L) (hs : 0 ≤ s ∧ s < L.length) : 0 ≤ x ∧ x < L.length := by
  cases h with
  | here => exact hs
  | step _ e hx _ =>
    have := m.rg _ _ e x hx
    exact ⟨this.1, this.2.1⟩
structure FlX (L : List (List Int)) (S : List Int) (s : Int) (ks ws : List Int) : Prop where
  nd : ks.Nodup
  nw : ws.Nodup
  st : s ∈ ks
  re : ∀ x ∈ ks, ReX L S s x
  sub : ∀ x ∈ ws, x ∈ ks
  cl : ∀ (i : Nat) (l : List Int), (i : Int) ∈ ks → (i : Int) ∉ ws → L[i]? = some l → ∀ x ∈ l, x ∉ S → x ∈ ks
structure FiX (L : List (List Int)) (S : List Int) (s : Int) (ks ws : List Int) (pl : Nat) (l : List Int) (k : Nat) : Prop where
  nd : ks.Nodup
  nw : ws.Nodup
  st : s ∈ ks
  re : ∀ x ∈ ks, ReX L S s x
  sub : ∀ x ∈ ws, x ∈ ks
  pk : (pl : Int) ∈ ks
  cl : ∀ (i : Nat) (m : List Int), (i : Int) ∈ ks → (i : Int) ∉ ws → i ≠ pl → L[i]? = some m → ∀ x ∈ m, x ∉ S → x ∈ ks
  tk : ∀ x ∈ l.take k, x ∉ S → x ∈ ks
section
variable {L : List (List Int)} {S : List Int} {s : Int} {ks ws : List Int} {pl k : Nat} {l : List Int} {x : Int}
theorem FlX.start : FlX L S s [s] [s] := ⟨by simp, by simp, by simp, fun x h => by rw [List.mem_singleton.mp h]; exact .here, fun x h => h, fun i l h1 h2 => absurd h1 h2⟩
theorem FiX.add (h : FiX L S s ks ws pl l k) (e : l[k]? = some x) (n : x ∉ ks) (nS : x ∉ S) (hl : L[pl]? = some l) : FiX L S s (ks ++ [x]) (ws ++ [x]) pl l (k + 1) := by
  refine ⟨snoc_nd.mpr ⟨n, h.nd⟩, snoc_nd.mpr ⟨fun z => n (h.sub _ z), h.nw⟩, List.mem_append_left _ h.st, fun y hy => ?_, fun y hy => ?_, List.mem_append_left _ h.pk, fun i m h1 h2 h3 h4 y hy hS => ?_, fun y hy hS => ?_⟩
  · rcases List.mem_append.mp hy with z | z
    · exact h.re y z
    · rw [List.mem_singleton.mp z]; exact .step (h.re _ h.pk) hl (List.mem_of_getElem? e) nS
  · rcases List.mem_append.mp hy with z | z
    · exact List.mem_append_left _ (h.sub y z)
    · exact List.mem_append_right _ z
  · refine List.mem_append_left _ (h.cl i m ?_ (fun z => h2 (List.mem_append_left _ z)) h3 h4 y hy hS)
    rcases List.mem_append.mp h1 with z | z
    · exact z
    · exact absurd (List.mem_append_right _ z) h2
  · rcases take_mem e hy with z | z
    · exact List.mem_append_left _ (h.tk y z hS)
    · rw [z]; exact List.mem_append_right _ (by simp)
theorem FiX.done (h : FiX L S s ks ws pl l l.length) (hl : L[pl]? = some l) : FlX L S s ks ws :=
  ⟨h.nd, h.nw, h.st, h.re, h.sub, fun i m h1 h2 h3 x hx hS => by
    by_cases e : i = pl
    · subst e
      rw [hl] at h3
      cases h3
      exact h.tk x (by rw [List.take_length]; exact hx) hS
    · exact h.cl i m h1 h2 e h3 x hx hS⟩
theorem FlX.all (h : FlX L S s ks []) (x : Int) : x ∈ ks ↔ ReX L S s x := by
  refine ⟨h.re x, fun r => ?_⟩
  induction r with
  | here => exact h.st
  | step _ e hx hS ih => exact h.cl _ _ ih (by simp) e _ hx hS
theorem FlX.len (m : IsMap L) (hs : 0 ≤ s ∧ s < L.length) {ks : List Int} (nd : ks.Nodup) (re : ∀ x ∈ ks, ReX L S s x) : ks.length ≤ L.length := len_range nd fun x hx => (re x hx).rg m hs
end
def CloX (L : List (List Int)) (S fs : List Int) : Prop := ∀ (i : Nat) (l : List Int), L[i]? = some l → (i : Int) ∉ S → (∃ x, x ∈ l ∧ x ∈ fs) → (i : Int) ∈ fs
structure PaX (L : List (List Int)) (S : List Int) (s : Int) (fs : List Int) (k : Nat) : Prop where
  nd : fs.Nodup
  st : s ∈ fs
  re : ∀ x ∈ fs, ReX L S s x
  gr : CloX L S fs ∨ k + 1 ≤ fs.length
structure PiX (L : List (List Int)) (S : List Int) (s : Int) (fs0 fs : List Int) (j : Nat) : Prop where
  nd : fs.Nodup
  st : s ∈ fs
  re : ∀ x ∈ fs, ReX L S s x
  kp : CloX L S fs0 → fs = fs0
  gr : fs0.length < fs.length ∨ (fs = fs0 ∧ ∀ (i : Nat) (l : List Int), i < j → L[i]? = some l → (i : Int) ∉ S → (∃ x, x ∈ l ∧ x ∈ fs) → (i : Int) ∈ fs)
section
variable {L : List (List Int)} {S : List Int} {s : Int} {fs0 fs : List Int} {j k : Nat} {l : List Int}
theorem PaX.start : PaX L S s [s] 0 := ⟨by simp, by simp, fun x h => by rw [List.mem_singleton.mp h]; exact .here, .inr (by simp)⟩
theorem PiX.done (h : PiX L S s fs0 fs L.length) (h0 : PaX L S s fs0 k) : PaX L S s fs (k + 1) := by
  refine ⟨h.nd, h.st, h.re, ?_⟩
  rcases h.gr with z | ⟨rfl, z⟩
  · rcases h0.gr with c | c
    · rw [h.kp c]; exact .inl c
    · exact .inr (by omega)
  · exact .inl fun i l e => z i l (List.getElem?_eq_some_iff.mp e).1 e
theorem PiX.add (h : PiX L S s fs0 fs j) (m : IsMap L) (hl : L[j]? = some l) (n : (j : Int) ∉ fs) (nS : (j : Int) ∉ S) {x : Int} (hx : x ∈ l) (hf : x ∈ fs) : PiX L S s fs0 (fs ++ [(j : Int)]) (j + 1) := by
  have hr := m.rg _ _ hl x hx
  have rj : ReX L S s (j : Int) := by
    have hxn : x = (x.toNat : Int) := by omega
    obtain ⟨lx, hlx⟩ : ∃ lx, L[x.toNat]? = some lx := ⟨L[x.toNat]'(by omega), by simp⟩
    exact .step (i := x.toNat) (by rw [← hxn]; exact h.re x hf) hlx (m.sy _ _ hl x hx _ hxn _ hlx) nS
  refine ⟨snoc_nd.mpr ⟨n, h.nd⟩, List.mem_append_left _ h.st, fun y hy => ?_, fun c => ?_, .inl ?_⟩
  · rcases List.mem_append.mp hy with z | z
    · exact h.re y z
    · rw [List.mem_singleton.mp z]; exact rj
  · have e := h.kp c
    subst e
    exact absurd (c j l hl nS ⟨x, hx, hf⟩) n
  · rw [List.length_append]
    rcases h.gr with z | ⟨z, _⟩
    · simp; omega
    · rw [z]; simp
theorem PaX.all (h : PaX L S s fs L.length) (m : IsMap L) (hs : 0 ≤ s ∧ s < L.length) (x : Int) : x ∈ fs ↔ ReX L S s x := by
  have c : CloX L S fs := by
    rcases h.gr with z | z
    · exact z
    · have := FlX.len m hs h.nd h.re
      omega
  refine ⟨h.re x, fun r => ?_⟩
  induction r with
  | here => exact h.st
  | step r e hx hS ih =>
    rename_i i l y
    have hr := m.rg _ _ e y hx
    have hyn : y = (y.toNat : Int) := by omega
    obtain ⟨ly, hly⟩ : ∃ ly, L[y.toNat]? = some ly := ⟨L[y.toNat]'(by omega), by simp⟩
    rw [hyn] at hS ⊢
    exact c y.toNat ly hly hS ⟨_, m.sy _ _ e y hx _ hyn _ hly, ih⟩
end
def upto (n : Nat) : List Int := (List.range n).map fun i : Nat => (i : Int)
theorem mem_upto {n : Nat} {x : Int} : x ∈ upto n ↔ 0 ≤ x ∧ x < n := by
  unfold upto
  rw [List.mem_map]
  constructor
  · rintro ⟨i, hi, rfl⟩
    have := List.mem_range.mp hi
    omega
  · intro ⟨h1, h2⟩
    exact ⟨x.toNat, List.mem_range.mpr (by omega), by omega⟩
theorem upto_nd (n : Nat) : (upto n).Nodup := List.Pairwise.map _ (fun a b h z => h (by omega)) List.nodup_range
theorem upto_at {n i : Nat} (h : i < n) : (upto n)[i]? = some (i : Int) := by unfold upto; simp [h]
theorem upto_len (n : Nat) : (upto n).length = n := by unfold upto; simp
def left (n : Nat) (S : List Int) : List Int := (upto n).filter fun x => !decide (x ∈ S)
open Classical in
noncomputable def rn (L : List (List Int)) (S : List Int) (s : Int) : Nat := ((upto L.length).filter fun x => decide (ReX L S s x)).length
noncomputable def pts (L : List (List Int)) (S : List Int) : Bool := match left L.length S with | [] => false | s :: r => decide (rn L S s < (s :: r).length)
def twos (n one : Nat) : List (List Int) := (List.range (n - (one + 1))).map fun j : Nat => [(one : Int), (one : Int) + 1 + (j : Int)]
def shorts (n : Nat) : Nat → List (List Int)
  | 0 => [] :: (upto n).map fun i => [i]
  | k + 1 => shorts n k ++ twos n k
theorem Grid.cat2 {H : Hp} {t c u : Addr} {bs cs : List Addr} {R M : List (List Int)} (g : Grid H t bs R) (k : Grid H c cs M) (hu : H u = none) : Grid (upd H u (.lst (bs.map V.ref ++ cs.map V.ref))) u (bs ++ cs) (R ++ M) := by
  have n1 := g.notin hu
  have n2 := k.notin hu
  refine ⟨by rw [List.map_append]; exact upd_same, by rw [List.length_append, List.length_append, g.len, k.len], fun i a l h1 h2 => ?_⟩
  rcases Nat.lt_or_ge i bs.length with hi | hi
  · rw [List.getElem?_append_left hi] at h1
    rw [List.getElem?_append_left (by rw [← g.len]; exact hi)] at h2
    have nb : a ≠ u := fun e => n1 (by rw [← e]; exact List.mem_cons_of_mem _ (List.mem_of_getElem? h1))
    rw [upd_ne nb]
    exact g.row i a l h1 h2
  · rw [List.getElem?_append_right hi] at h1
    rw [List.getElem?_append_right (by rw [← g.len]; exact hi), ← g.len] at h2
    have nb : a ≠ u := fun e => n2 (by rw [← e]; exact List.mem_cons_of_mem _ (List.mem_of_getElem? h1))
    rw [upd_ne nb]
    exact k.row _ a l h1 h2
end Gm
end
section
set_option Elab.async false
set_option linter.all false
set_option maxRecDepth 100000
namespace Gm
open PySem L2
section
variable {L : List (List Int)} {a b : Int}
theorem rem_step {R : List (List Dart)} {S : List Int} (m : IsMap L) (h : Dt L (a, b)) (D : Dec L R) (s : Spans L S) :
    ∃ R' S', Dec (rem L a b) R' ∧ Spans (rem L a b) S' ∧ ((R'.length + iso (rem L a b) = R.length + iso L + 1 ∧ S'.length = S.length + 1) ∨ (R'.length + 1 + iso (rem L a b) = R.length + iso L ∧ S'.length = S.length)) := by
  obtain ⟨b0, b1, b2, b3⟩ := h.back m
  have hb : Dt L (b, a) := ⟨b0, b1, b3⟩
  have isoE := rem_iso m h
  have ib := rem_iso_b m h
  have ia : (rowOf L a).erase b = [] ↔ nx L (b, a) = (a, b) := rem_iso_b m hb
  rcases rem_dec m h D with ⟨A, B, T, D', lR, kA, kB⟩ | ⟨A, B, T, D', lR, A0, B0, kA, kB, dd⟩
  · obtain ⟨t0, s'⟩ := s.more m h
    have eA : A = [] ↔ nx L (a, b) = (b, a) := by
      constructor
      · intro z; rw [z] at kA; exact kA.nil_eq
      · intro z
        cases A with
        | nil => rfl
        | cons p A =>
          have hp := kA.hd
          have dt : Dt (rem L a b) p := (D'.mem p).mp (List.mem_flatten.mpr ⟨p :: A, by simp, List.mem_cons_self⟩)
          rw [hp, z] at dt
          exact absurd rfl ((rem_dt m h).mp dt).2.2
    have eB : B = [] ↔ nx L (b, a) = (a, b) := by
      constructor
      · intro z; rw [z] at kB; exact kB.nil_eq
      · intro z
        cases B with
        | nil => rfl
        | cons p B =>
          have hp := kB.hd
          have dt : Dt (rem L a b) p := (D'.mem p).mp (List.mem_flatten.mpr ⟨p :: B, by simp, List.mem_cons_self⟩)
          rw [hp, z] at dt
          exact absurd rfl ((rem_dt m h).mp dt).2.1
    have l1 : ∀ A : List Dart, ((if A = [] then [] else [A]) : List (List Dart)).length = if A = [] then 0 else 1 := fun A => by
      by_cases z : A = []
      · rw [if_pos z, if_pos z]; rfl
      · rw [if_neg z, if_neg z]; rfl
    have key : (if A = [] then 0 else 1) + (if (rowOf L b).erase a = [] then 1 else 0) = 1 := by
      by_cases z : A = []
      · rw [if_pos z, if_pos (ib.mpr (eA.mp z))]
      · rw [if_neg z, if_neg (fun y => z (eA.mpr (ib.mp y)))]
    have key2 : (if B = [] then 0 else 1) + (if (rowOf L a).erase b = [] then 1 else 0) = 1 := by
      by_cases z : B = []
      · rw [if_pos z, if_pos (ia.mpr (eB.mp z))]
      · rw [if_neg z, if_neg (fun y => z (eB.mpr (ia.mp y)))]
    refine ⟨_, _, D', s', .inl ⟨?_, rfl⟩⟩
    rw [List.length_append, List.length_append, l1, l1, isoE]
    omega
  · have dd' : ∀ d ∈ A, Dt (rem L a b) d := fun d hd => dd d (List.mem_append_left _ hd)
    have dd2 : ∀ d ∈ B, Dt (rem L a b) d := fun d hd => dd d (List.mem_append_right _ hd)
    have r2 : Reach (rem L a b) b a := kA.reach dd'
    have r1 : Reach (rem L a b) a b := kB.reach dd2
    have nb : ¬ (rowOf L b).erase a = [] := fun z => by
      cases A with
      | nil => exact A0 rfl
      | cons p A =>
        have hp := kA.hd
        have dt := dd' p List.mem_cons_self
        rw [hp, ib.mp z] at dt
        exact ((rem_dt m h).mp dt).2.2 rfl
    have na : ¬ (rowOf L a).erase b = [] := fun z => by
      cases B with
      | nil => exact B0 rfl
      | cons p B =>
        have hp := kB.hd
        have dt := dd2 p List.mem_cons_self
        rw [hp, ia.mp z] at dt
        exact ((rem_dt m h).mp dt).2.1 rfl
    rw [if_neg nb, if_neg na] at isoE
    refine ⟨_, _, D', s.still m h r1 r2, .inr ⟨?_, rfl⟩⟩
    rw [List.length_cons, isoE]
    omega
end
structure Pln (L : List (List Int)) : Prop where
  map : IsMap L
  chi : ∃ R S, Dec L R ∧ Spans L S ∧ 2 * (L.length + R.length + iso L) = (dts L L.length).length + 4 * S.length
theorem Pln.rem {L : List (List Int)} {a b : Int} (f : Pln L) (h : Dt L (a, b)) : Pln (rem L a b) := by
  obtain ⟨R, S, D, s, e⟩ := f.chi
  obtain ⟨R', S', D', s', c⟩ := rem_step f.map h D s
  have := (rem_perm f.map h).2
  refine ⟨rem_map f.map h, R', S', D', s', ?_⟩
  rw [rem_len] at *
  omega
theorem filt_erase {p : Int → Bool} {x : Int} (hx : p x = false) : ∀ (l : List Int), (l.erase x).filter p = l.filter p
  | [] => rfl
  | y :: l => by
    rw [List.erase_cons]
    by_cases e : y = x
    · subst e
      rw [if_pos (beq_self_eq_true _), List.filter_cons, hx]
      rfl
    · rw [if_neg (by simpa using e), List.filter_cons, List.filter_cons, filt_erase hx l]
theorem Pln.sub (K : Dart → Bool) (sy : ∀ x y, K (x, y) = K (y, x)) : ∀ (N : Nat) {L : List (List Int)}, Pln L → (dts L L.length).length = N →
    ∃ M, Pln M ∧ M.length = L.length ∧ ∀ x : Int, 0 ≤ x → rowOf M x = (rowOf L x).filter fun y => K (x, y) := by
  intro N
  induction N using Nat.strongRecOn with
  | _ N ih =>
  intro L f hN
  by_cases q : ∀ d, Dt L d → K d = true
  · refine ⟨L, f, rfl, fun x x0 => ?_⟩
    by_cases x1 : x < L.length
    · exact (List.filter_eq_self.mpr fun y hy => q (x, y) ⟨x0, x1, hy⟩).symm
    · have : rowOf L x = [] := by unfold rowOf; rw [List.getD_eq_getElem?_getD, List.getElem?_eq_none (by omega)]; rfl
      rw [this]; rfl
  · have ⟨d, hd⟩ : ∃ d, ¬ (Dt L d → K d = true) := Classical.not_forall.mp q
    have h : Dt L d := Classical.byContradiction fun z => hd fun y => absurd y z
    have k : K d = false := by
      cases e : K d with
      | false => rfl
      | true => exact absurd (fun _ => e) hd
    obtain ⟨a, b⟩ := d
    have lN := (rem_perm f.map h).2
    obtain ⟨M, fM, lM, rM⟩ := ih _ (by omega) (f.rem h) rfl
    refine ⟨M, fM, lM.trans rem_len, fun x x0 => ?_⟩
    rw [rM x x0, rem_row f.map h x0]
    by_cases e1 : x = b
    · subst e1
      rw [if_pos rfl]
      exact filt_erase (by rw [sy]; exact k) _
    · rw [if_neg e1]
      by_cases e2 : x = a
      · subst e2
        rw [if_pos rfl]
        exact filt_erase k _
      · rw [if_neg e2]
end Gm
end
section
set_option Elab.async false
set_option linter.all false
set_option maxRecDepth 100000
namespace Gm
open PySem L2
def lp (v : Int) (p : List Int) (j : Nat) : Int := if j = 0 then v else p.getD (j - 1) v
def On (v : Int) (p : List Int) (d : Dart) : Prop := ∃ j, j ≤ p.length ∧ (d = (lp v p j, lp v p (j + 1)) ∨ d = (lp v p (j + 1), lp v p j))
section
variable {v : Int} {p : List Int}
theorem lp_at {i : Nat} (h0 : 1 ≤ i) (h1 : i ≤ p.length) : lp v p i = p[i - 1]'(by omega) := by
  unfold lp
  rw [if_neg (by omega), List.getD_eq_getElem?_getD, List.getElem?_eq_getElem (by omega), Option.getD_some]
theorem lp_end : lp v p (p.length + 1) = v := by
  unfold lp
  rw [if_neg (by omega), List.getD_eq_getElem?_getD, List.getElem?_eq_none (by omega), Option.getD_none]
theorem lp_mem {i : Nat} (h0 : 1 ≤ i) (h1 : i ≤ p.length) : lp v p i ∈ p := by rw [lp_at h0 h1]; exact List.getElem_mem _
theorem lp_ne (hv : v ∉ p) {i : Nat} (h0 : 1 ≤ i) (h1 : i ≤ p.length) : lp v p i ≠ v := fun z => hv (z ▸ lp_mem h0 h1)
theorem lp_cases {j : Nat} (h : j ≤ p.length + 1) : lp v p j = v ∨ lp v p j ∈ p := by
  by_cases h0 : j = 0
  · exact .inl (by rw [h0]; rfl)
  · by_cases h1 : j = p.length + 1
    · exact .inl (by rw [h1]; exact lp_end)
    · exact .inr (lp_mem (by omega) (by omega))
theorem On.sw {x y : Int} (h : On v p (x, y)) : On v p (y, x) := by
  obtain ⟨j, hj, e⟩ := h
  refine ⟨j, hj, ?_⟩
  rcases e with e | e
  · right; exact Prod.ext (congrArg Prod.snd e) (congrArg Prod.fst e)
  · left; exact Prod.ext (congrArg Prod.snd e) (congrArg Prod.fst e)
theorem On.fst {d : Dart} (h : On v p d) : d.1 = v ∨ d.1 ∈ p := by
  obtain ⟨j, hj, e⟩ := h
  rcases e with e | e <;> rw [e]
  · exact lp_cases (j := j) (by omega)
  · exact lp_cases (j := j + 1) (by omega)
theorem On.at (hv : v ∉ p) (h1 : 1 ≤ p.length) (y : Int) : On v p (v, y) ↔ y = lp v p 1 ∨ y = lp v p p.length := by
  constructor
  · rintro ⟨j, hj, e | e⟩
    · have e1 : v = lp v p j := congrArg Prod.fst e
      have e2 : y = lp v p (j + 1) := congrArg Prod.snd e
      by_cases z : j = 0
      · subst z; exact .inl e2
      · exact absurd e1.symm (lp_ne hv (by omega) hj)
    · have e1 : v = lp v p (j + 1) := congrArg Prod.fst e
      have e2 : y = lp v p j := congrArg Prod.snd e
      by_cases z : j = p.length
      · subst z; exact .inr e2
      · exact absurd e1.symm (lp_ne hv (by omega) (by omega))
  · rintro (e | e)
    · exact ⟨0, by omega, .inl (by rw [e]; rfl)⟩
    · exact ⟨p.length, by omega, .inr (by rw [e, lp_end])⟩
end
section
variable {M : List (List Int)} {v : Int} {p : List Int}
end
end Gm
end
section
set_option Elab.async false
set_option linter.all false
set_option maxRecDepth 100000
namespace PySem
namespace F
end F
section
variable {prog : Program} {w : World} {A : Around} {E : Value → Shared → Prop} {s : Shared} {items : Array Value} {z l : Addr}
end
end PySem
namespace L2
open PySem PySem.Spec PySem.W PySem.Calls PyProof.Rows
section
variable {X : Cx} {e st : Expr} {te tst : TE} {p2 pos : Pos}
def tRev (K : Frag) (te tst : TE) : TE := fun σ H Q => te σ H fun x H1 => tst σ H1 fun y H2 => y = .int (-1) ∧ ∃ a xs, x = .ref a ∧ SqL K H2 a xs ∧ ∀ p, H2 p = none → Q (.ref p) (upd H2 p (.lst xs.reverse))
end
section
variable {X : Cx} {l : Expr} {tl : TE} {p p2 pos pos2 : Pos}
def tListRev (K : Frag) (tl : TE) : TE := fun σ H Q => tl σ H fun x H1 => ∃ a xs, x = .ref a ∧ SqL K H1 a xs ∧ ∀ p, H1 p = none → Q (.ref p) (upd H1 p (.lst xs.reverse))
end
end L2
end
section
set_option Elab.async false
set_option linter.all false
set_option maxRecDepth 100000
namespace Gm
open PySem L2
def sw (d : Dart) : Dart := (d.2, d.1)
def mir (L : List (List Int)) : List (List Int) := L.map List.reverse
theorem mir_len (L : List (List Int)) : (mir L).length = L.length := by unfold mir; simp
theorem rowOf_mir (L : List (List Int)) (a : Int) : rowOf (mir L) a = (rowOf L a).reverse := by
  unfold rowOf mir
  rw [List.getD_eq_getElem?_getD, List.getD_eq_getElem?_getD, List.getElem?_map]
  cases L[a.toNat]? <;> rfl
theorem mir_map {L : List (List Int)} (m : IsMap L) : IsMap (mir L) := by
  have at_ : ∀ (i : Nat) (l : List Int), (mir L)[i]? = some l → ∃ l0, L[i]? = some l0 ∧ l = l0.reverse := fun i l h => by
    unfold mir at h
    rw [List.getElem?_map] at h
    cases e : L[i]? with
    | none => rw [e] at h; cases h
    | some l0 => rw [e] at h; exact ⟨l0, rfl, (Option.some.inj h).symm⟩
  refine ⟨fun i l h => ?_, fun i l h x hx => ?_, fun i l h x hx j hj k hk => ?_⟩
  · obtain ⟨l0, h0, rfl⟩ := at_ i l h
    exact l0.reverse_perm.nodup_iff.mpr (m.nd i l0 h0)
  · obtain ⟨l0, h0, rfl⟩ := at_ i l h
    rw [mir_len]
    exact m.rg i l0 h0 x (List.mem_reverse.mp hx)
  · obtain ⟨l0, h0, rfl⟩ := at_ i l h
    obtain ⟨k0, h1, rfl⟩ := at_ j k hk
    exact List.mem_reverse.mpr (m.sy i l0 h0 x (List.mem_reverse.mp hx) j hj k0 h1)
theorem dt_mir {L : List (List Int)} {d : Dart} : Dt (mir L) d ↔ Dt L d := by
  constructor
  · intro h
    exact ⟨h.lo, by have := h.hi; rwa [mir_len] at this, by have := h.mem; rw [rowOf_mir] at this; exact List.mem_reverse.mp this⟩
  · intro h
    exact ⟨h.lo, by rw [mir_len]; exact h.hi, by rw [rowOf_mir]; exact List.mem_reverse.mpr h.mem⟩
theorem cy_rev {r : List Int} (h0 : 0 < r.length) (j : Nat) : cy r.reverse j = cy r (r.length - 1 - j % r.length) := by
  have hm := Nat.mod_lt j h0
  have e1 : cy r.reverse j = cy r.reverse (j % r.length) := cy_mod (by rw [List.length_reverse, Nat.mod_mod])
  rw [e1, cy_lt (show j % r.length < r.reverse.length by rw [List.length_reverse]; exact hm), cy_lt (show r.length - 1 - j % r.length < r.length by omega), List.getElem_reverse]
theorem idx_of {l : List Int} {k : Nat} (n : l.Nodup) (hk : k < l.length) : l.idxOf l[k] = k := by
  have ix := List.idxOf_lt_length_of_mem (List.getElem_mem hk)
  exact (List.getElem_inj n).mp (List.getElem_idxOf ix)
theorem pre_rev {l : List Int} {c : Int} (n : l.Nodup) (hc : c ∈ l) : pre l.reverse (pre l c) = c := by
  have ic := List.idxOf_lt_length_of_mem hc
  have p0 : 0 < l.length := by omega
  have gc := List.getElem_idxOf ic
  generalize l.idxOf c = i at ic gc
  have ma : (if i = 0 then l.length - 1 else i - 1) < l.length := by split <;> omega
  have ea : pre l c = l[if i = 0 then l.length - 1 else i - 1] := by
    unfold pre
    have hi2 : l.idxOf c = i := by rw [← gc]; exact idx_of n ic
    rw [hi2]
    have e1 : cy l (i + l.length - 1) = cy l (if i = 0 then l.length - 1 else i - 1) := cy_mod (by rw [md ic, Nat.mod_eq_of_lt ma])
    rw [e1, cy_lt ma]
  generalize hk : (if i = 0 then l.length - 1 else i - 1) = k at ma ea
  rw [ea]
  have nr : l.reverse.Nodup := l.reverse_perm.nodup_iff.mpr n
  have kl : l.length - 1 - k < l.reverse.length := by rw [List.length_reverse]; omega
  have er : l.reverse[l.length - 1 - k] = l[k] := by
    rw [List.getElem_reverse]
    congr 1
    omega
  unfold pre
  have hi3 : l.reverse.idxOf l[k] = l.length - 1 - k := by rw [← er]; exact idx_of nr kl
  rw [hi3, List.length_reverse, cy_rev p0]
  have hm : (l.length - 1 - k + l.length - 1) % l.length = if l.length - 1 - k = 0 then l.length - 1 else l.length - 1 - k - 1 := md (by omega)
  rw [hm]
  have : l.length - 1 - (if l.length - 1 - k = 0 then l.length - 1 else l.length - 1 - k - 1) = i := by
    split at hk <;> split <;> omega
  rw [this, cy_lt ic]
  exact gc
theorem dj_rev {r : List Int} (h0 : 0 < r.length) (j : Nat) : dj r.reverse j = sw (dj r (r.length - 1 - j % r.length + (r.length - 1))) := by
  have hm := Nat.mod_lt j h0
  unfold dj sw
  dsimp only
  rw [cy_rev h0, cy_rev h0]
  congr 1
  · refine cy_mod ?_
    rw [show r.length - 1 - j % r.length + (r.length - 1) + 1 = r.length - 1 - j % r.length + r.length by omega, Nat.add_mod_right]
  · refine cy_mod ?_
    by_cases h : j % r.length + 1 < r.length
    · have e : (j + 1) % r.length = j % r.length + 1 := by rw [Nat.add_mod, Nat.mod_eq_of_lt (show 1 < r.length by omega)]; exact Nat.mod_eq_of_lt h
      rw [e, show r.length - 1 - j % r.length + (r.length - 1) = r.length - 1 - (j % r.length + 1) + r.length by omega, Nat.add_mod_right]
    · have e1 : j % r.length = r.length - 1 := by omega
      have e : (j + 1) % r.length = 0 := by
        by_cases h1 : r.length = 1
        · rw [h1, Nat.mod_one]
        · rw [Nat.add_mod, Nat.mod_eq_of_lt (show 1 < r.length by omega), e1, show r.length - 1 + 1 = r.length by omega, Nat.mod_self]
      rw [e, e1]
      congr 1
      omega
theorem Good.mir {L : List (List Int)} {r : List Int} (g : Good L r) (m : IsMap L) : Good (mir L) r.reverse := by
  have tw := g.two
  have h0 : 0 < r.length := by omega
  have back : ∀ j, Dt L (sw (dj r j)) := fun j => back_dt m (g.dt j)
  refine ⟨by rw [List.length_reverse]; exact tw, fun j => ?_, fun j => ?_⟩
  · rw [dj_rev h0]; exact dt_mir.mpr (back _)
  · rw [dj_rev h0 j, dj_rev h0 (j + 1)]
    have hm := Nat.mod_lt j h0
    have hm1 := Nat.mod_lt (j + 1) h0
    have hst := g.st (r.length - 1 - (j + 1) % r.length + (r.length - 1))
    have ed : dj r (r.length - 1 - (j + 1) % r.length + (r.length - 1) + 1) = dj r (r.length - 1 - j % r.length + (r.length - 1)) := by
      refine dj_mod ?_
      by_cases h : j % r.length + 1 < r.length
      · have e : (j + 1) % r.length = j % r.length + 1 := by rw [Nat.add_mod, Nat.mod_eq_of_lt (show 1 < r.length by omega)]; exact Nat.mod_eq_of_lt h
        rw [e]
        congr 1
        omega
      · have e1 : j % r.length = r.length - 1 := by omega
        have e : (j + 1) % r.length = 0 := by rw [Nat.add_mod, Nat.mod_eq_of_lt (show 1 < r.length by omega), e1, show r.length - 1 + 1 = r.length by omega, Nat.mod_self]
        rw [e, e1, show r.length - 1 - 0 + (r.length - 1) + 1 = r.length - 1 - (r.length - 1) + (r.length - 1) + r.length by omega, Nat.add_mod_right]
    rw [ed] at hst
    have hD := g.dt (r.length - 1 - (j + 1) % r.length + (r.length - 1))
    generalize dj r (r.length - 1 - (j + 1) % r.length + (r.length - 1)) = D at hst hD
    rw [← hst]
    obtain ⟨b0, b1, b2, b3⟩ := hD.back m
    unfold Gm.nx sw
    dsimp only
    rw [rowOf_mir, pre_rev (m.nd _ _ (rowOf_at b0 b1)) b3]
theorem sh_rev {r : List Int} (h0 : 0 < r.length) : (sh 0 r.reverse).Perm ((sh 0 r).map sw) := by
  have e : sh 0 r.reverse = ((sh (r.length - 1) r).map sw).reverse := by
    refine List.ext_getElem? fun j => ?_
    by_cases hj : j < r.length
    · rw [sh_at (by rw [List.length_reverse]; exact hj), List.getElem?_reverse (by rw [List.length_map, sh_len]; exact hj), List.length_map, sh_len, List.getElem?_map, sh_at (by omega), dj_rev h0]
      rw [Nat.add_zero, Nat.mod_eq_of_lt hj]
      rfl
    · rw [List.getElem?_eq_none (by rw [sh_len, List.length_reverse]; omega), List.getElem?_eq_none (by rw [List.length_reverse, List.length_map, sh_len]; omega)]
  rw [e]
  exact (List.reverse_perm _).trans ((sh_perm r _).map sw)
theorem sw_inj {d e : Dart} (h : sw d = sw e) : d = e := Prod.ext (congrArg Prod.snd h) (congrArg Prod.fst h)
def BackR (r s : List Int) : Prop := ∃ c, c < r.length ∧ s = rot r.reverse c ∧ Least s
abbrev Backs : List (List Int) → List (List Int) → Prop := Paired BackR
theorem Backs.app {R S T U : List (List Int)} : Backs R S → Backs T U → Backs (R ++ T) (S ++ U)
  | .nil, h => h
  | .cons r t, h => .cons r (Backs.app t h)
theorem Backs.flat {R S : List (List Int)} (h : Backs R S) (hp : ∀ r ∈ R, 0 < r.length) : (S.flatMap (sh 0)).Perm ((R.flatMap (sh 0)).map sw) := by
  induction h with
  | nil => exact .nil
  | @cons r s R S hb _ ih =>
    obtain ⟨c, hc, rfl, _⟩ := hb
    rw [List.flatMap_cons, List.flatMap_cons, List.map_append]
    refine List.Perm.append ?_ (ih fun q hq => hp q (List.mem_cons_of_mem _ hq))
    rw [sh_rot (by rw [List.length_reverse]; exact hc)]
    exact (sh_perm _ _).trans (sh_rev (hp r List.mem_cons_self))
theorem Backs.mem {R S : List (List Int)} (h : Backs R S) : ∀ s ∈ S, ∃ r ∈ R, BackR r s := by
  induction h with
  | nil => intro s hs; cases hs
  | cons hb _ ih =>
    intro s hs
    rcases List.mem_cons.mp hs with z | z
    · exact ⟨_, List.mem_cons_self, z ▸ hb⟩
    · obtain ⟨r, hr, k⟩ := ih s z
      exact ⟨r, List.mem_cons_of_mem _ hr, k⟩
theorem Backs.lp {L R S : List (List Int)} (ld : Lands L R) (m : IsMap L) (h : Backs R S) : Lp (mir L) S ((R.flatMap (sh 0)).map sw) := by
  have hp : ∀ r ∈ R, 0 < r.length := fun r hr => by have := (ld.good r hr).two; omega
  refine ⟨fun s hs => ?_, fun s hs => ?_, ?_, (h.flat hp).symm, ?_⟩
  · obtain ⟨r, hr, c, hc, rfl, _⟩ := h.mem s hs
    exact ((ld.good r hr).mir m).rot (by rw [List.length_reverse]; exact hc)
  · obtain ⟨r, hr, c, hc, _, hl⟩ := h.mem s hs
    exact hl
  · exact List.Pairwise.map _ (fun a b hab z => hab (sw_inj z)) ld.nd
  · have l1 : S.length = R.length := (Paired.length h).symm
    have l2 : ∀ T : List (List Int), (∀ r ∈ T, 2 ≤ r.length) → 2 * T.length ≤ (T.flatMap (sh 0)).length := by
      intro T
      induction T with
      | nil => intro _; simp
      | cons q T ih =>
        intro hs
        rw [List.flatMap_cons, List.length_append, sh_len, List.length_cons]
        have h1 := hs q List.mem_cons_self
        have h2 := ih fun r hr => hs r (List.mem_cons_of_mem _ hr)
        omega
    rw [List.length_map, l1]
    exact l2 R fun r hr => (ld.good r hr).two
theorem iso_mir (L : List (List Int)) : iso (mir L) = iso L := by
  unfold iso mir
  rw [List.countP_map]
  congr 1
  funext l
  cases l with
  | nil => rfl
  | cons a l => simp
theorem dts_mir (L : List (List Int)) : ∀ k, (dts (mir L) k).length = (dts L k).length
  | 0 => rfl
  | k + 1 => by rw [dts, dts, List.length_append, List.length_append, dts_mir L k, List.length_map, List.length_map, rowOf_mir, List.length_reverse]
end Gm
end
section
set_option Elab.async false
set_option linter.all false
set_option maxRecDepth 100000
namespace Gm
open PySem L2
section
variable {K : PySem.W.Frag} {σ : St} {H : Hp} {Q : VK}
end
end Gm
end
section
set_option Elab.async false
set_option linter.all false
set_option maxRecDepth 100000
namespace Gm
open PySem L2
structure Lay (A B : List (List Int)) (f : Int → Int) : Prop where
  len : A.length = B.length
  rg : ∀ i : Int, 0 ≤ i → i < A.length → 0 ≤ f i ∧ f i < B.length
  row : ∀ i : Int, 0 ≤ i → i < A.length → RotEq ((rowOf A i).map f) (rowOf B (f i))
theorem Reach.row {L : List (List Int)} {s x : Int} (h : Reach L s x) (m : IsMap L) (hs : 0 ≤ s ∧ s < L.length) {y : Int} (hy : y ∈ rowOf L x) : Reach L s y := by
  have r := h.rg m hs
  have e : ((x.toNat : Nat) : Int) = x := Int.toNat_of_nonneg r.1
  exact .step (i := x.toNat) (by rw [e]; exact h) (rowOf_at r.1 r.2) hy
theorem nodup_of_all {n : Nat} {l : List Int} (hl : l.length ≤ n) (h : ∀ x : Int, 0 ≤ x → x < n → x ∈ l) : l.Nodup := by
  refine List.pairwise_iff_getElem.mpr fun i j hi hj hij e => ?_
  have sub : ∀ x ∈ upto n, x ∈ l.eraseIdx j := fun x hx => by
    have r := mem_upto.mp hx
    obtain ⟨k, hk, ek⟩ := List.mem_iff_getElem.mp (h x r.1 r.2)
    rw [List.mem_eraseIdx_iff_getElem]
    by_cases z : k = j
    · subst z
      exact ⟨i, hi, by omega, by rw [e]; exact ek⟩
    · exact ⟨k, hk, z, ek⟩
  have h1 := len_le (upto_nd n) sub
  rw [upto_len, List.length_eraseIdx_of_lt hj] at h1
  omega
theorem Lay.onto {A B : List (List Int)} {f : Int → Int} (h : Lay A B f) (mA : IsMap A) (mB : IsMap B) (n0 : 0 < A.length) (hB : ∀ x : Int, 0 ≤ x → x < B.length → Reach B (f 0) x) :
    ∀ y : Int, 0 ≤ y → y < B.length → ∃ i : Int, 0 ≤ i ∧ i < A.length ∧ f i = y := by
  have r0 := h.rg 0 (by omega) (by omega)
  have key : ∀ y, Reach B (f 0) y → ∃ i : Int, 0 ≤ i ∧ i < A.length ∧ f i = y := by
    intro y ry
    induction ry with
    | here => exact ⟨0, by omega, by omega, rfl⟩
    | @step j l x rj e hx ih =>
      obtain ⟨i, i0, i1, ei⟩ := ih
      have er : rowOf B (f i) = l := by
        rw [ei]
        unfold rowOf
        rw [Int.toNat_natCast, List.getD_eq_getElem?_getD, e]
        rfl
      have hm := (h.row i i0 i1).perm.mem_iff.mpr (show x ∈ rowOf B (f i) by rw [er]; exact hx)
      obtain ⟨k, hk, ek⟩ := List.mem_map.mp hm
      have bk := Dt.back (L := A) (d := (i, k)) ⟨i0, i1, hk⟩ mA
      exact ⟨k, bk.1, bk.2.1, ek⟩
  exact fun y y0 y1 => key y (hB y y0 y1)
theorem Lay.nodup {A B : List (List Int)} {f : Int → Int} (h : Lay A B f) (mA : IsMap A) (mB : IsMap B) (n0 : 0 < A.length) (hB : ∀ x : Int, 0 ≤ x → x < B.length → Reach B (f 0) x) : ((upto A.length).map f).Nodup := by
  refine nodup_of_all (n := A.length) (by rw [List.length_map, upto_len]; exact Nat.le_refl _) fun y y0 y1 => ?_
  obtain ⟨i, i0, i1, e⟩ := h.onto mA mB n0 hB y y0 (by rw [← h.len]; exact y1)
  exact List.mem_map.mpr ⟨i, mem_upto.mpr ⟨i0, i1⟩, e⟩
theorem rot_fix {m a b : List Int} (n : m.Nodup) (ha : RotEq a m) (hb : RotEq b m) {k : Nat} {x : Int} (h1 : a[k]? = some x) (h2 : b[k]? = some x) : a = b := by
  have la := ha.len
  have lb := hb.len
  have k1 := (List.getElem?_eq_some_iff.mp h1).1
  have all : ∀ {c : List Int}, RotEq c m → ∃ j, j < m.length ∧ c = rot m j := fun {c} hc => by
    rcases hc with rfl | ⟨j, hj, e⟩
    · exact ⟨0, by omega, by unfold rot; simp⟩
    · exact ⟨j, hj, e⟩
  obtain ⟨i, hi, rfl⟩ := all ha
  obtain ⟨j, hj, rfl⟩ := all hb
  rw [at_cy (by rw [rot_len (by omega)]; omega), cy_rot hi] at h1
  rw [at_cy (by rw [rot_len (by omega)]; omega), cy_rot hj] at h2
  have e := Option.some.inj (h1.trans h2.symm)
  have p0 : 0 < m.length := by omega
  have mi := Nat.mod_lt (k + i) p0
  have mj := Nat.mod_lt (k + j) p0
  have e1 : cy m (k + i) = m[(k + i) % m.length] := by rw [← cy_lt mi]; exact cy_mod (by rw [Nat.mod_mod])
  have e2 : cy m (k + j) = m[(k + j) % m.length] := by rw [← cy_lt mj]; exact cy_mod (by rw [Nat.mod_mod])
  rw [e1, e2] at e
  have em := (List.getElem_inj n).mp e
  have kl : k < m.length := by rw [rot_len (by omega)] at k1; exact k1
  have : i = j := by
    have a1 : (k + i) % m.length = if k + i < m.length then k + i else k + i - m.length := by
      split
      · exact Nat.mod_eq_of_lt (by assumption)
      · rw [Nat.mod_eq_sub_mod (by omega), Nat.mod_eq_of_lt (by omega)]
    have a2 : (k + j) % m.length = if k + j < m.length then k + j else k + j - m.length := by
      split
      · exact Nat.mod_eq_of_lt (by assumption)
      · rw [Nat.mod_eq_sub_mod (by omega), Nat.mod_eq_of_lt (by omega)]
    rw [a1, a2] at em
    split at em <;> split at em <;> omega
  rw [this]
theorem Lay.near {A B : List (List Int)} {f g : Int → Int} (hf : Lay A B f) (hg : Lay A B g) (mB : IsMap B) {i x : Int} (i0 : 0 ≤ i) (i1 : i < A.length) (e : f i = g i) (hx : x ∈ rowOf A i) (ex : f x = g x) : ∀ y ∈ rowOf A i, f y = g y := by
  obtain ⟨k, hk, ek⟩ := List.mem_iff_getElem.mp hx
  have r := hf.rg i i0 i1
  have rf := hf.row i i0 i1
  have rg' := hg.row i i0 i1
  rw [← e] at rg'
  have h1 : ((rowOf A i).map f)[k]? = some (f x) := by rw [List.getElem?_map, List.getElem?_eq_getElem hk, ek]; rfl
  have h2 : ((rowOf A i).map g)[k]? = some (f x) := by rw [List.getElem?_map, List.getElem?_eq_getElem hk, ek, ex]; rfl
  have em := rot_fix (mB.nd _ _ (rowOf_at r.1 r.2)) rf rg' h1 h2
  intro y hy
  obtain ⟨j, hj, ej⟩ := List.mem_iff_getElem.mp hy
  have := congrArg (fun l => l[j]?) em
  simp only [List.getElem?_map, List.getElem?_eq_getElem hj, ej] at this
  exact Option.some.inj this
end Gm
end
section
set_option Elab.async false
set_option linter.all false
set_option maxRecDepth 100000
namespace Gm
open PySem L2
theorem map_rotF (f : Int → Int) (r : List Int) (k : Nat) : (rot r k).map f = rot (r.map f) k := by
  unfold rot
  rw [List.map_append, List.map_drop, List.map_take]
theorem RotEq.symm {a b : List Int} (h : RotEq a b) : RotEq b a := by
  rcases h with rfl | ⟨c, hc, rfl⟩
  · exact .inl rfl
  · by_cases c0 : c = 0
    · subst c0
      refine .inl ?_
      unfold rot
      simp
    · refine .inr ⟨b.length - c, by rw [rot_len (by omega)]; omega, ?_⟩
      rw [rot_rot hc (by omega), show b.length - c + c = b.length by omega, Nat.mod_self]
      unfold rot
      simp
def nm (ks : List (Int × Int)) (p : Int) : Int := (ks.lookup p).getD 0
theorem nm_at : ∀ {ks : List (Int × Int)} {p v : Int}, (ks.map (·.1)).Nodup → (p, v) ∈ ks → nm ks p = v
  | [], _, _, _, h => by cases h
  | k :: ks, p, v, nd, h => by
    obtain ⟨h1, h2⟩ := List.nodup_cons.mp nd
    unfold nm
    rw [List.lookup_cons]
    by_cases e : p = k.1
    · rw [show (p == k.1) = true by simpa using e]
      rcases List.mem_cons.mp h with z | z
      · rw [← z]; rfl
      · exact absurd (List.mem_map.mpr ⟨_, z, e⟩) h1
    · rw [show (p == k.1) = false by simpa using e]
      rcases List.mem_cons.mp h with z | z
      · exact absurd (by rw [← z]) e
      · exact nm_at h2 z
theorem nm_uniq {ks : List (Int × Int)} {p v u : Int} (nd : (ks.map (·.1)).Nodup) (h1 : (p, v) ∈ ks) (h2 : (p, u) ∈ ks) : v = u := (nm_at nd h1).symm.trans (nm_at nd h2)
structure Wants (A B : List (List Int)) (first x0 second : Int) (f : Int → Int) : Prop where
  lay : Lay A B f
  e0 : f 0 = first
  e1 : f x0 = second
abbrev Wait := Int × Int × Int
structure Nf (A B : List (List Int)) (first x0 second : Int) (ks : List (Int × Int)) (ws : List Wait) : Prop where
  nd : (ks.map (·.1)).Nodup
  rg : ∀ p ∈ ks, (0 ≤ p.1 ∧ p.1 < A.length) ∧ 0 ≤ p.2 ∧ p.2 < B.length
  st : (0, first) ∈ ks
  wn : (ws.map (·.1)).Nodup
  wk : ∀ w ∈ ws, ∃ v, (w.1, v) ∈ ks ∧ w.2.1 ∈ rowOf A w.1 ∧ w.2.2 ∈ rowOf B v
  cl : ∀ p v, (p, v) ∈ ks → p ∉ ws.map (·.1) → (∀ y ∈ rowOf A p, ∃ u, (y, u) ∈ ks) ∧ RotEq ((rowOf A p).map (nm ks)) (rowOf B v)
  un : ∀ f, Wants A B first x0 second f → (∀ p ∈ ks, f p.1 = p.2) ∧ ∀ w ∈ ws, f w.2.1 = w.2.2
  ini : (0, x0, second) ∈ ws ∨ (x0, second) ∈ ks
structure Ni (A B : List (List Int)) (first x0 second : Int) (ks : List (Int × Int)) (ws : List Wait) (p v : Int) (od gl : List Int) (k : Nat) : Prop where
  nd : (ks.map (·.1)).Nodup
  rg : ∀ p ∈ ks, (0 ≤ p.1 ∧ p.1 < A.length) ∧ 0 ≤ p.2 ∧ p.2 < B.length
  st : (0, first) ∈ ks
  wn : (ws.map (·.1)).Nodup
  pn : p ∉ ws.map (·.1)
  pk : (p, v) ∈ ks
  wk : ∀ w ∈ ws, ∃ v, (w.1, v) ∈ ks ∧ w.2.1 ∈ rowOf A w.1 ∧ w.2.2 ∈ rowOf B v
  cl : ∀ q u, (q, u) ∈ ks → q ∉ ws.map (·.1) → q ≠ p → (∀ y ∈ rowOf A q, ∃ u, (y, u) ∈ ks) ∧ RotEq ((rowOf A q).map (nm ks)) (rowOf B u)
  un : ∀ f, Wants A B first x0 second f → (∀ p ∈ ks, f p.1 = p.2) ∧ ∀ w ∈ ws, f w.2.1 = w.2.2
  tk : ∀ (t : Nat) (y u : Int), t < k → od[t]? = some y → gl[t]? = some u → (y, u) ∈ ks
  ini : (0, x0, second) ∈ ws ∨ (x0, second) ∈ ks ∨ (od[0]? = some x0 ∧ gl[0]? = some second)
section
variable {A B : List (List Int)} {first x0 second p v : Int} {ks : List (Int × Int)} {ws : List Wait} {od gl : List Int} {k : Nat}
theorem Nf.start (n0 : 0 < A.length) (hf : 0 ≤ first ∧ first < B.length) (hx : x0 ∈ rowOf A 0) (hs : second ∈ rowOf B first) : Nf A B first x0 second [(0, first)] [(0, x0, second)] :=
  ⟨by simp, fun p hp => by rw [List.mem_singleton.mp hp]; exact ⟨⟨Int.le_refl 0, by simpa using n0⟩, hf⟩, List.mem_singleton.mpr rfl, by simp, fun w hw => by rw [List.mem_singleton.mp hw]; exact ⟨first, List.mem_singleton.mpr rfl, hx, hs⟩,
    fun p v hp hn => by
      have e := List.mem_singleton.mp hp
      have e1 : p = 0 := congrArg Prod.fst e
      exact absurd (by rw [e1]; simp) hn,
    fun f w => ⟨fun p hp => by rw [List.mem_singleton.mp hp]; exact w.e0, fun q hq => by rw [List.mem_singleton.mp hq]; exact w.e1⟩, .inl (List.mem_singleton.mpr rfl)⟩
theorem Nf.turn {q r : Int} (h : Nf A B first x0 second ks (ws ++ [(p, q, r)])) (hp : (p, v) ∈ ks) (h1 : od[0]? = some q) (h2 : gl[0]? = some r) : Ni A B first x0 second ks ws p v od gl 0 := by
  have wn := h.wn
  rw [List.map_append, List.map_singleton, snoc_nd] at wn
  refine ⟨h.nd, h.rg, h.st, wn.2, wn.1, hp, fun w hw => h.wk w (List.mem_append_left _ hw), fun q u hq hn hne => h.cl q u hq fun z => ?_, fun f w => ⟨(h.un f w).1, fun x hx => (h.un f w).2 x (List.mem_append_left _ hx)⟩, fun t y u ht => by omega, ?_⟩
  · rw [List.map_append, List.map_singleton] at z
    rcases List.mem_append.mp z with z | z
    · exact hn z
    · exact hne (List.mem_singleton.mp z)
  · rcases h.ini with z | z
    · rcases List.mem_append.mp z with z | z
      · exact .inl z
      · have e := List.mem_singleton.mp z
        have e1 : x0 = q := congrArg (fun w => w.2.1) e
        have e2 : second = r := congrArg (fun w => w.2.2) e
        exact .inr (.inr ⟨by rw [e1]; exact h1, by rw [e2]; exact h2⟩)
    · exact .inr (.inl z)
theorem Ni.old {y u : Int} (h : Ni A B first x0 second ks ws p v od gl k) (hy : od[k]? = some y) (hu : gl[k]? = some u) (hm : (y, u) ∈ ks) : Ni A B first x0 second ks ws p v od gl (k + 1) :=
  ⟨h.nd, h.rg, h.st, h.wn, h.pn, h.pk, h.wk, h.cl, h.un, fun t y' u' ht h1 h2 => by
    by_cases e : t = k
    · subst e
      rw [hy] at h1
      rw [hu] at h2
      cases h1
      cases h2
      exact hm
    · exact h.tk t y' u' (by omega) h1 h2, h.ini⟩
theorem nm_snoc {y u q : Int} (hq : ∃ w, (q, w) ∈ ks) (nd : ((ks ++ [(y, u)]).map (·.1)).Nodup) : nm (ks ++ [(y, u)]) q = nm ks q := by
  obtain ⟨w, hw⟩ := hq
  have nd1 : (ks.map (·.1)).Nodup := by rw [List.map_append] at nd; exact (List.nodup_append.mp nd).1
  rw [nm_at nd (List.mem_append_left _ hw), nm_at nd1 hw]
theorem Ni.new {y u : Int} (mA : IsMap A) (mB : IsMap B) (h : Ni A B first x0 second ks ws p v od gl k) (hy : od[k]? = some y) (hu : gl[k]? = some u) (hn : y ∉ ks.map (·.1)) (ho : ∀ z ∈ od, z ∈ rowOf A p) (hg : ∀ z ∈ gl, z ∈ rowOf B v)
    (uf : ∀ f, Wants A B first x0 second f → f y = u) : Ni A B first x0 second (ks ++ [(y, u)]) (ws ++ [(y, p, v)]) p v od gl (k + 1) := by
  have nd2 : ((ks ++ [(y, u)]).map (·.1)).Nodup := by rw [List.map_append, List.map_singleton]; exact snoc_nd.mpr ⟨hn, h.nd⟩
  have rp := h.rg _ h.pk
  have yA := ho y (List.mem_of_getElem? hy)
  have uB := hg u (List.mem_of_getElem? hu)
  have by_ := Dt.back (L := A) (d := (p, y)) ⟨rp.1.1, rp.1.2, yA⟩ mA
  have bu := Dt.back (L := B) (d := (v, u)) ⟨rp.2.1, rp.2.2, uB⟩ mB
  have wsk : ∀ z, z ∈ ws.map (·.1) → z ∈ ks.map (·.1) := fun z hz => by
    obtain ⟨w, hw, rfl⟩ := List.mem_map.mp hz
    obtain ⟨v', hv', _⟩ := h.wk w hw
    exact List.mem_map.mpr ⟨_, hv', rfl⟩
  refine ⟨nd2, fun q hq => ?_, List.mem_append_left _ h.st, ?_, fun z => ?_, List.mem_append_left _ h.pk, fun w hw => ?_, fun q u' hq hnw hne => ?_, fun f w => ⟨fun q hq => ?_, fun x hx => ?_⟩, fun t y' u' ht h1 h2 => ?_, ?_⟩
  · rcases List.mem_append.mp hq with z | z
    · exact h.rg q z
    · rw [List.mem_singleton.mp z]; exact ⟨⟨by_.1, by_.2.1⟩, bu.1, bu.2.1⟩
  · rw [List.map_append, List.map_singleton]
    exact snoc_nd.mpr ⟨fun z => hn (wsk _ z), h.wn⟩
  · rw [List.map_append, List.map_singleton] at z
    rcases List.mem_append.mp z with z | z
    · exact h.pn z
    · have e : p = y := List.mem_singleton.mp z
      exact hn (by rw [← e]; exact List.mem_map.mpr ⟨_, h.pk, rfl⟩)
  · rcases List.mem_append.mp hw with z | z
    · obtain ⟨v', a, b, c⟩ := h.wk w z
      exact ⟨v', List.mem_append_left _ a, b, c⟩
    · rw [List.mem_singleton.mp z]
      exact ⟨u, List.mem_append_right _ (List.mem_singleton.mpr rfl), by_.2.2.2, bu.2.2.2⟩
  · rw [List.map_append, List.map_singleton] at hnw
    rcases List.mem_append.mp hq with z | z
    · obtain ⟨c1, c2⟩ := h.cl q u' z (fun e => hnw (List.mem_append_left _ e)) hne
      refine ⟨fun x hx => ?_, ?_⟩
      · obtain ⟨w, hw⟩ := c1 x hx
        exact ⟨w, List.mem_append_left _ hw⟩
      · have e : (rowOf A q).map (nm (ks ++ [(y, u)])) = (rowOf A q).map (nm ks) := List.map_congr_left fun x hx => nm_snoc (c1 x hx) nd2
        rw [e]
        exact c2
    · have e := List.mem_singleton.mp z
      have e1 : q = y := congrArg Prod.fst e
      exact absurd (List.mem_append_right _ (List.mem_singleton.mpr e1)) hnw
  · rcases List.mem_append.mp hq with z | z
    · exact (h.un f w).1 q z
    · rw [List.mem_singleton.mp z]; exact uf f w
  · rcases List.mem_append.mp hx with z | z
    · exact (h.un f w).2 x z
    · rw [List.mem_singleton.mp z]; exact (h.un f w).1 _ h.pk
  · by_cases e : t = k
    · subst e
      rw [hy] at h1
      rw [hu] at h2
      cases h1
      cases h2
      exact List.mem_append_right _ (List.mem_singleton.mpr rfl)
    · exact List.mem_append_left _ (h.tk t y' u' (by omega) h1 h2)
  · rcases h.ini with z | z | z
    · exact .inl (List.mem_append_left _ z)
    · exact .inr (.inl (List.mem_append_left _ z))
    · exact .inr (.inr z)
theorem Ni.done (h : Ni A B first x0 second ks ws p v od gl od.length) (ho : RotEq od (rowOf A p)) (hg : RotEq gl (rowOf B v)) (hl : od.length = gl.length) : Nf A B first x0 second ks ws := by
  refine ⟨h.nd, h.rg, h.st, h.wn, h.wk, fun q u hq hn => ?_, h.un, ?_⟩
  rotate_left
  · rcases h.ini with z | z | z
    · exact .inl z
    · exact .inr z
    · exact .inr (h.tk 0 x0 second (List.getElem?_eq_some_iff.mp z.1).1 z.1 z.2)
  by_cases e : q = p
  · subst e
    obtain rfl := nm_uniq h.nd hq h.pk
    have all : ∀ y ∈ rowOf A q, ∃ u, (y, u) ∈ ks := fun y hy => by
      obtain ⟨t, ht, et⟩ := List.mem_iff_getElem.mp (ho.perm.mem_iff.mpr hy)
      exact ⟨gl[t]'(by omega), h.tk t y _ ht (by rw [List.getElem?_eq_getElem ht, et]) (List.getElem?_eq_getElem (by omega))⟩
    refine ⟨all, ?_⟩
    have em : od.map (nm ks) = gl := by
      refine List.ext_getElem (by rw [List.length_map]; exact hl) fun t h1 h2 => ?_
      rw [List.length_map] at h1
      rw [List.getElem_map]
      exact nm_at h.nd (h.tk t od[t] gl[t] h1 (List.getElem?_eq_getElem h1) (List.getElem?_eq_getElem h2))
    have r1 : RotEq ((rowOf A q).map (nm ks)) (od.map (nm ks)) := by
      rcases ho.symm with e | ⟨c, hc, e⟩
      · exact .inl (by rw [e])
      · exact .inr ⟨c, by rw [List.length_map]; exact hc, by rw [e, map_rotF]⟩
    rw [em] at r1
    exact r1.trans hg
  · exact h.cl q u hq hn e
theorem Nf.lay (mA : IsMap A) (hl : A.length = B.length) (n0 : 0 < A.length) (h : Nf A B first x0 second ks []) (hA : ∀ x : Int, 0 ≤ x → x < A.length → Reach A 0 x) : (∀ x : Int, 0 ≤ x → x < A.length → ∃ u, (x, u) ∈ ks) ∧ Lay A B (nm ks) := by
  have all : ∀ x, Reach A 0 x → ∃ u, (x, u) ∈ ks := by
    intro x r
    induction r with
    | here => exact ⟨_, h.st⟩
    | @step j l y rj e hy ih =>
      obtain ⟨u, hu⟩ := ih
      have er : rowOf A (j : Int) = l := by
        unfold rowOf
        rw [Int.toNat_natCast, List.getD_eq_getElem?_getD, e]
        rfl
      exact (h.cl j u hu (by simp)).1 y (by rw [er]; exact hy)
  refine ⟨fun x h0 h1 => all x (hA x h0 h1), hl, fun i i0 i1 => ?_, fun i i0 i1 => ?_⟩
  · obtain ⟨u, hu⟩ := all i (hA i i0 i1)
    rw [nm_at h.nd hu]
    exact (h.rg _ hu).2
  · obtain ⟨u, hu⟩ := all i (hA i i0 i1)
    rw [nm_at h.nd hu]
    exact (h.cl i u hu (by simp)).2
end
end Gm
end
section
set_option Elab.async false
set_option linter.all false
set_option maxRecDepth 100000
namespace Gm
open PySem L2
def kI (ks : List (Int × Int)) : List (Key × V) := ks.map fun p => ((Sum.inl p.1 : Key), V.int p.2)
abbrev WR (H : Hp) : List Addr → List Wait → Prop := Paired fun a w => H a = some (.tup [.int w.1, .int w.2.1, .int w.2.2])
theorem WR.keep {H H' : Hp} {as : List Addr} {ws : List Wait} (h : WR H as ws) (e : ∀ a o, (∃ w : Wait, H a = some (.tup [.int w.1, .int w.2.1, .int w.2.2])) → H a = some o → H' a = some o) : WR H' as ws := Paired.mapP h fun a w q => e a _ ⟨w, q⟩ q
theorem WR.app {H : Hp} : ∀ {as bs : List Addr} {ws vs : List Wait}, WR H as ws → WR H bs vs → WR H (as ++ bs) (ws ++ vs)
  | _, _, _, _, .nil, h => h
  | _, _, _, _, .cons r t, h => .cons r (WR.app t h)
theorem WR.last {H : Hp} {as : List Addr} {ws : List Wait} (h : WR H as ws) (hne : ws ≠ []) : ∃ as' a ws' w, as = as' ++ [a] ∧ ws = ws' ++ [w] ∧ WR H as' ws' ∧ H a = some (.tup [.int w.1, .int w.2.1, .int w.2.2]) := by
  induction h with
  | nil => exact absurd rfl hne
  | @cons a w as ws hw t ih =>
    by_cases e : ws = []
    · subst e
      cases t
      exact ⟨[], a, [], w, rfl, rfl, .nil, hw⟩
    · obtain ⟨as', a', ws', w', e1, e2, e3, e4⟩ := ih e
      exact ⟨a :: as', a', w :: ws', w', by rw [e1]; rfl, by rw [e2]; rfl, .cons hw e3, e4⟩
end Gm
end
section
set_option Elab.async false
set_option linter.all false
set_option maxRecDepth 100000
namespace L2
open PySem PySem.Spec PySem.W PySem.Calls PyProof.Rows Gm
section
variable {X : Cx} {l : Expr} {tl : TE} {p p2 pos pos2 : Pos}
def tListRng (tl : TE) : TE := fun σ H Q => tl σ H fun x H1 => ∃ n : Nat, x = .int (n : Int) ∧ n ≤ 1000 ∧ ∀ p, H1 p = none → Q (.ref p) (upd H1 p (.lst ((upto n).map V.int)))
end
section
variable {σ : St} {H : Hp} {Q : VK} {K : Frag}
theorem r_slice {r : V → Option Int → Option Int → Hp → VK → Prop} {te : TE} {tl th : TO} (h : te σ H fun x H1 => tl σ H1 fun l H2 => th σ H2 fun u H3 => r x l u H3 Q) : tSl r te tl th σ H Q := h
end
end L2
end
section
set_option Elab.async false
set_option linter.all false
set_option maxRecDepth 100000
namespace L2
open PySem PySem.Spec PySem.W PySem.Calls PyProof.Rows Gm
theorem KV.key {kvs : List (Key × V)} {vs : List (Key × Value)} (h : KV kvs vs) : ∀ {i : Nat} {k : Key} {x : Value}, vs[i]? = some (k, x) → ∃ v, kvs[i]? = some (k, v) := by
  induction h with
  | nil => intro i k x e; cases i <;> cases e
  | @cons p q kvs vs r t ih =>
    intro i k x e
    cases i with
    | zero =>
      have e : q = (k, x) := by simpa using e
      subst e
      obtain ⟨a, b⟩ := p
      have : a = k := r.1
      exact ⟨b, by rw [← this]; rfl⟩
    | succ i => exact ih (by simpa using e)
def Itd (d : Addr) (o : Obj) (kvs : List (Key × V)) : It :=
  ⟨fun i H => H d = some (.frz o (.dK kvs)) ∧ i < kvs.length, fun i H x H' => H' = H ∧ ∃ k v, kvs[i]? = some (k, v) ∧ x = kV k, fun i H => H d = some (.frz o (.dK kvs)) ∧ kvs.length ≤ i⟩
section
variable {X : Cx} {tg : Expr}
def iDict (tl : TE) : TI := fun σ H R => tl σ H fun x H1 => ∃ a kvs, x = .ref a ∧ H1 a = some (.dK kvs) ∧ ∀ o, R (Itd a o kvs) (upd H1 a (.frz o (.dK kvs)))
def rListD : List V → Hp → VK → Prop := fun xs H Q => ∃ a kvs, xs = [V.ref a] ∧ H a = some (.dK kvs) ∧ ∀ p, H p = none → Q (.ref p) (upd H p (.lst (kvs.map fun kv => kV kv.1)))
def Itv (K : Frag) (a : Addr) (xs : List V) : It :=
  ⟨fun i H => SqL K H a xs ∧ i < xs.length, fun i H x H' => H' = H ∧ xs.reverse[i]? = some x, fun i H => xs.length ≤ i⟩
def iRev (K : Frag) (tl : TE) : TI := fun σ H R => tl σ H fun x H1 => ∃ a xs, x = .ref a ∧ SqL K H1 a xs ∧ R (Itv K a xs) H1
end
end L2
end
section
set_option Elab.async false
set_option linter.all false
set_option maxRecDepth 100000
namespace Gm
open PySem L2
def lng (n : Nat) (l : List Int) : List (List Int) := ((upto n).filter fun x => !decide (x ∈ l)).map fun x => l ++ [x]
def allN (n : Nat) : Nat → List (List Int)
  | 0 => [[]]
  | k + 1 => (allN n k).flatMap (lng n)
theorem upto_lt (n : Nat) : (upto n).Pairwise (· < ·) := List.Pairwise.map _ (fun a b h => by omega) List.pairwise_lt_range
def nmF (l : List Int) (i : Int) : Int := l.getD i.toNat 0
theorem nmF_at {l : List Int} {k : Nat} {x : Int} (h : l[k]? = some x) : nmF l (k : Int) = x := by
  unfold nmF
  rw [Int.toNat_natCast, List.getD_eq_getElem?_getD, h]
  rfl
theorem nmF_get {l : List Int} {i : Int} (h0 : 0 ≤ i) (h1 : i < l.length) : l[i.toNat]? = some (nmF l i) := by
  have hl : i.toNat < l.length := by omega
  have := nmF_at (List.getElem?_eq_getElem hl)
  rw [Int.toNat_of_nonneg h0] at this
  rw [this]
  exact List.getElem?_eq_getElem hl
theorem nmF_map (l : List Int) : (upto l.length).map (nmF l) = l := by
  refine List.ext_getElem (by rw [List.length_map, upto_len]) fun k h1 h2 => ?_
  rw [List.getElem_map]
  have : (upto l.length)[k]'(by rw [upto_len]; exact h2) = (k : Int) := by unfold upto; simp
  rw [this]
  exact nmF_at (List.getElem?_eq_getElem h2)
theorem nmF_all {n : Nat} {f : Int → Int} {i : Int} (h0 : 0 ≤ i) (h1 : i < n) : nmF ((upto n).map f) i = f i := by
  have e : ((i.toNat : Nat) : Int) = i := Int.toNat_of_nonneg h0
  have hl : i.toNat < n := by omega
  have := nmF_at (l := (upto n).map f) (k := i.toNat) (x := f i) (by
    rw [List.getElem?_map]
    have : (upto n)[i.toNat]? = some i := by
      rw [List.getElem?_eq_getElem (by rw [upto_len]; exact hl)]
      unfold upto
      simp [e]
    rw [this]; rfl)
  rw [e] at this
  exact this
theorem Lay.congr {A B : List (List Int)} {f g : Int → Int} (h : Lay A B f) (mA : IsMap A) (e : ∀ i : Int, 0 ≤ i → i < A.length → f i = g i) : Lay A B g := by
  refine ⟨h.len, fun i i0 i1 => by rw [← e i i0 i1]; exact h.rg i i0 i1, fun i i0 i1 => ?_⟩
  have hr := h.row i i0 i1
  rw [← e i i0 i1]
  have : (rowOf A i).map g = (rowOf A i).map f := List.map_congr_left fun x hx => by
    have b := Dt.back (L := A) (d := (i, x)) ⟨i0, i1, hx⟩ mA
    exact (e x b.1 b.2.1).symm
  rw [this]
  exact hr
structure Nam (n : Nat) (l : List Int) : Prop where
  len : l.length = n
  nd : l.Nodup
  rg : ∀ x ∈ l, 0 ≤ x ∧ x < n
theorem Nam.all {n : Nat} {l : List Int} (h : Nam n l) {x : Int} (h0 : 0 ≤ x) (h1 : x < n) : x ∈ l := by
  refine Classical.byContradiction fun z => ?_
  have := len_range (n := n) (l := x :: l) (List.nodup_cons.mpr ⟨z, h.nd⟩) fun y hy => by
    rcases List.mem_cons.mp hy with rfl | hy
    · exact ⟨h0, h1⟩
    · exact h.rg y hy
  rw [List.length_cons, h.len] at this
  omega
theorem Nam.of_perm {n : Nat} {l : List Int} (h : l.Perm (upto n)) : Nam n l :=
  ⟨by rw [h.length_eq, upto_len], h.nodup_iff.mpr (upto_nd n), fun x hx => mem_upto.mp (h.mem_iff.mp hx)⟩
theorem Nam.rgF {n : Nat} {l : List Int} (h : Nam n l) {i : Int} (h0 : 0 ≤ i) (h1 : i < n) : 0 ≤ nmF l i ∧ nmF l i < n :=
  h.rg _ (List.mem_of_getElem? (nmF_get h0 (by rw [h.len]; exact h1)))
theorem Nam.inj {n : Nat} {l : List Int} (h : Nam n l) {i j : Int} (i0 : 0 ≤ i) (i1 : i < n) (j0 : 0 ≤ j) (j1 : j < n) (e : nmF l i = nmF l j) : i = j := by
  have a := nmF_get (l := l) i0 (by rw [h.len]; exact i1)
  have b := nmF_get (l := l) j0 (by rw [h.len]; exact j1)
  rw [e] at a
  obtain ⟨a1, a2⟩ := List.getElem?_eq_some_iff.mp a
  obtain ⟨b1, b2⟩ := List.getElem?_eq_some_iff.mp b
  have := (List.getElem_inj h.nd).mp (a2.trans b2.symm)
  omega
theorem Nam.onto {n : Nat} {l : List Int} (h : Nam n l) {x : Int} (h0 : 0 ≤ x) (h1 : x < n) : ∃ j : Int, 0 ≤ j ∧ j < n ∧ nmF l j = x := by
  obtain ⟨k, hk, e⟩ := List.mem_iff_getElem.mp (h.all h0 h1)
  exact ⟨(k : Int), by omega, by rw [h.len] at hk; omega, nmF_at (by rw [List.getElem?_eq_getElem hk, e])⟩
structure Ren (A : List (List Int)) (l : List Int) (R : List (List Int)) : Prop where
  len : R.length = A.length
  row : ∀ j : Int, 0 ≤ j → j < A.length → R[(nmF l j).toNat]? = some ((rowOf A j).map (nmF l))
theorem rowOf_nat {L : List (List Int)} {i : Nat} {l : List Int} (h : L[i]? = some l) : rowOf L (i : Int) = l := by
  unfold rowOf
  rw [Int.toNat_natCast, List.getD_eq_getElem?_getD, h]
  rfl
theorem Ren.lay {A B R : List (List Int)} {l : List Int} (h : Ren A l R) (n : Nam A.length l) (hl : A.length = B.length) :
    (∀ (i : Nat) (r b : List Int), R[i]? = some r → B[i]? = some b → RotEq r b) ↔ Lay A B (nmF l) := by
  constructor
  · intro q
    refine ⟨hl, fun i i0 i1 => by rw [← hl]; exact n.rgF i0 i1, fun i i0 i1 => ?_⟩
    have r := n.rgF i0 i1
    exact q _ _ _ (h.row i i0 i1) (rowOf_at r.1 (by rw [← hl]; exact r.2))
  · intro ly i r b hr hb
    have hi := (List.getElem?_eq_some_iff.mp hr).1
    rw [h.len] at hi
    obtain ⟨j, j0, j1, e⟩ := n.onto (x := (i : Int)) (by omega) (by omega)
    have h1 := h.row j j0 j1
    rw [e, Int.toNat_natCast, hr] at h1
    rw [Option.some.inj h1]
    have h2 := ly.row j j0 j1
    rw [e, rowOf_nat hb] at h2
    exact h2
theorem Ren.isMap {A R : List (List Int)} {l : List Int} (h : Ren A l R) (n : Nam A.length l) (m : IsMap A) : IsMap R := by
  have at_ : ∀ (i : Nat) (r : List Int), R[i]? = some r → ∃ j : Int, 0 ≤ j ∧ j < A.length ∧ nmF l j = i ∧ r = (rowOf A j).map (nmF l) := fun i r hr => by
    have hi := (List.getElem?_eq_some_iff.mp hr).1
    rw [h.len] at hi
    obtain ⟨j, j0, j1, e⟩ := n.onto (x := (i : Int)) (by omega) (by omega)
    have h1 := h.row j j0 j1
    rw [e, Int.toNat_natCast, hr] at h1
    exact ⟨j, j0, j1, e, Option.some.inj h1⟩
  have rg : ∀ {j x : Int}, 0 ≤ j → j < A.length → x ∈ rowOf A j → 0 ≤ x ∧ x < A.length ∧ x ≠ j ∧ j ∈ rowOf A x := fun {j x} j0 j1 hx => Dt.back (L := A) (d := (j, x)) ⟨j0, j1, hx⟩ m
  refine ⟨fun i r hr => ?_, fun i r hr y hy => ?_, fun i r hr y hy k ek m' hm' => ?_⟩
  · obtain ⟨j, j0, j1, e, rfl⟩ := at_ i r hr
    have nd := m.nd _ _ (rowOf_at j0 j1)
    have : ∀ l' : List Int, l'.Nodup → (∀ x ∈ l', 0 ≤ x ∧ x < A.length) → (l'.map (nmF l)).Nodup := by
      intro l'
      induction l' with
      | nil => intro _ _; exact List.nodup_nil
      | cons a l' ih =>
        intro nd' rg'
        rw [List.map_cons, List.nodup_cons]
        have nd2 := List.nodup_cons.mp nd'
        refine ⟨fun z => ?_, ih nd2.2 fun x hx => rg' x (List.mem_cons_of_mem _ hx)⟩
        obtain ⟨b, hb, eb⟩ := List.mem_map.mp z
        have ra := rg' a List.mem_cons_self
        have rb := rg' b (List.mem_cons_of_mem _ hb)
        exact nd2.1 (n.inj rb.1 rb.2 ra.1 ra.2 eb ▸ hb)
    exact this _ nd fun x hx => ⟨(rg j0 j1 hx).1, (rg j0 j1 hx).2.1⟩
  · obtain ⟨j, j0, j1, e, rfl⟩ := at_ i r hr
    obtain ⟨x, hx, rfl⟩ := List.mem_map.mp hy
    have rx := rg j0 j1 hx
    have r2 := n.rgF rx.1 rx.2.1
    exact ⟨r2.1, by rw [h.len]; exact r2.2, fun z => rx.2.2.1 (n.inj rx.1 rx.2.1 j0 j1 (z.trans e.symm))⟩
  · obtain ⟨j, j0, j1, e, rfl⟩ := at_ i r hr
    obtain ⟨x, hx, rfl⟩ := List.mem_map.mp hy
    have rx := rg j0 j1 hx
    have h1 := h.row x rx.1 rx.2.1
    rw [ek, Int.toNat_natCast, hm'] at h1
    rw [Option.some.inj h1]
    exact List.mem_map.mpr ⟨j, rx.2.2.2, e⟩
def Hang (L : List (List Int)) : Prop := ∀ x : Int, 0 ≤ x → x < L.length → Reach L 0 x
theorem Reach.sym {L : List (List Int)} {s x : Int} (h : Reach L s x) (m : IsMap L) (hs : 0 ≤ s ∧ s < L.length) : Reach L x s := by
  induction h with
  | here => exact .here
  | @step i l x r e hx ih =>
    have d := Reach.dart e hx
    have b := d.back m
    exact (Reach.one (d := (x, (i : Int))) .here ⟨b.1, b.2.1, b.2.2.2⟩).trans ih
theorem Hang.from {L : List (List Int)} (h : Hang L) (m : IsMap L) {s : Int} (s0 : 0 ≤ s) (s1 : s < L.length) : ∀ x : Int, 0 ≤ x → x < L.length → Reach L s x := fun x x0 x1 =>
  ((h s s0 s1).sym m ⟨Int.le_refl 0, by omega⟩).trans (h x x0 x1)
theorem Hang.of {L : List (List Int)} (m : IsMap L) {s : Int} (s0 : 0 ≤ s) (s1 : s < L.length) (h : ∀ x : Int, 0 ≤ x → x < L.length → Reach L s x) : Hang L := fun x x0 x1 =>
  ((h 0 (Int.le_refl 0) (by omega)).sym m ⟨s0, s1⟩).trans (h x x0 x1)
theorem Lay.reach {A B : List (List Int)} {f : Int → Int} (h : Lay A B f) (mA : IsMap A) (n0 : 0 < A.length) {x : Int} (r : Reach A 0 x) : Reach B (f 0) (f x) := by
  induction r with
  | here => exact .here
  | @step i l x r e hx ih =>
    have hi := (List.getElem?_eq_some_iff.mp e).1
    have rg := h.rg (i : Int) (by omega) (by omega)
    have er := rowOf_nat e
    refine Reach.one (d := (f (i : Int), f x)) ih ⟨rg.1, rg.2, ?_⟩
    exact (h.row (i : Int) (by omega) (by omega)).perm.mem_iff.mp (List.mem_map.mpr ⟨x, by rw [er]; exact hx, rfl⟩)
theorem Hang.lay {A B : List (List Int)} {f : Int → Int} (h : Hang A) (ly : Lay A B f) (mA : IsMap A) (mB : IsMap B) (n0 : 0 < A.length) (on : ∀ y : Int, 0 ≤ y → y < B.length → ∃ i : Int, 0 ≤ i ∧ i < A.length ∧ f i = y) : Hang B := by
  have r := ly.rg 0 (Int.le_refl 0) (by omega)
  refine Hang.of mB r.1 r.2 fun x x0 x1 => ?_
  obtain ⟨i, i0, i1, e⟩ := on x x0 x1
  rw [← e]
  exact ly.reach mA n0 (h i i0 i1)
theorem Hang.mir {L : List (List Int)} (h : Hang L) : Hang (mir L) := fun x x0 x1 => by
  rw [mir_len] at x1
  refine Reach.mono (fun d q => ⟨q.lo, by rw [mir_len]; exact q.hi, ?_⟩) (h x x0 x1)
  rw [rowOf_mir, List.mem_reverse]
  exact q.mem
def pathRow (n : Nat) (k : Nat) : List Int := [(k : Int) - 1, (k : Int) + 1].filter fun x => decide (0 ≤ x) && decide (x < n)
def path (n : Nat) : List (List Int) := (List.range n).map (pathRow n)
theorem r_seqK {a b : TS} {D : Ends} {σ : St} {H : Hp} (Pv : St → Hp → Prop) (hb : ∀ σ' H', Pv σ' H' → b D σ' H') (ha : ∀ T : St → Hp → Prop, (∀ σ' H', Pv σ' H' → T σ' H') → a { D with nx := T } σ H) : tSeq a b D σ H := ha _ hb
theorem r_iList {K : PySem.W.Frag} {t : TE} {σ : St} {H : Hp} {R : It → Hp → Prop} (h : t σ H fun x H1 => ∃ a, x = .ref a ∧ (∃ xs, SqL K H1 a xs) ∧ R (Itl K a) H1) : iList K t σ H R := h
def dTwo (A B : List (List Int)) : PyData := .list [dGrid A, dGrid B]
end Gm
end
section
set_option Elab.async false
set_option linter.all false
set_option maxRecDepth 100000
namespace L2
open PySem PySem.Spec PySem.W PySem.Calls PyProof.Rows HT
section
open PySem.SeqAt
open PySem.AutoSeq1 (wpAny_loadPart')
open PySem.MeetsSeq PySem.MeetsSeq2 PySem.MeetsSeq3
end
section
variable {prog : Program} {w : World} {A : Around} {E : Value → Shared → Prop} {s : Shared} {l b : Addr} {us vs : Array Value} {ns ms : List Int}
end
def rGtL (K : Frag) : R2 := fun x y H Q => ∃ (a b : Addr) (ns ms : List Int), x = .ref a ∧ y = .ref b ∧ SqL K H a (ns.map V.int) ∧ SqL K H b (ms.map V.int) ∧ Q (.bl (lexLt ms ns)) H
end L2
end
section
set_option Elab.async false
set_option linter.all false
set_option maxRecDepth 100000
namespace Gm
open PySem L2
theorem fst_inj {c : List Dart} (h : (c.map (·.1)).Nodup) {d e : Dart} (hd : d ∈ c) (he : e ∈ c) (q : d.1 = e.1) : d = e := by
  obtain ⟨i, hi, rfl⟩ := List.mem_iff_getElem.mp hd
  obtain ⟨j, hj, rfl⟩ := List.mem_iff_getElem.mp he
  have : i = j := (List.getElem_inj (h₀ := by rw [List.length_map]; exact hi) (h₁ := by rw [List.length_map]; exact hj) h).mp (by rw [List.getElem_map, List.getElem_map]; exact q)
  subst this
  rfl
theorem Wk.hold {f : Dart → Dart} {P : Dart → Prop} {x y : Dart} {l : List Dart} (k : Wk f x l y) (h0 : P x) (hs : ∀ d, d ∈ l → P d → P (f d)) : ∀ e ∈ l, P e := by
  induction k with
  | nil _ => intro e he; cases he
  | @cons x y l k ih =>
    intro e he
    rcases List.mem_cons.mp he with z | z
    · rw [z]; exact h0
    · exact ih (hs x List.mem_cons_self h0) (fun d hd => hs d (List.mem_cons_of_mem _ hd)) e z
theorem Cyc.all {f : Dart → Dart} {c : List Dart} {P : Dart → Prop} (h : Cyc f c) {d : Dart} (hd : d ∈ c) (h0 : P d) (hs : ∀ e, e ∈ c → P e → P (f e)) : ∀ e ∈ c, P e := by
  obtain ⟨v, pv, k⟩ := h.turn hd
  intro e he
  rcases List.mem_cons.mp (pv.mem_iff.mpr he) with z | z
  · rw [z]; exact h0
  · exact k.hold (hs d hd h0) (fun x hx => hs x (pv.mem_iff.mp (List.mem_cons_of_mem _ hx))) e z
def Smp (L : List (List Int)) : Prop := ∀ d, Dt L d → ∃ c, d ∈ c ∧ Cyc (nx L) c ∧ (c.map (·.1)).Nodup
theorem Smp.apart {L : List (List Int)} (s : Smp L) (st : Sheet L) (h3 : 3 ≤ L.length) {R : List (List Dart)} (D : Dec L R) {a b : Int} (h : Dt L (a, b)) {c : List Dart} (hc : c ∈ R) (h1 : (a, b) ∈ c) : (b, a) ∉ c := by
  intro h2
  obtain ⟨c', hc', cy', nd⟩ := s _ h
  have Cc := D.cyc c hc
  have b1 : (b, a) ∈ c' := Cc.all (P := fun d => d ∈ c') h1 hc' (fun e _ he => cy'.on he) _ h2
  have e1 : nx L (a, b) = (b, a) := fst_inj nd (cy'.on hc') b1 rfl
  have e2 : nx L (b, a) = (a, b) := fst_inj nd (cy'.on b1) hc' rfl
  have all := Cc.all (P := fun d => d = (a, b) ∨ d = (b, a)) h1 (.inl rfl) fun e _ he => by
    rcases he with rfl | rfl
    · exact .inr e1
    · exact .inl e2
  have cn : c.Nodup := (List.pairwise_flatten.mp D.nd).1 c hc
  have := len_le (r := [(a, b), (b, a)]) cn fun x hx => by
    rcases all x hx with z | z <;> simp [z]
  have := st.three h3 D hc
  simp at *
  omega
theorem Smp.out {L : List (List Int)} (s : Smp L) (st : Sheet L) (h3 : 3 ≤ L.length) {a b : Int} (h : Dt L (a, b)) : Sheet (rem L a b) := by
  obtain ⟨R, D⟩ := exists_dec st.map
  obtain ⟨c, hc, hd⟩ := List.mem_flatten.mp ((D.mem _).mpr h)
  exact st.out D h hc hd (s.apart st h3 D h hc hd)
def seg (r : List Int) (s m : Nat) : List Dart := (List.range m).map fun t => dj r (s + t)
theorem seg_succ (r : List Int) (s m : Nat) : seg r s (m + 1) = seg r s m ++ [dj r (s + m)] := by
  unfold seg; rw [List.range_succ, List.map_append]; rfl
theorem mem_seg {r : List Int} {s m : Nat} {d : Dart} : d ∈ seg r s m ↔ ∃ t, t < m ∧ d = dj r (s + t) := by
  unfold seg
  rw [List.mem_map]
  constructor
  · rintro ⟨t, ht, e⟩; exact ⟨t, List.mem_range.mp ht, e.symm⟩
  · rintro ⟨t, ht, e⟩; exact ⟨t, List.mem_range.mpr ht, e.symm⟩
theorem seg_walk {f : Dart → Dart} {r : List Int} {s : Nat} : ∀ {m : Nat}, (∀ t, t + 1 < m + 1 → f (dj r (s + t)) = dj r (s + t + 1)) → Wk f (dj r s) (seg r s m) (dj r (s + m))
  | 0, _ => .nil _
  | m + 1, h => by
    rw [seg_succ]
    refine (seg_walk (m := m) fun t ht => h t (by omega)).append ?_
    refine .cons ?_
    rw [h m (by omega)]
    exact .nil _
theorem seg_to {f : Dart → Dart} {r : List Int} {s m : Nat} {y : Dart} (m0 : 0 < m) (h : ∀ t, t + 1 < m → f (dj r (s + t)) = dj r (s + t + 1)) (e : f (dj r (s + (m - 1))) = y) : Wk f (dj r s) (seg r s m) y := by
  obtain ⟨k, rfl⟩ : ∃ k, m = k + 1 := ⟨m - 1, by omega⟩
  rw [seg_succ]
  refine (seg_walk (m := k) fun t ht => h t (by omega)).append (.cons ?_)
  rw [Nat.add_sub_cancel] at e
  rw [e]
  exact .nil _
theorem cy_win {r : List Int} (n : r.Nodup) {i j : Nat} (h : i < j) (h2 : j < i + r.length) : cy r i ≠ cy r j := by
  intro z
  have r0 : 0 < r.length := by omega
  have m1 := Nat.mod_lt i r0
  have m2 := Nat.mod_lt j r0
  have e1 : cy r i = r[i % r.length] := by rw [← cy_lt m1]; exact cy_mod (by rw [Nat.mod_mod])
  have e2 : cy r j = r[j % r.length] := by rw [← cy_lt m2]; exact cy_mod (by rw [Nat.mod_mod])
  rw [e1, e2] at z
  have e3 := (List.getElem_inj n).mp z
  have := Nat.div_add_mod i r.length
  have := Nat.div_add_mod j r.length
  have a : r.length * (i / r.length) < r.length * (j / r.length) := by omega
  have b : i / r.length + 1 ≤ j / r.length := Nat.lt_of_mul_lt_mul_left a
  have c := Nat.mul_le_mul_left r.length b
  rw [Nat.mul_add, Nat.mul_one] at c
  omega
theorem win_nd {r : List Int} (n : r.Nodup) (s : Nat) : ∀ {m : Nat}, m ≤ r.length → ((List.range m).map fun t => cy r (s + t)).Nodup := fun {m} hm => by
  refine List.Pairwise.map _ (R := fun a b => a < b ∧ b < m) (fun a b h => ?_) ?_
  · exact cy_win n (by omega) (by omega)
  · refine List.Pairwise.imp_of_mem (fun {a b} ha hb h => ⟨h, List.mem_range.mp hb⟩) List.pairwise_lt_range
theorem seg_fst (r : List Int) (s m : Nat) : (seg r s m).map (·.1) = (List.range m).map fun t => cy r (s + t) := by
  unfold seg
  rw [List.map_map]
  rfl
theorem seg_nd {r : List Int} (n : r.Nodup) {s m : Nat} (h : m + 1 ≤ r.length) : (cy r (s + m) :: (seg r s m).map (·.1)).Nodup := by
  have := win_nd n s h
  rw [List.range_succ, List.map_append, List.map_singleton] at this
  rw [seg_fst]
  exact (List.perm_append_singleton _ _).nodup_iff.mp this
theorem seg_at {r : List Int} {s t : Nat} (h0 : 0 < r.length) : ∃ u, u < r.length ∧ dj r t = dj r (s + u) := by
  refine ⟨(t + s * r.length - s) % r.length, Nat.mod_lt _ h0, dj_mod ?_⟩
  have e : s ≤ s * r.length := Nat.le_mul_of_pos_right s h0
  rw [Nat.add_mod_mod, show s + (t + s * r.length - s) = t + s * r.length by omega, Nat.add_mul_mod_self_right]
end Gm
end
section
set_option Elab.async false
set_option linter.all false
set_option maxRecDepth 100000
namespace Gm
open PySem L2
section
variable {L : List (List Int)} {a b : Int} {A B : List Int}
theorem Fresh2.nxs (F : Fresh2 L a b A B) {z1 z2 : Int} (h1 : z1 ∈ rowOf L a) (h2 : z2 ∈ rowOf L b) (f1 : pre A z1 = b) (f2 : pre B z2 = a) :
    nx (both L a b A B) (z1, a) = (a, b) ∧ nx (both L a b A B) (z2, b) = (b, a) ∧ nx (both L a b A B) (a, b) = nx L (z2, b) ∧ nx (both L a b A B) (b, a) = nx L (z1, a) ∧
    ∀ d, Dt L d → d ≠ (z1, a) → d ≠ (z2, b) → nx (both L a b A B) d = nx L d := by
  obtain ⟨c0, c1, c2, c3⟩ := Dt.back (d := (a, z1)) ⟨F.a0, F.a1, h1⟩ F.map
  obtain ⟨e0, e1, e2, e3⟩ := Dt.back (d := (b, z2)) ⟨F.b0, F.b1, h2⟩ F.map
  have d1 : Dt L (z1, a) := ⟨c0, c1, c3⟩
  have d2 : Dt L (z2, b) := ⟨e0, e1, e3⟩
  have n1 : nx (both L a b A B) (z1, a) = (a, b) := by
    unfold nx; dsimp only; rw [F.row F.a0, if_neg F.ne, if_pos rfl, f1]
  have n2 : nx (both L a b A B) (z2, b) = (b, a) := by
    unfold nx; dsimp only; rw [F.row F.b0, if_pos rfl, f2]
  have rn : ∀ d, Dt L d → nx L d = if nx (both L a b A B) d = (b, a) then nx (both L a b A B) (a, b) else if nx (both L a b A B) d = (a, b) then nx (both L a b A B) (b, a) else nx (both L a b A B) d := fun d hd => by
    have := rem_nx F.isMap F.dt (d := d) (by rw [F.rem]; exact hd)
    rwa [F.rem] at this
  refine ⟨n1, n2, ?_, ?_, fun d hd q1 q2 => ?_⟩
  · have := rn _ d2
    rw [if_pos n2] at this
    exact this.symm
  · have := rn _ d1
    rw [n1, if_neg (fun z => F.ne (congrArg Prod.fst z)), if_pos rfl] at this
    exact this.symm
  · have := rn d hd
    rw [if_neg (fun z => q2 (nx_inj F.isMap (F.sub _ hd) (F.sub _ d2) (z.trans n2.symm))), if_neg (fun z => q1 (nx_inj F.isMap (F.sub _ hd) (F.sub _ d1) (z.trans n1.symm)))] at this
    exact this.symm
theorem Fresh2.dts (F : Fresh2 L a b A B) {d : Dart} (h : Dt (both L a b A B) d) : Dt L d ∨ d = (a, b) ∨ d = (b, a) := by
  rcases (F.mem h.lo).mp h.mem with z | ⟨z, y⟩ | ⟨z, y⟩
  · exact .inl ⟨h.lo, by have := h.hi; rwa [both_len] at this, z⟩
  · exact .inr (.inl (Prod.ext z y))
  · exact .inr (.inr (Prod.ext z y))
end
theorem Cyc.keep {f g : Dart → Dart} {c : List Dart} (h : Cyc f c) (e : ∀ d ∈ c, g d = f d) : Cyc g c := by
  obtain ⟨x, l, rfl, k⟩ := h
  exact ⟨x, l, rfl, k.congr e⟩
section
variable {L N : List (List Int)} {r : List Int}
def Big (r : List Int) (n c1 cj : Nat) (d : Dart) : Prop := (∃ i, cj ≤ i ∧ i < c1 + r.length ∧ d = dj r i) ∨ d = (cy r c1, (n : Int)) ∨ d = ((n : Int), cy r cj)
def PlS (L : List (List Int)) (r : List Int) (c1 cj : Nat) (M : List (List Int)) : Prop := ∀ d, Dt M d → Big r L.length c1 cj d ∨ ∃ c, d ∈ c ∧ Cyc (nx M) c ∧ (c.map (·.1)).Nodup
theorem PlS.first (st : Sheet L) (s : Smp L) (g : Good L r) (nd : (sh 0 r).Nodup) {c : Nat} (hc : c < r.length)
    (F : Fresh2 (lone L) (cy r c) (L.length : Int) (put (rowOf L (cy r c)) ((rowOf L (cy r c)).idxOf (cy r (c + (r.length - 1)))) L.length) [cy r c])
    (p : Pl L r c c [c] (both (lone L) (cy r c) (L.length : Int) (put (rowOf L (cy r c)) ((rowOf L (cy r c)).idxOf (cy r (c + (r.length - 1)))) L.length) [cy r c])) :
    PlS L r c c (both (lone L) (cy r c) (L.length : Int) (put (rowOf L (cy r c)) ((rowOf L (cy r c)).idxOf (cy r (c + (r.length - 1)))) L.length) [cy r c]) := by
  generalize hM : both (lone L) (cy r c) (L.length : Int) (put (rowOf L (cy r c)) ((rowOf L (cy r c)).idxOf (cy r (c + (r.length - 1)))) L.length) [cy r c] = M at p ⊢
  have FM : IsMap M := hM ▸ F.isMap
  have Fd : Dt M (cy r c, (L.length : Int)) := hM ▸ F.dt
  have Fr : rem M (cy r c) (L.length : Int) = lone L := hM ▸ F.rem
  have x1 : cy r c < L.length := (corner_in g st.map (c := c)).2.2.1
  have xn : cy r c ≠ (L.length : Int) := by omega
  have old : ∀ d, Dt L d → (∀ t, d ≠ dj r t) → nx M d = nx L d := fun d h q => by
    have h0 := rem_nx FM Fd (d := d) (by rw [Fr]; exact lone_dt.mpr h)
    rw [Fr, lone_nx st.map h] at h0
    have dm := p.sub d h
    have d1 := p.sub _ (g.dt (c + (r.length - 1)))
    have n1 : nx M d ≠ (cy r c, (L.length : Int)) := fun z => q _ (nx_inj FM dm d1 (z.trans p.i2.symm))
    have n2 : nx M d ≠ ((L.length : Int), cy r c) := fun z => by
      have e := nx_inj FM dm Fd (z.trans p.i3.symm)
      have := (h.back st.map).2.1
      rw [e] at this
      simp at this
    rw [if_neg n2, if_neg n1] at h0
    exact h0.symm
  intro d h
  have : Dt L d ∨ d = (cy r c, (L.length : Int)) ∨ d = ((L.length : Int), cy r c) := by
    rcases F.dts (hM ▸ h) with z | z | z
    · exact .inl (lone_dt.mp z)
    · exact .inr (.inl z)
    · exact .inr (.inr z)
  rcases this with z | z | z
  · by_cases q : ∃ t, d = dj r t
    · obtain ⟨t, rfl⟩ := q
      obtain ⟨u, hu, e⟩ := seg_at (r := r) (s := c) (t := t) (by omega)
      exact .inl (.inl ⟨c + u, by omega, by omega, e⟩)
    · right
      obtain ⟨k, hk, cc, nc⟩ := s d z
      have dtc : ∀ e ∈ k, Dt L e := cc.all (P := fun e => Dt L e) hk z fun e _ he => he.nx st.map
      have no : ∀ e ∈ k, ∀ t, e ≠ dj r t := fun e he t w => q (cc.all (P := fun e => ∃ t, e = dj r t) he ⟨t, w⟩ (fun x _ ⟨t, hx⟩ => ⟨t + 1, by rw [hx, g.st]⟩) d hk)
      exact ⟨k, hk, cc.keep fun e he => old e (dtc e he) (no e he), nc⟩
  · exact .inl (.inr (.inl z))
  · exact .inl (.inr (.inr z))
theorem cy_rg (g : Good L r) (i : Nat) : cy r i < L.length := (g.dt i).hi
theorem PlS.next {M : List (List Int)} {c1 cj c : Nat} {dn : List Nat} (st : Sheet L) (g : Good L r) (nr : r.Nodup) (nd : (Gm.sh 0 r).Nodup) (p : Pl L r c1 cj dn M) (s : PlS L r c1 cj M) (hc : cj < c) (hc2 : c < r.length)
    (F : Fresh2 M (cy r c) (L.length : Int) (put (rowOf L (cy r c)) ((rowOf L (cy r c)).idxOf (cy r (c + (r.length - 1)))) L.length) (rowOf M (L.length : Int) ++ [cy r c])) (un : ∀ e ∈ dn, cy r e ≠ cy r c) :
    PlS L r c1 c (both M (cy r c) (L.length : Int) (put (rowOf L (cy r c)) ((rowOf L (cy r c)).idxOf (cy r (c + (r.length - 1)))) L.length) (rowOf M (L.length : Int) ++ [cy r c])) := by
  have le := p.le
  obtain ⟨z1, x0, x1, ed⟩ := corner_in g st.map (c := c)
  have rx := p.keep (cy r c) x0 x1 un
  have nn := near_n st.map x0 x1
  obtain ⟨rest, hdn⟩ := p.hd
  have rown : rowOf M (L.length : Int) = cy r c1 :: rest.map (cy r) := by rw [p.new, hdn]; rfl
  have f1' : pre (put (rowOf L (cy r c)) ((rowOf L (cy r c)).idxOf (cy r (c + (r.length - 1)))) L.length) (cy r (c + (r.length - 1))) = (L.length : Int) := pre_put z1 nn
  have f2' : pre (rowOf M (L.length : Int) ++ [cy r c]) (cy r c1) = cy r c := by rw [rown]; exact pre_snoc
  obtain ⟨m1, m2, m3, m4, m5⟩ := F.nxs (z1 := cy r (c + (r.length - 1))) (z2 := cy r c1) (by rw [rx]; exact z1) (by rw [rown]; exact List.mem_cons_self) f1' f2'
  have dts := fun d => F.dts (d := d)
  have e1 : dj r (c + (r.length - 1)) = dj r (c - 1) := dj_mod (by rw [show c + (r.length - 1) = c - 1 + r.length by omega, Nat.add_mod_right])
  rw [← ed, e1] at m1 m4 m5
  rw [p.i3] at m3
  rw [p.i1 (c - 1) (by omega) (by omega), show c - 1 + 1 = c by omega] at m4
  generalize both M (cy r c) (L.length : Int) (put (rowOf L (cy r c)) ((rowOf L (cy r c)).idxOf (cy r (c + (r.length - 1)))) L.length) (rowOf M (L.length : Int) ++ [cy r c]) = N at m1 m2 m3 m4 m5 dts ⊢
  have sub := p.sub
  have n4 : nx N ((L.length : Int), cy r cj) = dj r cj := by
    rw [m5 _ ?_ (fun z => ?_) (fun z => ?_), p.i4]
    · have := (p.sh.map |> fun m => (Dt.nx (L := M) (d := (cy r c1, (L.length : Int))) ?_ m))
      · rw [p.i3] at this; exact this
      · have := Dt.back (d := ((L.length : Int), cy r c1)) ⟨by simp, by rw [p.len]; simp; omega, by rw [rown]; exact List.mem_cons_self⟩ p.sh.map
        exact ⟨this.1, this.2.1, this.2.2.2⟩
    · have := congrArg Prod.fst z
      have q : (L.length : Int) = cy r (c - 1) := this
      have := cy_rg g (c - 1)
      omega
    · have := congrArg Prod.fst z
      have q : (L.length : Int) = cy r c1 := this
      have := cy_rg g c1
      omega
  have R : Cyc (nx N) ((cy r c, (L.length : Int)) :: ((L.length : Int), cy r cj) :: seg r cj (c - cj)) := by
    refine ⟨_, _, rfl, .cons ?_⟩
    rw [m3]
    refine .cons ?_
    rw [n4]
    refine seg_to (by omega) (fun t ht => ?_) ?_
    · rw [m5 _ (sub _ (g.dt _)) (dj_ne nd (by omega) (by omega)) (fun z => ?_), p.i1 _ (by omega) (by omega)]
      have q := (g.dt (cj + t)).back st.map
      rw [z] at q
      simp at q
    · rw [show cj + (c - cj - 1) = c - 1 by omega, m1]
  have S : (((cy r c, (L.length : Int)) :: ((L.length : Int), cy r cj) :: seg r cj (c - cj)).map (·.1)).Nodup := by
    have a := seg_nd nr (s := cj) (m := c - cj) (by omega)
    rw [show cj + (c - cj) = c by omega, List.nodup_cons] at a
    have ln : ∀ x ∈ (seg r cj (c - cj)).map (·.1), x ≠ (L.length : Int) := fun x hx => by
      obtain ⟨d, hd, rfl⟩ := List.mem_map.mp hx
      obtain ⟨t, _, rfl⟩ := mem_seg.mp hd
      have : cy r (cj + t) < L.length := cy_rg g _
      show cy r (cj + t) ≠ _
      omega
    rw [List.map_cons, List.map_cons, List.nodup_cons, List.nodup_cons]
    refine ⟨fun z => ?_, fun z => ln _ z rfl, a.2⟩
    rcases List.mem_cons.mp z with z | z
    · have z' : cy r c = (L.length : Int) := z
      omega
    · exact a.1 z
  intro d h
  by_cases q : Big r L.length c1 cj d
  · rcases q with ⟨i, i0, i1, rfl⟩ | rfl | rfl
    · by_cases z : i < c
      · exact .inr ⟨_, List.mem_cons_of_mem _ (List.mem_cons_of_mem _ (mem_seg.mpr ⟨i - cj, by omega, by rw [show cj + (i - cj) = i by omega]⟩)), R, S⟩
      · exact .inl (.inl ⟨i, by omega, i1, rfl⟩)
    · exact .inl (.inr (.inl rfl))
    · exact .inr ⟨_, List.mem_cons_of_mem _ List.mem_cons_self, R, S⟩
  · rcases dts d h with z | z | z
    · rcases s d z with w | ⟨k, hk, cc, nc⟩
      · exact absurd w q
      · right
        have dtc : ∀ e ∈ k, Dt M e := cc.all (P := fun e => Dt M e) hk z fun e _ he => he.nx p.sh.map
        have no : ∀ e ∈ k, ¬ Big r L.length c1 cj e := fun e he w => q (cc.all (P := fun e => Big r L.length c1 cj e) he w (fun x _ hx => by
          rcases hx with ⟨i, i0, i1, rfl⟩ | rfl | rfl
          · by_cases y : i + 1 < c1 + r.length
            · rw [p.i1 i i0 y]; exact .inl ⟨i + 1, by omega, y, rfl⟩
            · rw [show i = c1 + (r.length - 1) by omega, p.i2]; exact .inr (.inl rfl)
          · rw [p.i3]; exact .inr (.inr rfl)
          · rw [p.i4]; exact .inl ⟨cj, Nat.le_refl _, by omega, rfl⟩) d hk)
        exact ⟨k, hk, cc.keep fun e he => m5 e (dtc e he) (fun z => no e he (.inl ⟨c - 1, by omega, by omega, z⟩)) (fun z => no e he (.inr (.inl z))), nc⟩
    · exact .inr ⟨_, by rw [z]; exact List.mem_cons_self, R, S⟩
    · exact .inl (.inr (.inr z))
theorem PlS.done {M : List (List Int)} {c1 cj : Nat} {dn : List Nat} (g : Good L r) (nr : r.Nodup) (p : Pl L r c1 cj dn M) (s : PlS L r c1 cj M) (h : c1 < cj) : Smp M := by
  have top := p.top
  have R : Cyc (nx M) ((cy r c1, (L.length : Int)) :: ((L.length : Int), cy r cj) :: seg r cj (c1 + r.length - cj)) := by
    refine ⟨_, _, rfl, .cons ?_⟩
    rw [p.i3]
    refine .cons ?_
    rw [p.i4]
    refine seg_to (by omega) (fun t ht => p.i1 _ (by omega) (by omega)) ?_
    rw [show cj + (c1 + r.length - cj - 1) = c1 + (r.length - 1) by omega, p.i2]
  have S : (((cy r c1, (L.length : Int)) :: ((L.length : Int), cy r cj) :: seg r cj (c1 + r.length - cj)).map (·.1)).Nodup := by
    have a := seg_nd nr (s := cj) (m := c1 + r.length - cj) (by omega)
    have e : cy r (cj + (c1 + r.length - cj)) = cy r c1 := cy_mod (by rw [show cj + (c1 + r.length - cj) = c1 + r.length by omega, Nat.add_mod_right])
    rw [e, List.nodup_cons] at a
    have ln : ∀ x ∈ (seg r cj (c1 + r.length - cj)).map (·.1), x ≠ (L.length : Int) := fun x hx => by
      obtain ⟨d, hd, rfl⟩ := List.mem_map.mp hx
      obtain ⟨t, _, rfl⟩ := mem_seg.mp hd
      have : cy r (cj + t) < L.length := cy_rg g _
      show cy r (cj + t) ≠ _
      omega
    rw [List.map_cons, List.map_cons, List.nodup_cons, List.nodup_cons]
    refine ⟨fun z => ?_, fun z => ln _ z rfl, a.2⟩
    rcases List.mem_cons.mp z with z | z
    · have z' : cy r c1 = (L.length : Int) := z
      have := cy_rg g c1
      omega
    · exact a.1 z
  intro d hd
  rcases s d hd with (⟨i, i0, i1, rfl⟩ | rfl | rfl) | w
  · exact ⟨_, List.mem_cons_of_mem _ (List.mem_cons_of_mem _ (mem_seg.mpr ⟨i - cj, by omega, by rw [show cj + (i - cj) = i by omega]⟩)), R, S⟩
  · exact ⟨_, List.mem_cons_self, R, S⟩
  · exact ⟨_, List.mem_cons_of_mem _ List.mem_cons_self, R, S⟩
  · exact w
end
end Gm
end
section
set_option Elab.async false
set_option linter.all false
set_option maxRecDepth 100000
namespace Gm
open PySem L2
theorem RotEq.map {a b : List Int} (h : RotEq a b) (f : Int → Int) : RotEq (a.map f) (b.map f) := by
  rcases h with rfl | ⟨c, hc, rfl⟩
  · exact .inl rfl
  · exact .inr ⟨c, by rw [List.length_map]; exact hc, by unfold rot; rw [List.map_append, List.map_drop, List.map_take]⟩
theorem Lay.back {A B : List (List Int)} {f : Int → Int} (h : Lay A B f) (mA : IsMap A) (mB : IsMap B) (n0 : 0 < A.length) (hB : Hang B) : ∃ g, Lay B A g := by
  have r0 := h.rg 0 (Int.le_refl 0) (by omega)
  have on := h.onto mA mB n0 (hB.from mB r0.1 r0.2)
  have nd := h.nodup mA mB n0 (hB.from mB r0.1 r0.2)
  have inj : ∀ i j : Int, 0 ≤ i → i < A.length → 0 ≤ j → j < A.length → f i = f j → i = j := fun i j i0 i1 j0 j1 e => by
    have nam : Nam A.length ((upto A.length).map f) := ⟨by rw [List.length_map, upto_len], nd, fun x hx => by
      obtain ⟨k, hk, rfl⟩ := List.mem_map.mp hx
      have rk := mem_upto.mp hk
      rw [h.len]
      exact h.rg k rk.1 rk.2⟩
    exact nam.inj i0 i1 j0 j1 (by rw [nmF_all i0 i1, nmF_all j0 j1]; exact e)
  have ex : ∀ y : Int, ∃ i : Int, 0 ≤ y → y < B.length → 0 ≤ i ∧ i < A.length ∧ f i = y := fun y => by
    by_cases q : 0 ≤ y ∧ y < B.length
    · obtain ⟨i, hi⟩ := on y q.1 q.2
      exact ⟨i, fun _ _ => hi⟩
    · exact ⟨0, fun a b => absurd ⟨a, b⟩ q⟩
  let g : Int → Int := fun y => Classical.choose (ex y)
  have hg : ∀ y : Int, 0 ≤ y → y < B.length → 0 ≤ g y ∧ g y < A.length ∧ f (g y) = y := fun y => Classical.choose_spec (ex y)
  have gf : ∀ i : Int, 0 ≤ i → i < A.length → g (f i) = i := fun i i0 i1 => by
    have r := h.rg i i0 i1
    have q := hg _ r.1 r.2
    exact inj _ _ q.1 q.2.1 i0 i1 q.2.2
  refine ⟨g, h.len.symm, fun y y0 y1 => ⟨(hg y y0 y1).1, (hg y y0 y1).2.1⟩, fun y y0 y1 => ?_⟩
  have q := hg y y0 y1
  have r := (h.row (g y) q.1 q.2.1).symm.map g
  rw [q.2.2] at r
  have e : ((rowOf A (g y)).map f).map g = rowOf A (g y) := by
    rw [List.map_map]
    refine (List.map_congr_left fun x hx => ?_).trans (List.map_id _)
    have b := Dt.back (L := A) (d := (g y, x)) ⟨q.1, q.2.1, hx⟩ mA
    exact gf x b.1 b.2.1
  rw [e] at r
  exact r
theorem Sheet.row {L : List (List Int)} (s : Sheet L) {x : Int} (x0 : 0 ≤ x) (x1 : x < L.length) : rowOf L x ≠ [] := by
  have i := s.iso0
  unfold iso at i
  have := List.countP_eq_zero.mp i (rowOf L x) (List.mem_of_getElem? (rowOf_at x0 x1))
  intro z
  rw [z] at this
  exact this rfl
theorem Lay.nam {A B : List (List Int)} {f : Int → Int} (h : Lay A B f) (mA : IsMap A) (mB : IsMap B) (n0 : 0 < A.length) (hB : Hang B) : Nam A.length ((upto A.length).map f) := by
  have r0 := h.rg 0 (Int.le_refl 0) (by omega)
  exact ⟨by rw [List.length_map, upto_len], h.nodup mA mB n0 (hB.from mB r0.1 r0.2), fun x hx => by
    obtain ⟨k, hk, rfl⟩ := List.mem_map.mp hx
    have rk := mem_upto.mp hk
    rw [h.len]
    exact h.rg k rk.1 rk.2⟩
theorem lt_ext : ∀ {l r : List Int}, l.Pairwise (· < ·) → r.Pairwise (· < ·) → (∀ x, x ∈ l ↔ x ∈ r) → l = r
  | [], [], _, _, _ => rfl
  | [], b :: r, _, _, h => absurd ((h b).mpr List.mem_cons_self) (by simp)
  | a :: l, [], _, _, h => absurd ((h a).mp List.mem_cons_self) (by simp)
  | a :: l, b :: r, hl, hr, h => by
    obtain ⟨l1, l2⟩ := List.pairwise_cons.mp hl
    obtain ⟨r1, r2⟩ := List.pairwise_cons.mp hr
    have e : a = b := by
      rcases List.mem_cons.mp ((h a).mp List.mem_cons_self) with z | z
      · exact z
      · rcases List.mem_cons.mp ((h b).mpr List.mem_cons_self) with y | y
        · exact y.symm
        · have := l1 b y; have := r1 a z; omega
    subst e
    congr 1
    refine lt_ext l2 r2 fun x => ⟨fun z => ?_, fun z => ?_⟩
    · rcases List.mem_cons.mp ((h x).mp (List.mem_cons_of_mem _ z)) with y | y
      · have := l1 x z; omega
      · exact y
    · rcases List.mem_cons.mp ((h x).mpr (List.mem_cons_of_mem _ z)) with y | y
      · have := r1 x z; omega
      · exact y
theorem Nam.sorted {n : Nat} {l s : List Int} (h : Nam n l) (p : s.Perm l) (o : s.Pairwise (· ≤ ·)) : s = upto n :=
  lt_ext (strict o (p.nodup_iff.mpr h.nd)) (upto_lt n) fun x => by
    rw [p.mem_iff, mem_upto]
    exact ⟨fun z => h.rg x z, fun z => h.all z.1 z.2⟩
def tetra : List (List Int) := [[1, 3, 2], [2, 3, 0], [0, 3, 1], [2, 0, 1]]
def tetraR : List (List Dart) := [[(0, 1), (1, 3), (3, 0)], [(0, 3), (3, 2), (2, 0)], [(0, 2), (2, 1), (1, 0)], [(1, 2), (2, 3), (3, 1)]]
end Gm
end
section
set_option Elab.async false
set_option linter.all false
set_option maxRecDepth 100000
namespace Gm
open PySem L2
def kF (ks : List Int) (f : Int → Int) : List (Key × V) := ks.map fun x => ((Sum.inl x : Key), V.int (f x))
def fset (f : Int → Int) (x h : Int) : Int → Int := fun y => if y = x then h else f y
structure Hue (L : List (List Int)) (ks : List Int) (f : Int → Int) : Prop where
  nd : ks.Nodup
  rg : ∀ x ∈ ks, 0 ≤ x ∧ x < L.length
  hu : ∀ x ∈ ks, 0 ≤ f x ∧ f x < 5
  ap : ∀ x ∈ ks, ∀ y ∈ rowOf L x, y ∈ ks → f y ≠ f x
def near (L : List (List Int)) (ks : List Int) (v : Int) : List Int := (rowOf L v).filter fun z => decide (z ∈ ks)
theorem mem_near {L : List (List Int)} {ks : List Int} {v z : Int} : z ∈ near L ks v ↔ z ∈ rowOf L v ∧ z ∈ ks := by unfold near; rw [List.mem_filter, decide_eq_true_iff]
def freeH (ts : List Int) : List Int := (upto 5).filter fun h => !decide (h ∈ ts)
theorem mem_freeH {ts : List Int} {h : Int} : h ∈ freeH ts ↔ (0 ≤ h ∧ h < 5) ∧ h ∉ ts := by
  unfold freeH
  rw [List.mem_filter, mem_upto]
  simp
section
variable {L : List (List Int)} {ks : List Int} {f : Int → Int} {v : Int}
theorem row_back (m : IsMap L) {x y : Int} (x0 : 0 ≤ x) (x1 : x < L.length) (h : y ∈ rowOf L x) : 0 ≤ y ∧ y < L.length ∧ y ≠ x ∧ x ∈ rowOf L y := Dt.back (d := (x, y)) ⟨x0, x1, h⟩ m
theorem Hue.add (h : Hue L ks f) (m : IsMap L) (v0 : 0 ≤ v) (v1 : v < L.length) (hv : v ∉ ks) {c : Int} (hc : c ∈ freeH ((near L ks v).map f)) : Hue L (ks ++ [v]) (fset f v c) := by
  obtain ⟨c1, c2⟩ := mem_freeH.mp hc
  have old : ∀ x ∈ ks, fset f v c x = f x := fun x hx => if_neg fun (z : x = v) => hv (z ▸ hx)
  have new : fset f v c v = c := if_pos rfl
  have out : ∀ y ∈ rowOf L v, y ∈ ks → f y ≠ c := fun y hy hk z => c2 (List.mem_map.mpr ⟨y, mem_near.mpr ⟨hy, hk⟩, z⟩)
  refine ⟨?_, fun x hx => ?_, fun x hx => ?_, fun x hx y hy hk => ?_⟩
  · exact List.nodup_append.mpr ⟨h.nd, by simp, fun a ha b hb z => hv (by rw [← List.mem_singleton.mp hb, ← z]; exact ha)⟩
  · rcases List.mem_append.mp hx with z | z
    · exact h.rg x z
    · rw [List.mem_singleton.mp z]; exact ⟨v0, v1⟩
  · rcases List.mem_append.mp hx with z | z
    · rw [old x z]; exact h.hu x z
    · rw [List.mem_singleton.mp z, new]; exact c1
  · rcases List.mem_append.mp hx with z | z
    · rw [old x z]
      have xr := h.rg x z
      rcases List.mem_append.mp hk with w | w
      · rw [old y w]; exact h.ap x z y hy w
      · rw [List.mem_singleton.mp w, new]
        rw [List.mem_singleton.mp w] at hy
        exact fun e => out x (row_back m xr.1 xr.2 hy).2.2.2 z e.symm
    · rw [List.mem_singleton.mp z] at hy ⊢
      rw [new]
      have yb := row_back m v0 v1 hy
      rcases List.mem_append.mp hk with w | w
      · rw [old y w]; exact out y hy w
      · exact absurd (List.mem_singleton.mp w) yb.2.2.1
structure Shut (L : List (List Int)) (ks : List Int) (f : Int → Int) (a b : Int) (S : List Int) : Prop where
  sh : ∀ x, x ∈ S ↔ (0 ≤ x ∧ x < L.length) ∧ ¬ (x ∈ ks ∧ (f x = a ∨ f x = b))
def shutF (L : List (List Int)) (ks : List Int) (f : Int → Int) (a b : Int) : List Int := (upto L.length).filter fun x => !decide (x ∈ ks ∧ (f x = a ∨ f x = b))
theorem shutF_is (a b : Int) : Shut L ks f a b (shutF L ks f a b) := ⟨fun x => by unfold shutF; rw [List.mem_filter, mem_upto, Bool.not_eq_true', decide_eq_false_iff_not]⟩
def Grp (L : List (List Int)) (ks : List Int) (f : Int → Int) (one other x : Int) : Prop := ReX L (shutF L ks f (f one) (f other)) one x
theorem Grp.in {one other x : Int} (m : IsMap L) (h : Hue L ks f) (h1 : one ∈ ks) (g : Grp L ks f one other x) : x ∈ ks ∧ (f x = f one ∨ f x = f other) := by
  have rg := ReX.rg g m (h.rg one h1)
  cases g with
  | here => exact ⟨h1, .inl rfl⟩
  | step _ _ _ hS =>
    refine Classical.byContradiction fun z => hS (((shutF_is _ _).sh _).mpr ⟨rg, z⟩)
theorem Grp.next {one other x y : Int} (m : IsMap L) (h : Hue L ks f) (h1 : one ∈ ks) (g : Grp L ks f one other x) (hy : y ∈ rowOf L x) (hk : y ∈ ks) (hh : f y = f one ∨ f y = f other) : Grp L ks f one other y := by
  have rx := ReX.rg g m (h.rg one h1)
  have e : L[x.toNat]? = some (rowOf L x) := rowOf_at rx.1 rx.2
  have ex : ((x.toNat : Nat) : Int) = x := by omega
  exact ReX.step (i := x.toNat) (by rw [ex]; exact g) e hy fun z => (((shutF_is _ _).sh _).mp z).2 ⟨hk, hh⟩
def turnF (f : Int → Int) (a b : Int) (G : List Int) : Int → Int := fun y => if y ∈ G then a + b - f y else f y
theorem Hue.turn {one other : Int} {G : List Int} (h : Hue L ks f) (m : IsMap L) (h1 : one ∈ ks) (h2 : other ∈ ks) (hG : ∀ x, x ∈ G ↔ Grp L ks f one other x) : Hue L ks (turnF f (f one) (f other) G) := by
  have inn : ∀ x ∈ G, x ∈ ks ∧ (f x = f one ∨ f x = f other) := fun x hx => ((hG x).mp hx).in m h h1
  have tin : ∀ x ∈ G, turnF f (f one) (f other) G x = f one + f other - f x := fun x hx => if_pos hx
  have tout : ∀ x, x ∉ G → turnF f (f one) (f other) G x = f x := fun x hx => if_neg hx
  refine ⟨h.nd, h.rg, fun x hx => ?_, fun x hx y hy hk => ?_⟩
  · by_cases z : x ∈ G
    · rw [tin x z]
      have a := h.hu one h1
      have b := h.hu other h2
      rcases (inn x z).2 with e | e <;> rw [e] <;> omega
    · rw [tout x z]; exact h.hu x hx
  · have ap := h.ap x hx y hy hk
    have rx := h.rg x hx
    by_cases zx : x ∈ G <;> by_cases zy : y ∈ G
    · rw [tin x zx, tin y zy]; omega
    · rw [tin x zx, tout y zy]
      intro e
      refine zy ((hG y).mpr (((hG x).mp zx).next m h h1 hy hk ?_))
      rcases (inn x zx).2 with q | q
      · right; omega
      · left; omega
    · rw [tout x zx, tin y zy]
      intro e
      refine zx ((hG x).mpr (((hG y).mp zy).next m h h1 (row_back m rx.1 rx.2 hy).2.2.2 hx ?_))
      rcases (inn y zy).2 with q | q
      · right; omega
      · left; omega
    · rw [tout x zx, tout y zy]; exact ap
end
theorem filt_mono {p q : Int → Bool} {l : List Int} (h : ∀ x ∈ l, p x = true → q x = true) : (l.filter p).length ≤ (l.filter q).length := by
  rw [← List.countP_eq_length_filter, ← List.countP_eq_length_filter]
  exact List.countP_mono_left h
structure Off (L : List (List Int)) (os : List Int) : Prop where
  nd : os.Nodup
  rg : ∀ x ∈ os, 0 ≤ x ∧ x < L.length
  few : ∀ (i : Nat) (x : Int), os[i]? = some x → ((rowOf L x).filter fun z => !decide (z ∈ os.take i)).length ≤ 5
theorem Off.nil {L : List (List Int)} : Off L [] := ⟨List.nodup_nil, fun x hx => (nomatch hx), fun i x e => by simp at e⟩
theorem Off.add {L : List (List Int)} {os : List Int} {x : Int} (h : Off L os) (x0 : 0 ≤ x) (x1 : x < L.length) (hx : x ∉ os) (h5 : ((rowOf L x).filter fun z => !decide (z ∈ os)).length ≤ 5) : Off L (os ++ [x]) := by
  refine ⟨List.nodup_append.mpr ⟨h.nd, by simp, fun a ha b hb z => hx (by rw [← List.mem_singleton.mp hb, ← z]; exact ha)⟩, fun y hy => ?_, fun i y e => ?_⟩
  · rcases List.mem_append.mp hy with z | z
    · exact h.rg y z
    · rw [List.mem_singleton.mp z]; exact ⟨x0, x1⟩
  · by_cases hi : i < os.length
    · rw [List.getElem?_append_left hi] at e
      rw [List.take_append_of_le_length (by omega)]
      exact h.few i y e
    · have : i = os.length := by
        have := (List.getElem?_eq_some_iff.mp e).1
        simp at this
        omega
      subst this
      have e : x = y := by simpa using e
      subst e
      rw [List.take_append_of_le_length (Nat.le_refl _), List.take_length]
      exact h5
theorem Off.len {L : List (List Int)} {os : List Int} (h : Off L os) : os.length ≤ L.length := len_range h.nd h.rg
theorem Off.near {L : List (List Int)} {os : List Int} (h : Off L os) (m : IsMap L) (hn : os.length = L.length) {i : Nat} {x : Int} (e : os.reverse[i]? = some x) : x ∉ os.reverse.take i ∧ (0 ≤ x ∧ x < L.length) ∧ (near L (os.reverse.take i) x).length ≤ 5 := by
  have hi : i < os.length := by have := (List.getElem?_eq_some_iff.mp e).1; simpa using this
  rw [List.getElem?_reverse hi] at e
  have hx : x ∈ os := List.mem_of_getElem? e
  have rg := h.rg x hx
  have tk : os.reverse.take i = (os.drop (os.length - i)).reverse := by rw [List.take_reverse]
  have sp : os = os.take (os.length - 1 - i) ++ x :: os.drop (os.length - i) := by
    have he := List.getElem?_eq_some_iff.mp e
    obtain ⟨h1, h2⟩ := he
    have : os.drop (os.length - 1 - i) = x :: os.drop (os.length - i) := by
      rw [List.drop_eq_getElem_cons h1, h2]
      congr 2
      omega
    rw [← this, List.take_append_drop]
  have nd := h.nd
  rw [sp] at nd
  obtain ⟨n1, n2, n3⟩ := List.nodup_append.mp nd
  have n4 := (List.nodup_cons.mp n2)
  refine ⟨by rw [tk, List.mem_reverse]; exact n4.1, rg, ?_⟩
  have := h.few _ x e
  refine Nat.le_trans (filt_mono fun z hz hk => ?_) this
  have hk := of_decide_eq_true hk
  rw [tk, List.mem_reverse] at hk
  rw [Bool.not_eq_true', decide_eq_false_iff_not]
  exact fun y => n3 z y z (List.mem_cons_of_mem _ hk) rfl
end Gm
end
section
set_option Elab.async false
set_option linter.all false
set_option maxRecDepth 100000
namespace Gm
open PySem L2
def ball : List (List Int) := [[1, 2, 3, 4, 5], [0, 5, 10, 6, 2], [0, 1, 6, 7, 3], [0, 2, 7, 8, 4], [0, 3, 8, 9, 5], [0, 4, 9, 10, 1], [1, 10, 11, 7, 2], [2, 6, 11, 8, 3], [3, 7, 11, 9, 4], [4, 8, 11, 10, 5], [5, 9, 11, 6, 1], [10, 9, 8, 7, 6]]
def ballR : List (List Dart) := [[(0, 1), (1, 2), (2, 0)], [(0, 2), (2, 3), (3, 0)], [(0, 3), (3, 4), (4, 0)], [(0, 4), (4, 5), (5, 0)], [(0, 5), (5, 1), (1, 0)], [(1, 5), (5, 10), (10, 1)], [(1, 10), (10, 6), (6, 1)], [(1, 6), (6, 2), (2, 1)], [(2, 6), (6, 7), (7, 2)], [(2, 7), (7, 3), (3, 2)], [(3, 7), (7, 8), (8, 3)], [(3, 8), (8, 4), (4, 3)], [(4, 8), (8, 9), (9, 4)], [(4, 9), (9, 5), (5, 4)], [(5, 9), (9, 10), (10, 5)], [(6, 10), (10, 11), (11, 6)], [(6, 11), (11, 7), (7, 6)], [(7, 11), (11, 8), (8, 7)], [(8, 11), (11, 9), (9, 8)], [(9, 11), (11, 10), (10, 9)]]
theorem Reach.flip {L M : List (List Int)} (h : ∀ d, Dt L d ↔ Dt M d) {s x : Int} (r : Reach L s x) : Reach M s x := r.mono fun d hd => (h d).mp hd
theorem Pln.mir {L : List (List Int)} (f : Pln L) : Pln (mir L) := by
  obtain ⟨R, S, D, s, e⟩ := f.chi
  have gd := fun c hc => D.good f.map (c := c) hc
  refine ⟨mir_map f.map, R.map (fun c => sh 0 (c.map (·.1)).reverse), S, ⟨fun c hc => ?_, ?_, fun d => ?_⟩, fun x x0 x1 => ?_, ?_⟩
  · obtain ⟨c', hc', rfl⟩ := List.mem_map.mp hc
    exact ((gd c' hc').1.mir f.map).cyc
  · have pm : ∀ (T : List (List Dart)), (∀ c ∈ T, c ∈ R) → (T.map fun c => sh 0 (c.map (·.1)).reverse).flatten.Perm (T.flatten.map sw) := fun T => by
      induction T with
      | nil => intro _; exact .nil
      | cons c T ih =>
        intro hT
        obtain ⟨g, hs, _⟩ := gd c (hT c List.mem_cons_self)
        rw [List.map_cons, List.flatten_cons, List.flatten_cons, List.map_append]
        refine List.Perm.append ?_ (ih fun c hc => hT c (List.mem_cons_of_mem _ hc))
        have := sh_rev (r := c.map (·.1)) (by have := g.two; omega)
        rw [hs] at this
        exact this
    refine (pm R fun _ h => h).nodup_iff.mpr (List.Pairwise.map _ (fun a b h z => h (sw_inj z)) D.nd)
  · have pm : ∀ d, d ∈ (R.map fun c => sh 0 (c.map (·.1)).reverse).flatten ↔ sw d ∈ R.flatten := fun d => by
      rw [List.mem_flatten, List.mem_flatten]
      constructor
      · rintro ⟨c', hc', hd⟩
        obtain ⟨c, hc, rfl⟩ := List.mem_map.mp hc'
        obtain ⟨g, hs, _⟩ := gd c hc
        have p := sh_rev (r := c.map (·.1)) (by have := g.two; omega)
        rw [hs] at p
        obtain ⟨e, he, rfl⟩ := List.mem_map.mp (p.mem_iff.mp hd)
        exact ⟨c, hc, he⟩
      · rintro ⟨c, hc, hd⟩
        obtain ⟨g, hs, _⟩ := gd c hc
        have p := sh_rev (r := c.map (·.1)) (by have := g.two; omega)
        rw [hs] at p
        exact ⟨_, List.mem_map.mpr ⟨c, hc, rfl⟩, p.mem_iff.mpr (List.mem_map.mpr ⟨sw d, hd, rfl⟩)⟩
    rw [pm d, D.mem, dt_mir]
    exact ⟨fun h => back_dt f.map h, fun h => back_dt f.map h⟩
  · obtain ⟨s0, hs, r⟩ := s x x0 (by rw [mir_len] at x1; exact x1)
    exact ⟨s0, hs, r.flip fun d => dt_mir.symm⟩
  · rw [List.length_map, mir_len, iso_mir, dts_mir]
    exact e
theorem pre_map {l : List Int} {f : Int → Int} {x : Int} (inj : ∀ a ∈ l, ∀ b ∈ l, f a = f b → a = b) (hx : x ∈ l) : pre (l.map f) (f x) = f (pre l x) := by
  have idx : ∀ (l : List Int), (∀ a ∈ l, ∀ b ∈ l, f a = f b → a = b) → x ∈ l → (l.map f).idxOf (f x) = l.idxOf x := by
    intro l
    induction l with
    | nil => intro _ h; cases h
    | cons y l ih =>
      intro inj hx
      rw [List.map_cons, List.idxOf_cons, List.idxOf_cons]
      by_cases e : y = x
      · subst e; simp
      · have : f y ≠ f x := fun z => e (inj y List.mem_cons_self x hx z)
        have b1 : (f y == f x) = false := by simpa using this
        have b2 : (y == x) = false := by simpa using e
        rw [b1, b2]
        have hx' : x ∈ l := (List.mem_cons.mp hx).resolve_left fun z => e z.symm
        rw [ih (fun a ha b hb => inj a (List.mem_cons_of_mem _ ha) b (List.mem_cons_of_mem _ hb)) hx']
  have hl : 0 < l.length := List.length_pos_of_mem hx
  unfold pre
  rw [idx l inj hx, List.length_map]
  unfold cy
  rw [List.length_map]
  have hj := Nat.mod_lt (l.idxOf x + l.length - 1) hl
  rw [List.getD_eq_getElem?_getD, List.getD_eq_getElem?_getD, List.getElem?_map, List.getElem?_eq_getElem hj]
  rfl
theorem rows_upto (L : List (List Int)) : (upto L.length).map (rowOf L) = L := by
  refine List.ext_getElem? fun i => ?_
  by_cases h : i < L.length
  · rw [List.getElem?_map, upto_at h, List.getElem?_eq_getElem h]
    show some (rowOf L (i : Int)) = _
    rw [rowOf_nat (List.getElem?_eq_getElem h)]
  · rw [List.getElem?_eq_none (by rw [List.length_map, upto_len]; omega), List.getElem?_eq_none (by omega)]
section
variable {A R : List (List Int)} {l : List Int}
theorem Ren.rowOf (h : Ren A l R) {j : Int} (j0 : 0 ≤ j) (j1 : j < A.length) (n : Nam A.length l) : rowOf R (nmF l j) = (rowOf A j).map (nmF l) := by
  have r := n.rgF j0 j1
  have := h.row j j0 j1
  unfold Gm.rowOf
  rw [List.getD_eq_getElem?_getD, this]
  rfl
theorem perm_mem {α : Type} [BEq α] [LawfulBEq α] {l r : List α} (n1 : l.Nodup) (n2 : r.Nodup) (h : ∀ x, x ∈ l ↔ x ∈ r) : l.Perm r := by
  refine List.perm_iff_count.mpr fun a => ?_
  have c : ∀ {l : List α}, l.Nodup → l.count a = if a ∈ l then 1 else 0 := fun {l} n => by
    by_cases q : a ∈ l
    · rw [if_pos q]
      have h1 := List.nodup_iff_count.mp n a
      have h2 := List.count_pos_iff.mpr q
      omega
    · rw [if_neg q, List.count_eq_zero.mpr q]
  rw [c n1, c n2]
  by_cases hx : a ∈ l
  · rw [if_pos hx, if_pos ((h a).mp hx)]
  · rw [if_neg hx, if_neg (fun z => hx ((h a).mpr z))]
theorem Nam.perm {n : Nat} (h : Nam n l) : ((upto n).map (nmF l)).Perm (upto n) := by
  have e : (upto n).map (nmF l) = l := by
    have := nmF_map l
    rw [h.len] at this
    exact this
  rw [e]
  refine perm_mem h.nd (upto_nd n) fun x => ?_
  rw [mem_upto]
  exact ⟨fun z => h.rg x z, fun z => h.all z.1 z.2⟩
theorem Ren.perm (h : Ren A l R) (n : Nam A.length l) : R.Perm (A.map (List.map (nmF l))) := by
  have e1 := rows_upto R
  rw [h.len] at e1
  have p := (n.perm).map (Gm.rowOf R)
  rw [e1, List.map_map] at p
  refine p.symm.trans (.of_eq ?_)
  conv => rhs; rw [← rows_upto A, List.map_map]
  refine List.map_congr_left fun j hj => ?_
  have := mem_upto.mp hj
  exact h.rowOf this.1 this.2 n
def nmD (l : List Int) (d : Dart) : Dart := (nmF l d.1, nmF l d.2)
theorem Ren.dt (h : Ren A l R) (n : Nam A.length l) (m : IsMap A) {d : Dart} (hd : Dt A d) : Dt R (nmD l d) := by
  have r := n.rgF hd.lo hd.hi
  refine ⟨r.1, by rw [h.len]; exact r.2, ?_⟩
  show nmF l d.2 ∈ Gm.rowOf R (nmF l d.1)
  rw [h.rowOf hd.lo hd.hi n]
  exact List.mem_map.mpr ⟨d.2, hd.mem, rfl⟩
theorem Ren.nx (h : Ren A l R) (n : Nam A.length l) (m : IsMap A) {d : Dart} (hd : Dt A d) : nx R (nmD l d) = nmD l (Gm.nx A d) := by
  obtain ⟨b0, b1, b2, b3⟩ := hd.back m
  unfold Gm.nx nmD
  dsimp only
  rw [h.rowOf b0 b1 n, pre_map (fun a ha b hb e => ?_) b3]
  have ra := row_back m b0 b1 ha
  have rb := row_back m b0 b1 hb
  exact n.inj ra.1 ra.2.1 rb.1 rb.2.1 e
end
end Gm
end
section
set_option Elab.async false
set_option linter.all false
set_option maxRecDepth 100000
namespace L2
open PySem PySem.Spec PySem.W PySem.Calls PyProof.Rows Gm Fr
section
variable {X : Cx} {CX : CXT} {k j : Nat} {ps : List Str} {sp : Sp} {E : XK} {x : Str} {p pos : Pos}
end
section
variable {σ : St} {H : Hp} {Q : VK} {K : Frag}
end
end L2
namespace Gm
open PySem L2
theorem Off.more {L : List (List Int)} {os : List Int} (h : Off L os) (hl : os.length < L.length) : ∃ x : Int, 0 ≤ x ∧ x < L.length ∧ x ∉ os := by
  refine Classical.byContradiction fun no => ?_
  have := len_le (l := upto L.length) (r := os) (upto_nd _) fun x hx => Classical.byContradiction fun z => no ⟨x, (mem_upto.mp hx).1, (mem_upto.mp hx).2, z⟩
  rw [upto_len] at this
  omega
end Gm
end
section
set_option Elab.async false
set_option linter.all false
set_option maxRecDepth 100000
namespace Dt
def sm : Nat → (Nat → Int) → Int
  | 0, _ => 0
  | n + 1, f => sm n f + f n
theorem sm_congr {f g : Nat → Int} : ∀ {n : Nat}, (∀ i, i < n → f i = g i) → sm n f = sm n g
  | 0, _ => rfl
  | n + 1, h => by
    show sm n f + f n = sm n g + g n
    rw [sm_congr fun i hi => h i (Nat.lt_succ_of_lt hi), h n (Nat.lt_succ_self n)]
theorem sm_zero {f : Nat → Int} : ∀ {n : Nat}, (∀ i, i < n → f i = 0) → sm n f = 0
  | 0, _ => rfl
  | n + 1, h => by
    show sm n f + f n = 0
    rw [sm_zero fun i hi => h i (Nat.lt_succ_of_lt hi), h n (Nat.lt_succ_self n)]
    rfl
theorem sm_lin {f g : Nat → Int} (a b : Int) : ∀ (n : Nat), sm n (fun i => a * f i + b * g i) = a * sm n f + b * sm n g
  | 0 => by simp [sm]
  | n + 1 => by
    show sm n (fun i => a * f i + b * g i) + (a * f n + b * g n) = a * (sm n f + f n) + b * (sm n g + g n)
    rw [sm_lin a b n]
    grind
theorem sm_mul {f : Nat → Int} (a : Int) : ∀ (n : Nat), sm n (fun i => a * f i) = a * sm n f
  | 0 => by simp [sm]
  | n + 1 => by
    show sm n (fun i => a * f i) + a * f n = a * (sm n f + f n)
    rw [sm_mul a n]
    grind
theorem sm_add {f g : Nat → Int} : ∀ (n : Nat), sm n (fun i => f i + g i) = sm n f + sm n g
  | 0 => by simp [sm]
  | n + 1 => by
    show sm n (fun i => f i + g i) + (f n + g n) = (sm n f + f n) + (sm n g + g n)
    rw [sm_add n]
    omega
theorem sm_sub {f g : Nat → Int} : ∀ (n : Nat), sm n (fun i => f i - g i) = sm n f - sm n g
  | 0 => by simp [sm]
  | n + 1 => by
    show sm n (fun i => f i - g i) + (f n - g n) = (sm n f + f n) - (sm n g + g n)
    rw [sm_sub n]
    omega
theorem sm_one {f : Nat → Int} {k : Nat} : ∀ {n : Nat}, k < n → (∀ i, i < n → i ≠ k → f i = 0) → sm n f = f k
  | n + 1, hk, h => by
    show sm n f + f n = f k
    by_cases e : k = n
    · subst e
      rw [sm_zero fun i hi => h i (Nat.lt_succ_of_lt hi) (Nat.ne_of_lt hi)]
      omega
    · rw [sm_one (k := k) (by omega) fun i hi => h i (Nat.lt_succ_of_lt hi), h n (Nat.lt_succ_self n) (fun z => e z.symm)]
      omega
theorem sm_two {f : Nat → Int} {k l : Nat} : ∀ {n : Nat}, k < l → l < n → (∀ i, i < n → i ≠ k → i ≠ l → f i = 0) → sm n f = f k + f l
  | n + 1, hk, hl, h => by
    show sm n f + f n = f k + f l
    by_cases e : l = n
    · subst e
      rw [sm_one (k := k) hk fun i hi z => h i (by omega) z (by omega)]
    · rw [sm_two hk (by omega) fun i hi => h i (Nat.lt_succ_of_lt hi), h n (Nat.lt_succ_self n) (by omega) (by omega)]
      omega
def sg : Nat → Int
  | 0 => 1
  | n + 1 => - sg n
def sk (j l : Nat) : Nat := if l < j then l else l + 1
abbrev Mx := Nat → Nat → Int
def mi (A : Mx) (j : Nat) : Mx := fun i l => A (i + 1) (sk j l)
def det : Nat → Mx → Int
  | 0, _ => 1
  | n + 1, A => sm (n + 1) fun j => sg j * A 0 j * det n (mi A j)
theorem det_succ (n : Nat) (A : Mx) : det (n + 1) A = sm (n + 1) fun j => sg j * A 0 j * det n (mi A j) := rfl
theorem sk_lt {j l n : Nat} (h : l < n) : sk j l < n + 1 := by unfold sk; split <;> omega
theorem sk_ne (j l : Nat) : sk j l ≠ j := by unfold sk; split <;> omega
theorem det_congr : ∀ {n : Nat} {A B : Mx}, (∀ i j, i < n → j < n → A i j = B i j) → det n A = det n B
  | 0, _, _, _ => rfl
  | n + 1, A, B, h => by
    rw [det_succ, det_succ]
    refine sm_congr fun j hj => ?_
    rw [h 0 j (by omega) hj, det_congr (A := mi A j) (B := mi B j) fun i l hi hl => h _ _ (by omega) (sk_lt hl)]
def cl (A : Mx) (c : Nat) (v : Nat → Int) : Mx := fun i j => if j = c then v i else A i j
theorem cl_self (A : Mx) (c : Nat) (v : Nat → Int) (i : Nat) : cl A c v i c = v i := if_pos rfl
theorem cl_ne {A : Mx} {c j : Nat} (v : Nat → Int) (i : Nat) (h : j ≠ c) : cl A c v i j = A i j := if_neg h
theorem mi_cl_self (A : Mx) (c : Nat) (v : Nat → Int) : mi (cl A c v) c = mi A c := by
  funext i l
  exact cl_ne _ _ (sk_ne c l)
def dn (j c : Nat) : Nat := if c < j then c else c - 1
theorem sk_iff {j c l : Nat} (h : j ≠ c) : sk j l = c ↔ l = dn j c := by unfold sk dn; split <;> split <;> omega
theorem dn_lt {j c n : Nat} (h : j ≠ c) (hc : c < n + 1) (hj : j < n + 1) : dn j c < n := by unfold dn; split <;> omega
theorem mi_cl {A : Mx} {c j : Nat} (v : Nat → Int) (h : j ≠ c) : mi (cl A c v) j = cl (mi A j) (dn j c) fun i => v (i + 1) := by
  funext i l
  unfold mi cl
  by_cases z : sk j l = c
  · rw [if_pos z, if_pos ((sk_iff h).mp z)]
  · rw [if_neg z, if_neg (fun y => z ((sk_iff h).mpr y))]
theorem det_lin (a b : Int) : ∀ {n : Nat} (A : Mx) {c : Nat} (v w : Nat → Int), c < n → det n (cl A c fun i => a * v i + b * w i) = a * det n (cl A c v) + b * det n (cl A c w)
  | n + 1, A, c, v, w, hc => by
    rw [det_succ, det_succ, det_succ, ← sm_lin]
    refine sm_congr fun j hj => ?_
    by_cases e : j = c
    · subst e
      rw [mi_cl_self, mi_cl_self, mi_cl_self, cl_self, cl_self, cl_self]
      grind
    · rw [mi_cl _ e, mi_cl _ e, mi_cl _ e, cl_ne _ _ e, cl_ne _ _ e, cl_ne _ _ e, det_lin a b (mi A j) (fun i => v (i + 1)) (fun i => w (i + 1)) (dn_lt e hc hj)]
      grind
theorem det_adj : ∀ {n : Nat} {A : Mx} {c : Nat}, c + 1 < n → (∀ i, i < n → A i c = A i (c + 1)) → det n A = 0
  | n + 1, A, c, hc, h => by
    rw [det_succ, sm_two (k := c) (l := c + 1) (by omega) hc fun j hj h1 h2 => ?_]
    · have e : det n (mi A c) = det n (mi A (c + 1)) := det_congr fun i l hi hl => by
        unfold mi
        by_cases z : l = c
        · subst z
          have e1 : sk l l = l + 1 := by unfold sk; rw [if_neg (by omega)]
          have e2 : sk (l + 1) l = l := by unfold sk; rw [if_pos (by omega)]
          rw [e1, e2]
          exact (h _ (by omega)).symm
        · have : sk c l = sk (c + 1) l := by unfold sk; split <;> split <;> omega
          rw [this]
      rw [e, ← h 0 (by omega)]
      show sg c * A 0 c * det n (mi A (c + 1)) + (- sg c) * A 0 c * det n (mi A (c + 1)) = 0
      grind
    · have e : det n (mi A j) = 0 := by
        by_cases z : j < c
        · refine det_adj (c := c - 1) (by omega) fun i hi => ?_
          unfold mi
          have e1 : sk j (c - 1) = c := by unfold sk; rw [if_neg (by omega)]; omega
          have e2 : sk j (c - 1 + 1) = c + 1 := by unfold sk; rw [if_neg (by omega)]; omega
          rw [e1, e2]
          exact h _ (by omega)
        · refine det_adj (c := c) (by omega) fun i hi => ?_
          unfold mi
          have e1 : sk j c = c := by unfold sk; rw [if_pos (by omega)]
          have e2 : sk j (c + 1) = c + 1 := by unfold sk; rw [if_pos (by omega)]
          rw [e1, e2]
          exact h _ (by omega)
      rw [e, Int.mul_zero]
theorem cl_comm {A : Mx} {c d : Nat} (v w : Nat → Int) (h : c ≠ d) : cl (cl A c v) d w = cl (cl A d w) c v := by
  funext i j
  unfold cl
  by_cases z : j = d
  · rw [if_pos z, if_neg (by omega), if_pos z]
  · rw [if_neg z, if_neg z]
theorem cl_own (A : Mx) (c : Nat) : cl A c (fun i => A i c) = A := by
  funext i j
  unfold cl
  split
  · rename_i e; rw [e]
  · rfl
theorem swap_of {n c d : Nat} (hc : c < n) (hd : d < n) (hcd : c ≠ d) (h : ∀ (A : Mx), (∀ i, i < n → A i c = A i d) → det n A = 0) (A : Mx) (u w : Nat → Int) :
    det n (cl (cl A c u) d w) = - det n (cl (cl A c w) d u) := by
  have z : ∀ v : Nat → Int, det n (cl (cl A c v) d v) = 0 := fun v => h _ fun i _ => by rw [cl_self, cl_ne _ _ hcd, cl_self]
  have e : det n (cl (cl A c fun i => 1 * u i + 1 * w i) d fun i => 1 * u i + 1 * w i) = 0 := z _
  rw [det_lin 1 1 _ _ _ hd, cl_comm _ _ hcd, cl_comm _ _ hcd, det_lin 1 1 _ _ _ hc, det_lin 1 1 _ _ _ hc, ← cl_comm _ _ hcd, ← cl_comm _ _ hcd, ← cl_comm _ _ hcd, ← cl_comm _ _ hcd, z, z] at e
  omega
theorem det_two : ∀ (k : Nat) {n : Nat} {A : Mx} {c : Nat}, c + 1 + k < n → (∀ i, i < n → A i c = A i (c + 1 + k)) → det n A = 0
  | 0, n, A, c, hc, h => det_adj hc h
  | k + 1, n, A, c, hc, h => by
    have s := swap_of (n := n) (c := c + 1 + k) (d := c + 1 + (k + 1)) (by omega) hc (by omega) (fun B hB => det_adj (c := c + 1 + k) (by omega) hB) A (fun i => A i (c + 1 + k)) (fun i => A i (c + 1 + (k + 1)))
    rw [cl_own] at s
    have e1 : cl A (c + 1 + (k + 1)) (fun i => A i (c + 1 + (k + 1))) = A := cl_own A _
    rw [e1] at s
    rw [s, det_two k (c := c) (by omega) fun i hi => ?_]
    · rfl
    · rw [cl_ne _ _ (by omega), cl_ne _ _ (by omega), cl_ne _ _ (by omega), cl_self]
      exact h i hi
theorem det_same {n c d : Nat} {A : Mx} (hc : c < n) (hd : d < n) (hcd : c ≠ d) (h : ∀ i, i < n → A i c = A i d) : det n A = 0 := by
  by_cases z : c < d
  · obtain ⟨k, rfl⟩ : ∃ k, d = c + 1 + k := ⟨d - (c + 1), by omega⟩
    exact det_two k hd h
  · obtain ⟨k, rfl⟩ : ∃ k, c = d + 1 + k := ⟨c - (d + 1), by omega⟩
    exact det_two k hc fun i hi => (h i hi).symm
theorem det_swap {n c d : Nat} (hc : c < n) (hd : d < n) (hcd : c ≠ d) (A : Mx) (u w : Nat → Int) : det n (cl (cl A c u) d w) = - det n (cl (cl A c w) d u) :=
  swap_of hc hd hcd (fun _ h => det_same hc hd hcd h) A u w
theorem det_nil {n c : Nat} {A : Mx} (hc : c < n) : det n (cl A c fun _ => 0) = 0 := by
  have := det_lin 0 0 A (fun _ => 0) (fun _ => 0) hc
  simpa using this
theorem det_scale {n c : Nat} {A : Mx} (a : Int) (v : Nat → Int) (hc : c < n) : det n (cl A c fun i => a * v i) = a * det n (cl A c v) := by
  have := det_lin a 0 A v v hc
  simpa using this
theorem det_sum {n c : Nat} (A : Mx) (V : Nat → Nat → Int) (hc : c < n) : ∀ m : Nat, det n (cl A c fun i => sm m fun l => V l i) = sm m fun l => det n (cl A c (V l))
  | 0 => det_nil hc
  | m + 1 => by
    have e := det_lin 1 1 A (fun i => sm m fun l => V l i) (V m) hc
    rw [det_sum A V hc m] at e
    simp only [Int.one_mul] at e
    exact e
def un (k i : Nat) : Int := if i = k then 1 else 0
theorem det_corner : ∀ (k : Nat) (A : Mx), det (k + 1) (cl A k (un k)) = det k A
  | 0, A => by
    rw [det_succ]
    show 0 + sg 0 * cl A 0 (un 0) 0 0 * 1 = 1
    rw [cl_self]
    rfl
  | k + 1, A => by
    rw [det_succ, det_succ]
    show sm (k + 1) _ + _ = _
    have e0 : cl A (k + 1) (un (k + 1)) 0 (k + 1) = 0 := by rw [cl_self]; rfl
    dsimp only
    rw [e0, Int.mul_zero, Int.zero_mul, Int.add_zero]
    refine sm_congr fun j hj => ?_
    have ne : j ≠ k + 1 := by omega
    rw [cl_ne _ _ ne, mi_cl _ ne, ← det_corner k (mi A j)]
    have e1 : dn j (k + 1) = k := by unfold dn; rw [if_neg (by omega)]; omega
    have e2 : (fun i => un (k + 1) (i + 1)) = un k := by
      funext i
      unfold un
      by_cases z : i = k
      · rw [if_pos z, if_pos (by omega)]
      · rw [if_neg z, if_neg (by omega)]
    rw [e1, e2]
end Dt
end
section
set_option Elab.async false
set_option linter.all false
set_option maxRecDepth 100000
namespace Dt
theorem can {d a b : Int} (h : d ≠ 0) (e : d * a = d * b) : a = b := Int.eq_of_mul_eq_mul_left h e
structure Ba (k : Nat) (A W : Mx) (d : Int) : Prop where
  ne : d ≠ 0
  dt : d = det k A
  up : ∀ i j, i < k → d * A i j = sm k fun l => A i l * W l j
  lo : ∀ i j, k ≤ i → W i j = d * A i j - sm k fun l => A i l * W l j
theorem Ba.start (A : Mx) : Ba 0 A A 1 := ⟨by decide, rfl, fun i j h => absurd h (Nat.not_lt_zero _), fun i j _ => by show _ = 1 * A i j - 0; omega⟩
def rl (A : Mx) (k : Nat) (v : Nat → Int) : Mx := fun i j => if i = k then v j else A i j
theorem rl_self (A : Mx) (k : Nat) (v : Nat → Int) (j : Nat) : rl A k v k j = v j := if_pos rfl
theorem rl_ne {A : Mx} {k i : Nat} (v : Nat → Int) (j : Nat) (h : i ≠ k) : rl A k v i j = A i j := if_neg h
variable {k : Nat} {A W : Mx} {d : Int}
theorem Ba.led (b : Ba k A W d) {r : Nat} (hr : k < r) : Ba k (rl A k fun j => A k j + A r j) (rl W k fun j => W k j + W r j) d := by
  have hs : ∀ (v : Nat → Int) (j : Nat), sm k (fun l => v l * rl W k (fun j => W k j + W r j) l j) = sm k fun l => v l * W l j := fun v j => sm_congr fun l hl => by rw [rl_ne _ _ (by omega)]
  refine ⟨b.ne, b.dt.trans (det_congr fun i j hi hj => (rl_ne _ _ (by omega)).symm), fun i j hi => ?_, fun i j hi => ?_⟩
  · have e : ∀ l, rl A k (fun j => A k j + A r j) i l = A i l := fun l => rl_ne _ _ (by omega)
    rw [e, hs, b.up i j hi]
    exact sm_congr fun l _ => by rw [e]
  · rw [hs]
    by_cases z : i = k
    · subst z
      rw [rl_self, rl_self, b.lo i j (Nat.le_refl _), b.lo r j (by omega)]
      have e : sm i (fun l => rl A i (fun j => A i j + A r j) i l * W l j) = sm i (fun l => A i l * W l j) + sm i (fun l => A r l * W l j) := by
        rw [← sm_add]
        exact sm_congr fun l _ => by rw [rl_self]; exact Int.add_mul _ _ _
      rw [e]
      grind
    · rw [rl_ne _ _ z, rl_ne _ _ z, b.lo i j hi]
      have e : sm k (fun l => rl A k (fun j => A k j + A r j) i l * W l j) = sm k (fun l => A i l * W l j) := sm_congr fun l _ => by rw [rl_ne _ _ z]
      rw [e]
theorem Ba.vec (b : Ba k A W d) {i : Nat} (hi : i < k + 1) (j : Nat) : d * A i j = sm k (fun l => W l j * A i l) + W k j * un k i := by
  have e : sm k (fun l => W l j * A i l) = sm k fun l => A i l * W l j := sm_congr fun l _ => Int.mul_comm _ _
  rw [e]
  unfold un
  by_cases z : i = k
  · subst z
    rw [if_pos rfl, b.lo i j (Nat.le_refl _)]
    omega
  · rw [if_neg z, b.up i j (by omega)]
    omega
theorem Ba.col (b : Ba k A W d) (B : Mx) {c : Nat} (hc : c < k + 1) (j : Nat) :
    d * det (k + 1) (cl B c fun i => A i j) = sm k (fun l => W l j * det (k + 1) (cl B c fun i => A i l)) + W k j * det (k + 1) (cl B c (un k)) := by
  rw [← det_scale d _ hc]
  have e : det (k + 1) (cl B c fun i => d * A i j) = det (k + 1) (cl B c fun i => 1 * sm k (fun l => W l j * A i l) + W k j * un k i) := det_congr fun i l hi _ => by
    unfold cl
    split
    · dsimp only; rw [b.vec hi j]; omega
    · rfl
  rw [e, det_lin 1 (W k j) _ _ _ hc, Int.one_mul, det_sum B (fun l i => W l j * A i l) hc]
  congr 1
  exact sm_congr fun l _ => det_scale _ _ hc
theorem Ba.last (b : Ba k A W d) (j : Nat) : det (k + 1) (cl A k fun i => A i j) = W k j := by
  refine can b.ne ?_
  rw [b.col A (Nat.lt_succ_self k) j, det_corner, ← b.dt, sm_zero fun l hl => ?_]
  · rw [Int.zero_add]; exact Int.mul_comm _ _
  · rw [det_same (c := l) (d := k) (by omega) (by omega) (by omega) fun i _ => by rw [cl_self, cl_ne _ _ (by omega)]]
    exact Int.mul_zero _
theorem Ba.piv (b : Ba k A W d) : det (k + 1) A = W k k := by
  have := b.last k
  rw [cl_own] at this
  exact this
theorem Ba.unit (b : Ba k A W d) {i : Nat} (hi : i < k) : det (k + 1) (cl A i (un k)) = - W i k := by
  refine can b.ne ?_
  have hk : k < k + 1 := Nat.lt_succ_self k
  have e := b.col (cl A i (un k)) hk k
  have e1 : cl (cl A i (un k)) k (fun j => A j k) = cl A i (un k) := by
    have := cl_own (cl A i (un k)) k
    have e2 : (fun j => cl A i (un k) j k) = fun j => A j k := by funext j; exact cl_ne _ _ (by omega)
    rw [e2] at this
    exact this
  have e3 : det (k + 1) (cl (cl A i (un k)) k (un k)) = 0 := det_same (c := i) (d := k) (by omega) hk (by omega) fun j _ => by rw [cl_self, cl_ne _ _ (by omega), cl_self]
  have e4 : det (k + 1) (cl (cl A i (un k)) k fun j => A j i) = - d := by
    rw [det_swap (by omega) hk (by omega), cl_own, det_corner, ← b.dt]
  rw [e1, e3, sm_one hi fun l hl z => ?_, e4] at e
  · rw [e]
    grind
  · rw [det_same (c := l) (d := k) (by omega) hk (by omega) fun j _ => by rw [cl_self, cl_ne _ _ (by omega), cl_ne _ _ z]]
    exact Int.mul_zero _
theorem Ba.cram (b : Ba k A W d) {i : Nat} (hi : i < k) (j : Nat) : d * det (k + 1) (cl A i fun l => A l j) = W k k * W i j - W i k * W k j := by
  rw [b.col A (by omega) j, b.unit hi, sm_one hi fun l hl z => ?_]
  · rw [cl_own, b.piv]
    grind
  · rw [det_same (c := l) (d := i) (by omega) (by omega) z fun j _ => by rw [cl_self, cl_ne _ _ z]]
    exact Int.mul_zero _
theorem Ba.step (b : Ba k A W d) (hk : W k k ≠ 0) : ∃ W' : Mx, (∀ i j, i ≠ k → d * W' i j = W k k * W i j - W i k * W k j) ∧ (∀ j, W' k j = W k j) ∧ Ba (k + 1) A W' (W k k) := by
  let X : Mx := fun i j => if i < k then det (k + 1) (cl A i fun l => A l j) else W k j
  have X1 : ∀ i j, i < k → d * X i j = W k k * W i j - W i k * W k j := fun i j hi => by
    show d * (if i < k then _ else _) = _
    rw [if_pos hi]
    exact b.cram hi j
  have X2 : ∀ j, X k j = W k j := fun j => if_neg (Nat.lt_irrefl k)
  have S : ∀ i j, d * sm (k + 1) (fun l => A i l * X l j) = W k k * sm k (fun l => A i l * W l j) + (- W k j) * sm k (fun l => A i l * W l k) + d * A i k * W k j := fun i j => by
    rw [← sm_mul]
    show sm k (fun l => d * (A i l * X l j)) + d * (A i k * X k j) = _
    rw [X2, ← sm_lin, Int.mul_assoc d]
    congr 1
    refine sm_congr fun l hl => ?_
    have := X1 l j hl
    grind
  refine ⟨fun i j => if i < k + 1 then X i j else W k k * A i j - sm (k + 1) (fun l => A i l * X l j), fun i j hne => ?_, fun j => ?_, hk, b.piv.symm, fun i j hi => ?_, fun i j hi => ?_⟩
  · dsimp only
    by_cases z : i < k + 1
    · rw [if_pos z]
      exact X1 i j (by omega)
    · rw [if_neg z, Int.mul_sub, S]
      have h1 := b.lo i j (by omega)
      have h2 := b.lo i k (by omega)
      grind
  · dsimp only
    rw [if_pos (Nat.lt_succ_self k)]
    exact X2 j
  · have e : sm (k + 1) (fun l => A i l * (if l < k + 1 then X l j else W k k * A l j - sm (k + 1) (fun m => A l m * X m j))) = sm (k + 1) (fun l => A i l * X l j) := sm_congr fun l hl => by rw [if_pos hl]
    rw [e]
    refine can b.ne ?_
    rw [S]
    by_cases z : i = k
    · subst z
      have h1 := b.lo i j (Nat.le_refl _)
      have h2 := b.lo i i (Nat.le_refl _)
      grind
    · have h1 := b.up i j (by omega)
      have h2 := b.up i k (by omega)
      grind
  · have e : sm (k + 1) (fun l => A i l * (if l < k + 1 then X l j else W k k * A l j - sm (k + 1) (fun m => A l m * X m j))) = sm (k + 1) (fun l => A i l * X l j) := sm_congr fun l hl => by rw [if_pos hl]
    rw [e, if_neg (by omega)]
theorem det_ker {n : Nat} {A : Mx} {v : Nat → Int} (h : ∀ i, i < n → sm n (fun l => v l * A i l) = 0) {c : Nat} (hc : c < n) : v c * det n A = 0 := by
  have e : det n (cl A c fun i => sm n fun l => v l * A i l) = 0 := by
    rw [← det_nil (A := A) hc]
    refine det_congr fun i j hi _ => ?_
    unfold cl
    split
    · exact h i hi
    · rfl
  rw [det_sum A (fun l i => v l * A i l) hc, sm_one hc fun l hl z => ?_, det_scale _ _ hc, cl_own] at e
  · exact e
  · rw [det_scale _ _ hc, det_same (c := l) (d := c) (by omega) hc z fun j _ => by rw [cl_self, cl_ne _ _ z]]
    exact Int.mul_zero _
theorem det_inj {n : Nat} {A : Mx} (h0 : det n A ≠ 0) {v : Nat → Int} (h : ∀ i, i < n → sm n (fun l => v l * A i l) = 0) {c : Nat} (hc : c < n) : v c = 0 :=
  (Int.mul_eq_zero.mp (det_ker h hc)).resolve_right h0
theorem Ba.stuck (b : Ba k A W d) {n m : Nat} (hk : k < m) (h : ∀ i, k ≤ i → i < n → W i k = 0) : ∀ i, i < n → sm m (fun l => (if l < k then W l k else if l = k then - d else 0) * A i l) = 0 := by
  intro i hi
  have key : ∀ m, k < m → sm m (fun l => (if l < k then W l k else if l = k then - d else 0) * A i l) = sm k (fun l => A i l * W l k) - d * A i k := fun m => by
    induction m with
    | zero => intro z; omega
    | succ m ih =>
      intro z
      show sm m _ + _ = _
      dsimp only
      by_cases e : m = k
      · subst e
        rw [if_neg (by omega), if_pos rfl, sm_congr (g := fun l => A i l * W l m) fun l hl => by rw [if_pos hl]; exact Int.mul_comm _ _]
        grind
      · rw [ih (by omega), if_neg (by omega), if_neg e]
        omega
  rw [key m hk]
  by_cases z : i < k
  · rw [b.up i k z]; omega
  · have := b.lo i k (by omega)
    rw [h i (by omega) hi] at this
    omega
theorem Ba.done {n : Nat} (b : Ba n A W d) {c j : Nat} (hc : c < n) (hj : j < n) : W c j = if c = j then d else 0 := by
  have h0 : det n A ≠ 0 := fun z => b.ne (b.dt.trans z)
  have := det_inj h0 (v := fun l => W l j - if l = j then d else 0) (fun i hi => ?_) hc
  · omega
  · have e : sm n (fun l => (W l j - if l = j then d else 0) * A i l) = sm n (fun l => A i l * W l j) - sm n (fun l => (if l = j then d else 0) * A i l) := by
      rw [← sm_sub]
      exact sm_congr fun l _ => by rw [Int.sub_mul, Int.mul_comm (W l j)]
    rw [e, ← b.up i j hi, sm_one hj fun l _ z => by rw [if_neg z]; exact Int.zero_mul _, if_pos rfl]
    omega
end Dt
end
section
set_option Elab.async false
set_option linter.all false
set_option maxRecDepth 100000
namespace Dt
theorem sm_abs {B : Nat} {f : Nat → Int} : ∀ {n : Nat}, (∀ i, i < n → (f i).natAbs ≤ B) → (sm n f).natAbs ≤ n * B
  | 0, _ => by simp [sm]
  | n + 1, h => by
    have h1 := sm_abs fun i hi => h i (Nat.lt_succ_of_lt hi)
    have h2 := h n (Nat.lt_succ_self n)
    have h3 := Int.natAbs_add_le (sm n f) (f n)
    show (sm n f + f n).natAbs ≤ _
    rw [Nat.succ_mul]
    omega
theorem sg_abs : ∀ j, (sg j).natAbs = 1
  | 0 => rfl
  | j + 1 => by show (- sg j).natAbs = 1; rw [Int.natAbs_neg]; exact sg_abs j
theorem det_bound {M : Nat} : ∀ {n : Nat} {A : Mx}, (∀ i j, i < n → j < n → (A i j).natAbs ≤ M) → (det n A).natAbs ≤ (n * M) ^ n
  | 0, _, _ => by simp [det]
  | n + 1, A, h => by
    rw [det_succ]
    have := sm_abs (n := n + 1) (B := M * (n * M) ^ n) (f := fun j => sg j * A 0 j * det n (mi A j)) fun j hj => by
      rw [Int.natAbs_mul, Int.natAbs_mul, sg_abs, Nat.one_mul]
      exact Nat.mul_le_mul (h 0 j (by omega) hj) (det_bound fun i l hi hl => h _ _ (by omega) (sk_lt hl))
    refine Nat.le_trans this ?_
    rw [← Nat.mul_assoc, Nat.pow_succ, Nat.mul_comm]
    exact Nat.mul_le_mul_right _ (Nat.pow_le_pow_left (Nat.mul_le_mul_right _ (Nat.le_succ n)) n)
variable {k : Nat} {A W : Mx} {d : Int}
theorem Ba.cr (b : Ba k A W d) {i : Nat} (hi : i < k) (j : Nat) : W i j = det k (cl A i fun l => A l j) := by
  refine can b.ne ?_
  rw [← det_scale d _ hi]
  have e : det k (cl A i fun l => d * A l j) = det k (cl A i fun l => sm k fun m => W m j * A l m) := det_congr fun a c ha _ => by
    unfold cl
    split
    · dsimp only
      rw [b.up a j ha]
      exact sm_congr fun l _ => Int.mul_comm _ _
    · rfl
  rw [e, det_sum A (fun m l => W m j * A l m) hi, sm_one hi fun l hl z => ?_, det_scale _ _ hi, cl_own, ← b.dt]
  · exact Int.mul_comm _ _
  · rw [det_scale _ _ hi, det_same (c := l) (d := i) hl hi z fun j _ => by rw [cl_self, cl_ne _ _ z]]
    exact Int.mul_zero _
theorem Ba.bound (b : Ba k A W d) {M : Nat} (hM : 1 ≤ M) (h : ∀ i j, (A i j).natAbs ≤ M) (i j : Nat) : (W i j).natAbs ≤ ((k + 1) * M) ^ (k + 1) := by
  have h1 : ∀ l j, l < k → (W l j).natAbs ≤ (k * M) ^ k := fun l j hl => by
    rw [b.cr hl j]
    refine det_bound fun a c _ _ => ?_
    unfold cl
    split
    · exact h _ _
    · exact h _ _
  have h2 : (k * M) ^ k ≤ ((k + 1) * M) ^ k := Nat.pow_le_pow_left (Nat.mul_le_mul_right _ (Nat.le_succ k)) k
  have h3 : 1 ≤ (k + 1) * M := Nat.le_trans hM (Nat.le_mul_of_pos_left _ (Nat.succ_pos k))
  by_cases z : i < k
  · refine Nat.le_trans (h1 i j z) (Nat.le_trans h2 ?_)
    rw [Nat.pow_succ]
    exact Nat.le_mul_of_pos_right _ h3
  · rw [b.lo i j (by omega)]
    have e1 : (d * A i j).natAbs ≤ (k * M) ^ k * M := by
      rw [Int.natAbs_mul]
      refine Nat.mul_le_mul ?_ (h i j)
      rw [b.dt]
      exact det_bound fun a c _ _ => h a c
    have e2 := sm_abs (n := k) (B := M * (k * M) ^ k) (f := fun l => A i l * W l j) fun l hl => by
      rw [Int.natAbs_mul]
      exact Nat.mul_le_mul (h i l) (h1 l j hl)
    have e3 : (d * A i j - sm k fun l => A i l * W l j).natAbs ≤ (d * A i j).natAbs + (sm k fun l => A i l * W l j).natAbs := by omega
    have e4 : (k * M) ^ k * M + k * (M * (k * M) ^ k) = (k + 1) * M * (k * M) ^ k := by
      rw [Nat.mul_comm ((k * M) ^ k) M, Nat.add_mul, Nat.add_mul, Nat.one_mul, Nat.mul_assoc k M]
      omega
    rw [Nat.pow_succ, Nat.mul_comm (((k + 1) * M) ^ k)]
    refine Nat.le_trans e3 (Nat.le_trans (Nat.add_le_add e1 e2) ?_)
    rw [e4]
    exact Nat.mul_le_mul_left _ h2
theorem Ba.dbound (b : Ba k A W d) {M : Nat} (h : ∀ i j, (A i j).natAbs ≤ M) : d.natAbs ≤ (k * M) ^ k := by
  rw [b.dt]
  exact det_bound fun a c _ _ => h a c
def sn : Nat → (Nat → Nat) → Nat
  | 0, _ => 0
  | n + 1, f => sn n f + f n
theorem sn_mono {f g : Nat → Nat} : ∀ {n : Nat}, (∀ i, i < n → f i ≤ g i) → sn n f ≤ sn n g
  | 0, _ => Nat.le_refl _
  | n + 1, h => Nat.add_le_add (sn_mono fun i hi => h i (Nat.lt_succ_of_lt hi)) (h n (Nat.lt_succ_self n))
theorem great (u : Nat → Int) : ∀ {n : Nat}, 0 < n → ∃ m, m < n ∧ ∀ l, l < n → (u l).natAbs ≤ (u m).natAbs
  | 1, _ => ⟨0, by omega, fun l hl => by rw [show l = 0 by omega]; exact Nat.le_refl _⟩
  | n + 2, _ => by
    obtain ⟨m, hm, h⟩ := great u (n := n + 1) (by omega)
    by_cases z : (u m).natAbs ≤ (u (n + 1)).natAbs
    · exact ⟨n + 1, by omega, fun l hl => by
        by_cases y : l = n + 1
        · rw [y]; exact Nat.le_refl _
        · exact Nat.le_trans (h l (by omega)) z⟩
    · exact ⟨m, by omega, fun l hl => by
        by_cases y : l = n + 1
        · rw [y]; omega
        · exact h l (by omega)⟩
def Dom (n : Nat) (A : Mx) : Prop := ∀ k, k < n → sn n (fun j => if j = k then 0 else (A k j).natAbs) < (A k k).natAbs
end Dt
end
section
set_option Elab.async false
set_option linter.all false
set_option maxRecDepth 100000
namespace Dt
def mx (L : List (List Int)) : Mx := fun i j => (L.getD i []).getD j 0
structure Rect (L : List (List Int)) (n m : Nat) : Prop where
  len : L.length = n
  row : ∀ l ∈ L, l.length = m
theorem mx_at {L : List (List Int)} {i : Nat} {l : List Int} (h : L[i]? = some l) (j : Nat) : mx L i j = l.getD j 0 := by
  unfold mx
  have e : L.getD i [] = l := by rw [List.getD_eq_getElem?_getD, h]; rfl
  rw [e]
theorem mx_none {L : List (List Int)} {i : Nat} (h : L.length ≤ i) (j : Nat) : mx L i j = 0 := by
  unfold mx
  have e : L.getD i [] = [] := by rw [List.getD_eq_getElem?_getD, List.getElem?_eq_none h]; rfl
  rw [e]
  rfl
theorem getD_none {l : List Int} {j : Nat} (h : l.length ≤ j) : l.getD j 0 = 0 := by
  rw [List.getD_eq_getElem?_getD, List.getElem?_eq_none h]
  rfl
variable {L : List (List Int)} {n m : Nat}
theorem Rect.at (r : Rect L n m) {i : Nat} (hi : i < n) : ∃ l, L[i]? = some l ∧ l.length = m := by
  have h : i < L.length := by rw [r.len]; exact hi
  exact ⟨L[i], by simp [h], r.row _ (List.getElem_mem h)⟩
theorem Rect.out (r : Rect L n m) {i j : Nat} (h : n ≤ i ∨ m ≤ j) : mx L i j = 0 := by
  by_cases z : i < n
  · obtain ⟨l, hl, e⟩ := r.at z
    rw [mx_at hl]
    exact getD_none (by omega)
  · exact mx_none (by rw [r.len]; omega) j
theorem mx_eq {L : List (List Int)} {i j : Nat} {l : List Int} {x : Int} (h : L[i]? = some l) (h2 : l[j]? = some x) : mx L i j = x := by
  rw [mx_at h, List.getD_eq_getElem?_getD, h2]
  rfl
def Ker (n m : Nat) (A : Mx) (u : Nat → Int) : Prop := ∀ i, i < n → sm m (fun l => u l * A i l) = 0
theorem ker_led {A : Mx} {k r : Nat} (hk : k < r) (hr : r < n) (u : Nat → Int) : Ker n m (rl A k fun j => A k j + A r j) u ↔ Ker n m A u := by
  have e1 : ∀ i, i ≠ k → sm m (fun l => u l * rl A k (fun j => A k j + A r j) i l) = sm m (fun l => u l * A i l) := fun i z => sm_congr fun l _ => by rw [rl_ne _ _ z]
  have e2 : sm m (fun l => u l * rl A k (fun j => A k j + A r j) k l) = sm m (fun l => u l * A k l) + sm m (fun l => u l * A r l) := by
    rw [← sm_add]
    exact sm_congr fun l _ => by rw [rl_self]; exact Int.mul_add _ _ _
  constructor
  · intro h i hi
    by_cases z : i = k
    · subst z
      have h1 := h i hi
      have h2 := h r hr
      rw [e2] at h1
      rw [e1 r (by omega)] at h2
      omega
    · rw [← e1 i z]; exact h i hi
  · intro h i hi
    by_cases z : i = k
    · subst z
      rw [e2, h i hi, h r hr]
      rfl
    · rw [e1 i z]; exact h i hi
structure Cd (n m M k t : Nat) (A0 W : Mx) (d : Int) (A : Mx) : Prop where
  ba : Ba k A W d
  b2 : ∀ i j, (A i j).natAbs ≤ 2 * M
  b1 : ∀ i j, t ≤ i → (A i j).natAbs ≤ M
  ker : ∀ u, Ker n m A u ↔ Ker n m A0 u
  dt : ∀ f : (Mx → Int), (∀ (B : Mx) (c r : Nat), c < r → r < n → f (rl B c fun j => B c j + B r j) = f B) → f A = f A0
theorem Cd.start {M : Nat} {A : Mx} (h : ∀ i j, (A i j).natAbs ≤ M) : Cd n m M 0 0 A A 1 A := ⟨Ba.start A, fun i j => by have := h i j; omega, fun i j _ => h i j, fun _ => Iff.rfl, fun _ _ => rfl⟩
variable {M k : Nat} {A0 W A : Mx} {d : Int}
theorem Cd.weak (c : Cd n m M k k A0 W d A) : Cd n m M k (k + 1) A0 W d A := ⟨c.ba, c.b2, fun i j hi => c.b1 i j (by omega), c.ker, c.dt⟩
theorem Cd.led (c : Cd n m M k k A0 W d A) {r : Nat} (hr : k < r) (hn : r < n) : Cd n m M k (k + 1) A0 (rl W k fun j => W k j + W r j) d (rl A k fun j => A k j + A r j) where
  ba := c.ba.led hr
  b2 := fun i j => by
    by_cases z : i = k
    · subst z
      rw [rl_self]
      have h1 := c.b1 i j (Nat.le_refl _)
      have h2 := c.b1 r j (by omega)
      omega
    · rw [rl_ne _ _ z]; exact c.b2 i j
  b1 := fun i j hi => by rw [rl_ne _ _ (by omega)]; exact c.b1 i j (by omega)
  ker := fun u => (ker_led hr hn u).trans (c.ker u)
  dt := fun f hf => (hf A k r hr hn).trans (c.dt f hf)
theorem Cd.same {W' : Mx} (c : Cd n m M k t A0 W d A) (h : W = W') : Cd n m M k t A0 W' d A := h ▸ c
structure Clr (L L' : List (List Int)) (n m k : Nat) (d : Int) : Prop where
  rect : Rect L' n m
  own : ∀ j, j < m → mx L' k j = mx L k j
  row : ∀ i j, i < n → i ≠ k → j < m → mx L' i j = (mx L k k * mx L i j - mx L i k * mx L k j).fdiv d
theorem Cd.next {L L' : List (List Int)} (c : Cd n m M k (k + 1) A0 (mx L) d A) (r : Rect L n m) (hk : k < n) (h0 : mx L k k ≠ 0) (h : Clr L L' n m k d) : Cd n m M (k + 1) (k + 1) A0 (mx L') (mx L k k) A := by
  obtain ⟨W', h1, h2, b⟩ := c.ba.step h0
  have e : W' = mx L' := by
    funext i j
    by_cases zj : j < m
    · by_cases zi : i = k
      · subst zi
        rw [h2, h.own j zj]
      · by_cases zn : i < n
        · rw [h.row i j zn zi zj, ← h1 i j zi, Int.mul_fdiv_cancel_left _ c.ba.ne]
        · have := h1 i j zi
          rw [r.out (i := i) (j := j) (.inl (by omega)), r.out (i := i) (j := k) (.inl (by omega))] at this
          rw [h.rect.out (.inl (by omega))]
          refine can c.ba.ne ?_
          rw [this]
          omega
    · rw [h.rect.out (.inr (by omega))]
      by_cases zi : i = k
      · subst zi
        rw [h2]
        exact r.out (.inr (by omega))
      · have := h1 i j zi
        rw [r.out (i := i) (j := j) (.inr (by omega)), r.out (i := k) (j := j) (.inr (by omega))] at this
        refine can c.ba.ne ?_
        rw [this]
        omega
  rw [← e]
  exact ⟨b, c.b2, c.b1, c.ker, c.dt⟩
theorem Cd.bound {t : Nat} (c : Cd n m M k t A0 W d A) (hM : 1 ≤ M) (i j : Nat) : (W i j).natAbs ≤ ((k + 1) * (2 * M)) ^ (k + 1) := c.ba.bound (by omega) c.b2 i j
theorem Cd.bnd {t : Nat} (c : Cd n m M k t A0 W d A) (hM : 1 ≤ M) (hk : k ≤ n) (i j : Nat) : (W i j).natAbs ≤ ((n + 1) * (2 * M)) ^ (n + 1) := by
  refine Nat.le_trans (c.bound hM i j) ?_
  refine Nat.le_trans (Nat.pow_le_pow_left (Nat.mul_le_mul_right _ (Nat.succ_le_succ hk)) _) ?_
  exact Nat.pow_le_pow_right (Nat.mul_pos (by omega) (by omega)) (by omega)
theorem Cd.dbnd {t : Nat} (c : Cd n m M k t A0 W d A) (hM : 1 ≤ M) (hk : k ≤ n) : d.natAbs ≤ ((n + 1) * (2 * M)) ^ (n + 1) := by
  refine Nat.le_trans (c.ba.dbound c.b2) ?_
  refine Nat.le_trans (Nat.pow_le_pow_left (Nat.mul_le_mul_right _ (Nat.le_succ_of_le hk)) _) ?_
  exact Nat.pow_le_pow_right (Nat.mul_pos (by omega) (by omega)) (by omega)
def Inj (n m : Nat) (A : Mx) : Prop := ∀ u : Nat → Int, (∀ l, n ≤ l → u l = 0) → Ker n m A u → ∀ l, l < n → u l = 0
theorem Cd.lead {t : Nat} (c : Cd n m M k t A0 W d A) (hk : k < n) (hm : n ≤ m) (h : Inj n m A0) : ∃ r, k ≤ r ∧ r < n ∧ W r k ≠ 0 := by
  by_cases z : ∃ r, k ≤ r ∧ r < n ∧ W r k ≠ 0
  · exact z
  · exfalso
    have s := c.ba.stuck (n := n) (m := m) (by omega) fun i h1 h2 => Decidable.byContradiction fun w => z ⟨i, h1, h2, w⟩
    have := h _ (fun l hl => by rw [if_neg (by omega), if_neg (by omega)]) ((c.ker _).mp s) k hk
    rw [if_neg (by omega), if_pos rfl] at this
    exact c.ba.ne (by omega)
theorem mx_set {L : List (List Int)} {k : Nat} {v : List Int} (hk : k < L.length) : mx (L.set k v) = rl (mx L) k fun j => v.getD j 0 := by
  funext i j
  unfold rl
  by_cases z : i = k
  · subst z
    rw [if_pos rfl, mx_at (List.getElem?_set_self hk)]
  · rw [if_neg z]
    unfold mx
    have e : (L.set k v).getD i [] = L.getD i [] := by rw [List.getD_eq_getElem?_getD, List.getD_eq_getElem?_getD, List.getElem?_set_ne (fun w => z w.symm)]
    rw [e]
theorem zip_add {a b : List Int} (h : a.length = b.length) (j : Nat) : (List.zipWith (· + ·) a b).getD j 0 = a.getD j 0 + b.getD j 0 := by
  rw [List.getD_eq_getElem?_getD, List.getD_eq_getElem?_getD, List.getD_eq_getElem?_getD, List.getElem?_zipWith]
  by_cases z : j < a.length
  · have : j < b.length := by omega
    simp [z, this]
  · rw [List.getElem?_eq_none (by omega), List.getElem?_eq_none (by omega)]
    rfl
def Led (L L' : List (List Int)) (n k : Nat) : Prop := (L' = L ∧ mx L k k ≠ 0) ∨ (mx L k k = 0 ∧ ∃ (r : Nat) (a b : List Int), k < r ∧ r < n ∧ L[k]? = some a ∧ L[r]? = some b ∧ mx L r k ≠ 0 ∧ L' = L.set k (List.zipWith (· + ·) a b))
theorem Cd.ledL {L L' : List (List Int)} (c : Cd n m M k k A0 (mx L) d A) (r : Rect L n m) (hk : k < n) (h : Led L L' n k) : Rect L' n m ∧ mx L' k k ≠ 0 ∧ ∃ A', Cd n m M k (k + 1) A0 (mx L') d A' := by
  rcases h with ⟨rfl, h0⟩ | ⟨h0, q, a, b, h1, h2, ha, hb, h3, rfl⟩
  · exact ⟨r, h0, A, c.weak⟩
  · have la := r.row a (List.mem_of_getElem? ha)
    have lb := r.row b (List.mem_of_getElem? hb)
    have e : mx (L.set k (List.zipWith (· + ·) a b)) = rl (mx L) k fun j => mx L k j + mx L q j := by
      rw [mx_set (by rw [r.len]; exact hk)]
      congr 1
      funext j
      rw [zip_add (by omega), mx_at ha, mx_at hb]
    refine ⟨⟨by rw [List.length_set]; exact r.len, fun l hl => ?_⟩, ?_, _, (c.led h1 h2).same e.symm⟩
    · rcases List.mem_or_eq_of_mem_set hl with z | rfl
      · exact r.row l z
      · rw [List.length_zipWith]; omega
    · rw [e, rl_self, h0]
      omega
end Dt
end
section
set_option Elab.async false
set_option linter.all false
set_option maxRecDepth 100000
namespace Gm
open PySem L2
theorem cutg_drop {xs : List V} {k : Nat} (h : k ≤ xs.length) : cutV xs (some (k : Int)) none = xs.drop k := by
  unfold cutV HT.sIx
  dsimp only
  rw [if_neg (by omega), show min ((k : Int).toNat) xs.length = k by omega, List.take_of_length_le (by rw [List.length_drop]; omega)]
theorem cutg_take {xs : List V} {k : Nat} (h : k ≤ xs.length) : cutV xs none (some (k : Int)) = xs.take k := by
  unfold cutV HT.sIx
  dsimp only
  rw [if_neg (by omega), show min ((k : Int).toNat) xs.length = k by omega, List.drop_zero, Nat.sub_zero]
theorem Grid.dropped {H : Hp} {p q : Addr} {as : List Addr} {L : List (List Int)} (g : Grid H p as L) (k : Nat) (hq : H q = none) : Grid (upd H q (.lst ((as.drop k).map V.ref))) q (as.drop k) (L.drop k) :=
  ⟨upd_same, by rw [List.length_drop, List.length_drop, g.len], fun i a l h1 h2 => by
    rw [List.getElem?_drop] at h1 h2
    have := g.row _ a l h1 h2
    rw [upd_ne (fun z => by rw [z, hq] at this; cases this)]
    exact this⟩
theorem Grid.taken {H : Hp} {p q : Addr} {as : List Addr} {L : List (List Int)} (g : Grid H p as L) (k : Nat) (hq : H q = none) : Grid (upd H q (.lst ((as.take k).map V.ref))) q (as.take k) (L.take k) :=
  ⟨upd_same, by rw [List.length_take, List.length_take, g.len], fun i a l h1 h2 => by
    rw [List.getElem?_take] at h1 h2
    split at h1
    · rename_i z
      rw [if_pos z] at h2
      have := g.row _ a l h1 h2
      rw [upd_ne (fun z => by rw [z, hq] at this; cases this)]
      exact this
    · cases h1⟩
theorem Grid.one {H : Hp} {a q : Addr} {l : List Int} (h : H a = some (.lst (l.map V.int))) (hq : H q = none) : Grid (upd H q (.lst [.ref a])) q [a] [l] :=
  ⟨upd_same, rfl, fun i b k h1 h2 => by
    have i0 : i = 0 := by
      have := (List.getElem?_eq_some_iff.mp h1).1
      rw [List.length_singleton] at this
      omega
    subst i0
    cases h1
    cases h2
    rw [upd_ne (fun z => by rw [z, hq] at h; cases h)]
    exact h⟩
section
variable {σ : St} {H : Hp} {Q : VK} {K : PySem.W.Frag}
theorem r_dropS {a : Addr} {i k n : Nat} {xs : List V} (h1 : σ[i]? = some (some (.ref a))) (h2 : σ[k]? = some (some (.int (n : Int)))) (hs : SqL K H a xs) (hn : n + 1 ≤ xs.length) (q : ∀ p, H p = none → Q (.ref p) (upd H p (.lst (xs.drop (n + 1))))) :
    tSl (rSlL K) (tVar i) (tPart (tOp (rI0 fun i j => V.int (i + j)) (tVar k) (tC (.int 1)))) tNoPart σ H Q :=
  ⟨_, h1, ⟨_, h2, ⟨_, _, rfl, rfl, ⟨_, rfl, ⟨a, _, rfl, hs, fun p hp => by rw [show (n : Int) + 1 = ((n + 1 : Nat) : Int) from rfl, cutg_drop hn]; exact q p hp⟩⟩⟩⟩⟩
theorem r_takeS {a : Addr} {i k n : Nat} {xs : List V} (h1 : σ[i]? = some (some (.ref a))) (h2 : σ[k]? = some (some (.int (n : Int)))) (hs : SqL K H a xs) (hn : n ≤ xs.length) (q : ∀ p, H p = none → Q (.ref p) (upd H p (.lst (xs.take n)))) :
    tSl (rSlL K) (tVar i) tNoPart (tPart (tVar k)) σ H Q := ⟨_, h1, ⟨_, h2, ⟨_, rfl, ⟨a, _, rfl, hs, fun p hp => by rw [cutg_take hn]; exact q p hp⟩⟩⟩⟩
end
theorem int_at {l : List Int} {i : Nat} {x : V} (h : (l.map V.int)[i]? = some x) : ∃ y, l[i]? = some y ∧ x = V.int y := by
  rw [List.getElem?_map] at h
  cases e : l[i]? with
  | none => rw [e] at h; cases h
  | some z => rw [e] at h; exact ⟨z, rfl, (Option.some.inj h).symm⟩
theorem ref_at {l : List Addr} {i : Nat} {x : V} (h : (l.map V.ref)[i]? = some x) : ∃ y, l[i]? = some y ∧ x = V.ref y := by
  rw [List.getElem?_map] at h
  cases e : l[i]? with
  | none => rw [e] at h; cases h
  | some z => rw [e] at h; exact ⟨z, rfl, (Option.some.inj h).symm⟩
theorem zip_take {f : Int → Int → Int} {a b : List Int} {i : Nat} {x y : Int} (hx : a[i]? = some x) (hy : b[i]? = some y) : (List.zipWith f a b).take (i + 1) = (List.zipWith f a b).take i ++ [f x y] := by
  rw [List.take_succ, List.getElem?_zipWith, hx, hy]
  rfl
theorem set_parts {L : List (List Int)} {c : Nat} {v : List Int} (h : c < L.length) : L.take c ++ [v] ++ L.drop (c + 1) = L.set c v := by
  rw [List.set_eq_take_append_cons_drop, if_pos h]
  simp
structure Fq (z : Nat) (fs : List (Int × Int)) : Prop where
  pos : ∀ f ∈ fs, 0 < f.2
  top : ∀ f ∈ fs, Sz z f.1
  bot : ∀ f ∈ fs, Sz z f.2
structure Wh (fs : List (Int × Int)) (b : Int) (l : List Int) : Prop where
  pos : 0 < b
  len : l.length = fs.length
  eq : ∀ (i : Nat) (f : Int × Int) (x : Int), fs[i]? = some f → l[i]? = some x → x * f.2 = f.1 * b
theorem lcm_next {b u : Int} (hb : 0 < b) (hu : 0 < u) : 0 < b / ((Int.gcd b u : Nat) : Int) * u ∧ b ∣ b / ((Int.gcd b u : Nat) : Int) * u ∧ u ∣ b / ((Int.gcd b u : Nat) : Int) * u ∧ (b / ((Int.gcd b u : Nat) : Int) * u).natAbs ≤ b.natAbs * u.natAbs := by
  have g0 := Fr.gcd_pos b (show u ≠ 0 by omega)
  obtain ⟨x, hx⟩ := Fr.gcd_dvd_l b u
  obtain ⟨y, hy⟩ := Fr.gcd_dvd_r b u
  have g1 : 0 < ((Int.gcd b u : Nat) : Int) := by omega
  generalize ((Int.gcd b u : Nat) : Int) = g at *
  have e : b / g = x := by rw [hx]; exact Int.mul_ediv_cancel_left _ (by omega)
  have x0 : 0 < x := by
    by_cases z : 0 < x
    · exact z
    · have := Int.mul_nonpos_of_nonneg_of_nonpos (show 0 ≤ g by omega) (show x ≤ 0 by omega)
      omega
  rw [e]
  refine ⟨Int.mul_pos x0 hu, ⟨y, ?_⟩, ⟨x, Int.mul_comm _ _⟩, ?_⟩
  · rw [hy]
    have : g * x * y = x * (g * y) := by grind
    rw [hx, this]
  · rw [Int.natAbs_mul]
    refine Nat.mul_le_mul_right _ ?_
    have : b.natAbs = g.natAbs * x.natAbs := by rw [← Int.natAbs_mul, ← hx]
    rw [this]
    exact Nat.le_mul_of_pos_left _ (by omega)
end Gm
end
section
set_option Elab.async false
set_option linter.all false
set_option maxRecDepth 100000
namespace Dt
open Fr Gm
def qt (f : Int × Int) : Rat := (f.1 : Rat) / (f.2 : Rat)
theorem ic_ne {u : Int} (h : u ≠ 0) : (u : Rat) ≠ 0 := fun z => h (Rat.intCast_inj.mp z)
theorem qt_low {a b t u : Int} (hb : b ≠ 0) (h : Low a b t u) : qt (t, u) = (a : Rat) / (b : Rat) := by
  have e := congrArg (fun x : Int => (x : Rat)) h.eq
  simp only [Rat.intCast_mul] at e
  have h1 := ic_ne hb
  have h2 := ic_ne (show u ≠ 0 by have := h.pos; omega)
  show (t : Rat) / (u : Rat) = _
  grind
theorem qt_plus {f g : Int × Int} {t u : Int} (hf : f.2 ≠ 0) (hg : g.2 ≠ 0) (h : Low (f.1 * g.2 + g.1 * f.2) (f.2 * g.2) t u) : qt (t, u) = qt f + qt g := by
  rw [qt_low (fun z => (Int.mul_eq_zero.mp z).elim hf hg) h]
  simp only [Rat.intCast_mul, Rat.intCast_add]
  have h1 := ic_ne hf
  have h2 := ic_ne hg
  unfold qt
  grind
theorem qt_times {f g : Int × Int} {t u : Int} (hf : f.2 ≠ 0) (hg : g.2 ≠ 0) (h : Low (f.1 * g.1) (f.2 * g.2) t u) : qt (t, u) = qt f * qt g := by
  rw [qt_low (fun z => (Int.mul_eq_zero.mp z).elim hf hg) h]
  simp only [Rat.intCast_mul]
  have h1 := ic_ne hf
  have h2 := ic_ne hg
  unfold qt
  grind
theorem low_same {t u o e : Int} (he : 0 < e) (hg : Int.gcd o e = 1) (hu : 0 < u) (hc : Int.gcd t u = 1) (h1 : t * e = o * u) : t = o ∧ u = e := by
  have d1 : u.natAbs ∣ e.natAbs := by
    have : u ∣ t * e := ⟨o, by rw [h1, Int.mul_comm]⟩
    have := Int.natAbs_dvd_natAbs.mpr this
    rw [Int.natAbs_mul] at this
    exact Nat.Coprime.dvd_of_dvd_mul_left (show Nat.gcd u.natAbs t.natAbs = 1 by rw [Nat.gcd_comm]; exact hc) this
  have d2 : e.natAbs ∣ u.natAbs := by
    have : e ∣ o * u := ⟨t, by rw [← h1, Int.mul_comm]⟩
    have := Int.natAbs_dvd_natAbs.mpr this
    rw [Int.natAbs_mul] at this
    exact Nat.Coprime.dvd_of_dvd_mul_left (show Nat.gcd e.natAbs o.natAbs = 1 by rw [Nat.gcd_comm]; exact hg) this
  have e1 := Nat.dvd_antisymm d1 d2
  have e2 : u = e := by omega
  subst e2
  exact ⟨Int.eq_of_mul_eq_mul_right (by omega) h1, rfl⟩
def Lw (f : Int × Int) : Prop := 0 < f.2 ∧ Int.gcd f.1 f.2 = 1
theorem qt_inj {f g : Int × Int} (hf : Lw f) (hg : Lw g) (h : qt f = qt g) : f = g := by
  obtain ⟨t, u⟩ := f
  obtain ⟨o, e⟩ := g
  have h1 := ic_ne (show u ≠ 0 by have : 0 < u := hf.1; omega)
  have h2 := ic_ne (show e ≠ 0 by have : 0 < e := hg.1; omega)
  have h3 : (t : Rat) / (u : Rat) = (o : Rat) / (e : Rat) := h
  have h4 : ((t * e : Int) : Rat) = ((o * u : Int) : Rat) := by
    rw [Rat.intCast_mul, Rat.intCast_mul]
    grind
  obtain ⟨rfl, rfl⟩ := low_same hg.1 hg.2 hf.1 hf.2 (Rat.intCast_inj.mp h4)
  rfl
def sq : Nat → (Nat → Rat) → Rat
  | 0, _ => 0
  | n + 1, f => sq n f + f n
theorem sq_congr {f g : Nat → Rat} : ∀ {n : Nat}, (∀ i, i < n → f i = g i) → sq n f = sq n g
  | 0, _ => rfl
  | n + 1, h => by
    show sq n f + f n = sq n g + g n
    rw [sq_congr fun i hi => h i (Nat.lt_succ_of_lt hi), h n (Nat.lt_succ_self n)]
theorem sq_mul {f : Nat → Rat} (a : Rat) : ∀ (n : Nat), sq n (fun i => a * f i) = a * sq n f
  | 0 => by show (0 : Rat) = a * 0; grind
  | n + 1 => by
    show sq n (fun i => a * f i) + a * f n = a * (sq n f + f n)
    rw [sq_mul a n]
    grind
theorem sq_cast {f : Nat → Int} : ∀ (n : Nat), ((sm n f : Int) : Rat) = sq n fun i => (f i : Rat)
  | 0 => rfl
  | n + 1 => by
    show ((sm n f + f n : Int) : Rat) = _ + _
    rw [Rat.intCast_add, sq_cast n]
end Dt
end
section
set_option Elab.async false
set_option linter.all false
set_option maxRecDepth 100000
namespace Dt
open Fr Gm
def fa (fs : List (Int × Int)) (j : Nat) : Rat := qt (fs.getD j (0, 1))
theorem fa_at {fs : List (Int × Int)} {j : Nat} {f : Int × Int} (h : fs[j]? = some f) : fa fs j = qt f := by
  unfold fa
  rw [List.getD_eq_getElem?_getD, h]
  rfl
def NS (n : Nat) (R : List (List (Int × Int))) : Prop := ∀ u : Nat → Int, (∀ fs ∈ R, sq n (fun j => fa fs j * (u j : Rat)) = 0) → ∀ j, j < n → u j = 0
def Whole (n : Nat) (R : List (List (Int × Int))) (gs : List (Int × Int)) (L : List (List Int)) : Prop :=
  L.length = R.length ∧ ∀ (i : Nat) (fs : List (Int × Int)) (g : Int × Int) (l : List Int), R[i]? = some fs → gs[i]? = some g → L[i]? = some l → ∃ b, Wh (fs ++ [g]) b l
structure Fine (n : Nat) (R : List (List (Int × Int))) (gs : List (Int × Int)) : Prop where
  rl : R.length = n
  gl : gs.length = n
  row : ∀ fs ∈ R, fs.length = n ∧ ∀ f ∈ fs, 0 < f.2
  goal : ∀ g ∈ gs, 0 < g.2
variable {n : Nat} {R : List (List (Int × Int))} {gs : List (Int × Int)} {L : List (List Int)}
theorem wh_qt {fs : List (Int × Int)} {b : Int} {l : List Int} (w : Wh fs b l) {i : Nat} {f : Int × Int} {x : Int} (hf : fs[i]? = some f) (hx : l[i]? = some x) (h0 : 0 < f.2) : (x : Rat) = qt f * (b : Rat) := by
  have e := congrArg (fun x : Int => (x : Rat)) (w.eq i f x hf hx)
  simp only [Rat.intCast_mul] at e
  have h1 := ic_ne (show f.2 ≠ 0 by omega)
  unfold qt
  grind
theorem Whole.row (F : Fine n R gs) (w : Whole n R gs L) {i : Nat} {fs : List (Int × Int)} {g : Int × Int} (hf : R[i]? = some fs) (hg : gs[i]? = some g) : ∃ b : Int, b ≠ 0 ∧ (∀ j, j < n → (mx L i j : Rat) = fa fs j * (b : Rat)) ∧ (mx L i n : Rat) = qt g * (b : Rat) := by
  have hi := (List.getElem?_eq_some_iff.mp hf).1
  have hl : i < L.length := by rw [w.1]; exact hi
  obtain ⟨l, el⟩ : ∃ l, L[i]? = some l := ⟨L[i], by simp [hl]⟩
  obtain ⟨b, wb⟩ := w.2 i fs g l hf hg el
  obtain ⟨fl, fp⟩ := F.row fs (List.mem_of_getElem? hf)
  have len := wb.len
  rw [List.length_append, fl, List.length_singleton] at len
  refine ⟨b, by have := wb.pos; omega, fun j hj => ?_, ?_⟩
  · obtain ⟨f, ef⟩ : ∃ f, fs[j]? = some f := ⟨fs[j], by simp [show j < fs.length by omega]⟩
    obtain ⟨x, ex⟩ : ∃ x, l[j]? = some x := ⟨l[j], by simp [show j < l.length by omega]⟩
    rw [mx_eq el ex, fa_at ef]
    exact wh_qt wb (by rw [List.getElem?_append_left (by omega)]; exact ef) ex (fp f (List.mem_of_getElem? ef))
  · obtain ⟨x, ex⟩ : ∃ x, l[n]? = some x := ⟨l[n], by simp [show n < l.length by omega]⟩
    rw [mx_eq el ex]
    exact wh_qt wb (by rw [List.getElem?_append_right (by omega), fl, Nat.sub_self]; rfl) ex (F.goal g (List.mem_of_getElem? hg))
theorem Whole.inj (F : Fine n R gs) (w : Whole n R gs L) (h : NS n R) : Inj n (n + 1) (mx L) := by
  intro u u0 ker
  refine h u fun fs hfs => ?_
  obtain ⟨i, hi⟩ := List.mem_iff_getElem?.mp hfs
  have il := (List.getElem?_eq_some_iff.mp hi).1
  rw [F.rl] at il
  obtain ⟨g, hg⟩ : ∃ g, gs[i]? = some g := ⟨gs[i]'(by rw [F.gl]; exact il), by simp [show i < gs.length by rw [F.gl]; exact il]⟩
  obtain ⟨b, b0, h1, _⟩ := w.row F hi hg
  have k := ker i il
  have k2 : sm n (fun l => u l * mx L i l) + u n * mx L i n = 0 := k
  rw [u0 n (Nat.le_refl _), Int.zero_mul, Int.add_zero] at k2
  have k3 := congrArg (fun x : Int => (x : Rat)) k2
  rw [sq_cast] at k3
  have e : sq n (fun i_1 => ((u i_1 * mx L i i_1 : Int) : Rat)) = (b : Rat) * sq n (fun j => fa fs j * (u j : Rat)) := by
    rw [← sq_mul]
    exact sq_congr fun j hj => by rw [Rat.intCast_mul, h1 j hj]; grind
  rw [e] at k3
  have := ic_ne b0
  have k4 : (b : Rat) * sq n (fun j => fa fs j * (u j : Rat)) = 0 := k3
  grind
def Sol (n : Nat) (R : List (List (Int × Int))) (gs xs : List (Int × Int)) : Prop := ∀ (i : Nat) (fs : List (Int × Int)) (g : Int × Int), R[i]? = some fs → gs[i]? = some g → sq n (fun j => fa fs j * fa xs j) = qt g
def ab (f : Int × Int) : Int × Int := ((f.1.natAbs : Int), f.2)
def HV (n k : Nat) (fs : List (Int × Int)) : Prop := ∃ (xs : List (Int × Int)) (T T' : Int × Int), xs.length = n ∧ (∀ f ∈ xs, 0 < f.2) ∧ 0 < T.2 ∧ qt T = 1 + sq n (fun j => qt (ab (xs.getD j (0, 1)))) ∧ (T' = T ∨ T' = (0 - T.1, T.2)) ∧ fs = xs.set k T'
theorem mult_of : ∀ (fs : List (Int × Int)), (∀ f ∈ fs, 0 < f.2) → ∃ b : Int, 0 < b ∧ ∀ f ∈ fs, f.2 ∣ b
  | [], _ => ⟨1, by decide, by simp⟩
  | f :: fs, h => by
    obtain ⟨b, b0, hb⟩ := mult_of fs fun g hg => h g (List.mem_cons_of_mem _ hg)
    have f0 := h f List.mem_cons_self
    refine ⟨f.2 * b, Int.mul_pos f0 b0, fun g hg => ?_⟩
    rcases List.mem_cons.mp hg with rfl | hg
    · exact ⟨b, rfl⟩
    · obtain ⟨c, hc⟩ := hb g hg
      exact ⟨f.2 * c, by rw [hc]; grind⟩
theorem qt_mult {f : Int × Int} {b : Int} (h0 : 0 < f.2) (h : f.2 ∣ b) : ((f.1 * (b / f.2) : Int) : Rat) = qt f * (b : Rat) := by
  obtain ⟨c, hc⟩ := h
  have e : b / f.2 = c := by rw [hc]; exact Int.mul_ediv_cancel_left _ (by omega)
  have h1 := ic_ne (show f.2 ≠ 0 by omega)
  rw [e, hc]
  simp only [Rat.intCast_mul]
  unfold qt
  grind
theorem sn_cast {f : Nat → Int} : ∀ (n : Nat), (∀ i, i < n → 0 ≤ f i) → ((sn n fun i => (f i).natAbs : Nat) : Int) = sm n f
  | 0, _ => rfl
  | n + 1, h => by
    have h1 := sn_cast n fun i hi => h i (Nat.lt_succ_of_lt hi)
    have h2 := h n (Nat.lt_succ_self n)
    show ((sn n (fun i => (f i).natAbs) + (f n).natAbs : Nat) : Int) = sm n f + f n
    omega
theorem HV.whole {k : Nat} {fs : List (Int × Int)} (h : HV n k fs) (hk : k < n) : ∃ (b : Int) (a : Nat → Int), b ≠ 0 ∧ (∀ j, j < n → (a j : Rat) = fa fs j * (b : Rat)) ∧ sn n (fun j => if j = k then 0 else (a j).natAbs) < (a k).natAbs := by
  obtain ⟨xs, T, T', xl, xp, T0, hT, hT', rfl⟩ := h
  obtain ⟨b, b0, hb⟩ := mult_of (T :: xs) fun f hf => by
    rcases List.mem_cons.mp hf with rfl | hf
    · exact T0
    · exact xp f hf
  have hbT := hb T List.mem_cons_self
  let x : Nat → Int × Int := fun j => xs.getD j (0, 1)
  have xm : ∀ j, j < n → x j ∈ xs ∧ xs[j]? = some (x j) := fun j hj => by
    have hj2 : j < xs.length := by omega
    have e : x j = xs[j] := by show xs.getD j (0, 1) = _; rw [List.getD_eq_getElem?_getD]; simp [hj2]
    rw [e]
    exact ⟨List.getElem_mem hj2, by simp [hj2]⟩
  let a : Nat → Int := fun j => if j = k then T'.1 * (b / T'.2) else (x j).1 * (b / (x j).2)
  have bd : ∀ j, j < n → 0 ≤ b / (x j).2 := fun j hj => Int.ediv_nonneg (by omega) (by have := xp _ (xm j hj).1; omega)
  have T2 : T'.2 = T.2 := by rcases hT' with rfl | rfl <;> rfl
  have key : T.1 * (b / T.2) = b + sm n fun j => ((x j).1.natAbs : Int) * (b / (x j).2) := by
    refine Rat.intCast_inj.mp ?_
    rw [qt_mult T0 hbT, hT, Rat.intCast_add, sq_cast]
    have e : sq n (fun j => ((((x j).1.natAbs : Int) * (b / (x j).2) : Int) : Rat)) = (b : Rat) * sq n (fun j => qt (ab (xs.getD j (0, 1)))) := by
      rw [← sq_mul]
      refine sq_congr fun j hj => ?_
      have := qt_mult (f := ab (x j)) (b := b) (xp (x j) (xm j hj).1) (hb (x j) (List.mem_cons_of_mem _ (xm j hj).1))
      have e2 : ((((x j).1.natAbs : Int) * (b / (x j).2) : Int) : Rat) = qt (ab (x j)) * (b : Rat) := this
      rw [e2]
      show qt (ab (xs.getD j (0, 1))) * (b : Rat) = _
      grind
    rw [e]
    grind
  have pos : 0 ≤ sm n fun j => ((x j).1.natAbs : Int) * (b / (x j).2) := by
    rw [← sn_cast n fun i hi => Int.mul_nonneg (by omega) (bd i hi)]
    omega
  refine ⟨b, a, by omega, fun j hj => ?_, ?_⟩
  · by_cases z : j = k
    · have : fa (xs.set k T') j = qt T' := fa_at (by rw [z]; exact List.getElem?_set_self (by omega))
      rw [this]
      show ((if j = k then T'.1 * (b / T'.2) else (x j).1 * (b / (x j).2) : Int) : Rat) = _
      rw [if_pos z]
      exact qt_mult (by rw [T2]; exact T0) (by rw [T2]; exact hbT)
    · have : fa (xs.set k T') j = qt (x j) := fa_at (by rw [List.getElem?_set_ne (fun w => z w.symm)]; exact (xm j hj).2)
      rw [this]
      show ((if j = k then T'.1 * (b / T'.2) else (x j).1 * (b / (x j).2) : Int) : Rat) = _
      rw [if_neg z]
      exact qt_mult (xp _ (xm j hj).1) (hb _ (List.mem_cons_of_mem _ (xm j hj).1))
  · have e1 : (a k).natAbs = (b + sm n fun j => ((x j).1.natAbs : Int) * (b / (x j).2)).natAbs := by
      show (if k = k then T'.1 * (b / T'.2) else (x k).1 * (b / (x k).2) : Int).natAbs = _
      rw [if_pos rfl, T2, ← key]
      rcases hT' with rfl | rfl
      · rfl
      · show ((0 - T.1) * (b / T.2)).natAbs = _
        rw [Int.natAbs_mul, Int.natAbs_mul, Int.zero_sub, Int.natAbs_neg]
    have e2 : sn n (fun j => if j = k then 0 else (a j).natAbs) ≤ sn n fun j => (((x j).1.natAbs : Int) * (b / (x j).2)).natAbs := sn_mono fun j hj => by
      by_cases z : j = k
      · rw [if_pos z]; omega
      · rw [if_neg z]
        show (if j = k then T'.1 * (b / T'.2) else (x j).1 * (b / (x j).2) : Int).natAbs ≤ _
        rw [if_neg z, Int.natAbs_mul, Int.natAbs_mul, Int.natAbs_natCast]
        exact Nat.le_refl _
    have e3 := sn_cast n (f := fun j => ((x j).1.natAbs : Int) * (b / (x j).2)) fun i hi => Int.mul_nonneg (by omega) (bd i hi)
    omega
theorem NS.perm {R' : List (List (Int × Int))} (h : NS n R) (p : ∀ fs, fs ∈ R → fs ∈ R') : NS n R' := fun u hu => h u fun fs hfs => hu fs (p fs hfs)
end Dt
end
section
set_option Elab.async false
set_option linter.all false
set_option maxRecDepth 100000
namespace L2
open PySem PySem.Spec PySem.W PySem.Calls PyProof.Rows Gm
section
variable {X : Cx}
def rJoin (K : Frag) : V → List V → Hp → VK → Prop := fun x vs H Q => ∃ (sep : Str) (a : Addr) (ts : List Str), x = .str sep ∧ vs = [.ref a] ∧ SqL K H a (ts.map V.str) ∧ JoinOk sep ts = true ∧ Q (.str (Str.join sep ts)) H
def rSplit : V → List V → Hp → VK → Prop := fun x vs H Q => ∃ (z y : Str), x = .str z ∧ vs = [.str y] ∧ (y.length == 0) = false ∧ z.length ≤ 1000000 ∧ (Builtin.Str.partsBetween z (Builtin.Str.occurrences z y 0 z.length (z.length + 1)) y.length).length ≤ sizeLine ∧
  ∀ p, H p = none → Q (.ref p) (upd H p (.lst ((Txt.split z y).map V.str)))
def tFmt (te : TE) (y : Str) : TE := fun σ H Q => te σ H fun x H1 => ∃ n : Int, x = .int n ∧ n.natAbs.log2 < 1920 ∧ ((toString n : String) : Str).length + y.length ≤ 1000000 ∧ Q (.str (((toString n : String) : Str) ++ y)) H1
end
def Its (x : Str) : It := ⟨fun i _ => i < x.cps.size, fun i H v H' => H' = H ∧ ∃ c, x.cps[i]? = some c ∧ v = .str ⟨#[c]⟩, fun i _ => x.cps.size ≤ i⟩
section
variable {X : Cx} {tg : Expr}
def iStr (tl : TE) : TI := fun σ H R => tl σ H fun x H1 => ∃ z : Str, x = .str z ∧ z.cps.all (· < 128) = true ∧ R (Its z) H1
end
section
variable {σ : St} {H : Hp} {Q : VK} {K : Frag}
end
end L2
end
section
set_option Elab.async false
set_option linter.all false
set_option maxRecDepth 100000
namespace Gm
open PySem L2
def jl (s : List Nat) : List (List Nat) → List Nat
  | [] => []
  | [a] => a
  | a :: b :: r => a ++ s ++ jl s (b :: r)
abbrev num (n : Int) : Str := ((toString n : String) : Str)
structure Num (x : Str) : Prop where
  l1 : 1 ≤ x.length
  l2 : x.length ≤ 2
  dg : ∀ c ∈ x.cps.toList, 48 ≤ c ∧ c ≤ 57
  hd : x = ((("0" : String)) : Str) ∨ ∃ c, x.cps[0]? = some c ∧ c ≠ 48
theorem num_ok {n : Int} (h0 : 0 ≤ n) (h1 : n < 14) : Num (num n) := by
  have : n = 0 ∨ n = 1 ∨ n = 2 ∨ n = 3 ∨ n = 4 ∨ n = 5 ∨ n = 6 ∨ n = 7 ∨ n = 8 ∨ n = 9 ∨ n = 10 ∨ n = 11 ∨ n = 12 ∨ n = 13 := by omega
  rcases this with rfl | rfl | rfl | rfl | rfl | rfl | rfl | rfl | rfl | rfl | rfl | rfl | rfl | rfl
  · exact ⟨by decide +kernel, by decide +kernel, by decide +kernel, .inl (by decide +kernel)⟩
  all_goals first
    | exact ⟨by decide +kernel, by decide +kernel, by decide +kernel, .inr ⟨49, by decide +kernel, by decide⟩⟩
    | exact ⟨by decide +kernel, by decide +kernel, by decide +kernel, .inr ⟨50, by decide +kernel, by decide⟩⟩
    | exact ⟨by decide +kernel, by decide +kernel, by decide +kernel, .inr ⟨51, by decide +kernel, by decide⟩⟩
    | exact ⟨by decide +kernel, by decide +kernel, by decide +kernel, .inr ⟨52, by decide +kernel, by decide⟩⟩
    | exact ⟨by decide +kernel, by decide +kernel, by decide +kernel, .inr ⟨53, by decide +kernel, by decide⟩⟩
    | exact ⟨by decide +kernel, by decide +kernel, by decide +kernel, .inr ⟨54, by decide +kernel, by decide⟩⟩
    | exact ⟨by decide +kernel, by decide +kernel, by decide +kernel, .inr ⟨55, by decide +kernel, by decide⟩⟩
    | exact ⟨by decide +kernel, by decide +kernel, by decide +kernel, .inr ⟨56, by decide +kernel, by decide⟩⟩
    | exact ⟨by decide +kernel, by decide +kernel, by decide +kernel, .inr ⟨57, by decide +kernel, by decide⟩⟩
end Gm
end
section
set_option Elab.async false
set_option linter.all false
set_option maxRecDepth 100000
namespace Gm
open PySem L2
abbrev t32 : Str := ((" " : String) : Str)
abbrev t58 : Str := ((":" : String) : Str)
abbrev t10 : Str := (("\n" : String) : Str)
abbrev t0 : Str := (("" : String) : Str)
def rowT (k : Int) (l : List Int) : Str := Str.join t32 ((num k ++ t58) :: l.map num)
def rowsT (L : List (List Int)) : List Str := L.mapIdx fun i l => rowT ((i : Nat) : Int) l
def mapT (L : List (List Int)) : Str := Str.join t10 (rowsT L)
theorem rowsT_at (L : List (List Int)) (i : Nat) : (rowsT L)[i]? = L[i]?.map (rowT (i : Nat)) := by unfold rowsT; rw [List.getElem?_mapIdx]
def Few (l : List Int) : Prop := l.length ≤ 14 ∧ ∀ x ∈ l, 0 ≤ x ∧ x < 14
theorem Few.num {l : List Int} (h : Few l) {t : Str} (ht : t ∈ l.map Gm.num) : Num t := by
  obtain ⟨x, hx, rfl⟩ := List.mem_map.mp ht
  exact num_ok (h.2 x hx).1 (h.2 x hx).2
structure Sm (L : List (List Int)) : Prop where
  len : L.length ≤ 14
  few : ∀ l ∈ L, Few l
theorem Sm.row {L : List (List Int)} (s : Sm L) {t : Str} (ht : t ∈ rowsT L) : ∃ (i : Nat) (l : List Int), L[i]? = some l ∧ i < 14 ∧ Few l ∧ t = rowT i l := by
  obtain ⟨i, hi⟩ := List.mem_iff_getElem?.mp ht
  rw [rowsT_at] at hi
  cases e : L[i]? with
  | none => rw [e] at hi; cases hi
  | some l =>
    rw [e] at hi
    have := (List.getElem?_eq_some_iff.mp e).1
    exact ⟨i, l, e, by have := s.len; omega, s.few l (List.mem_of_getElem? e), (Option.some.inj hi).symm⟩
def mn (l : List Int) : Int := l.min?.getD 0
def lb (l : List Int) : List Int := rot l (l.idxOf (mn l))
theorem Few.rot {a b : List Int} (h : Few b) (r : RotEq a b) : Few a := ⟨by rw [r.len]; exact h.1, fun x hx => h.2 x (r.perm.mem_iff.mp hx)⟩
end Gm
end
section
set_option Elab.async false
set_option linter.all false
set_option maxRecDepth 100000
namespace L2
open PySem PySem.Spec PySem.W PySem.Calls PyProof.Rows Gm
section
variable {X : Cx}
end
section
variable {K : Frag} {σ : St} {H : Hp} {Q : VK}
end
end L2
end
section
set_option Elab.async false
set_option linter.all false
set_option maxRecDepth 100000
namespace Dt
open PySem L2 Fr Gm
def pd : List (Int × Int) → Nat
  | [] => 1
  | f :: r => f.2.natAbs * pd r
theorem pd_append : ∀ (a b : List (Int × Int)), pd (a ++ b) = pd a * pd b
  | [], b => by show pd b = 1 * pd b; omega
  | f :: a, b => by
    show f.2.natAbs * pd (a ++ b) = f.2.natAbs * pd a * pd b
    rw [pd_append a b, Nat.mul_assoc]
theorem pd_one (f : Int × Int) : pd [f] = f.2.natAbs := by show f.2.natAbs * 1 = _; omega
structure FG (H : Hp) (p : Addr) (as : List Addr) (R : List (List (Int × Int))) : Prop where
  top : H p = some (.lst (as.map V.ref))
  len : as.length = R.length
  row : ∀ (i : Nat) (a : Addr) (fs : List (Int × Int)), as[i]? = some a → R[i]? = some fs → ∃ ps : List Addr, H a = some (.lst (ps.map V.ref)) ∧ PR H ps fs
variable {H H' : Hp} {p : Addr} {as : List Addr} {R : List (List (Int × Int))}
theorem FG.same (g : FG H p as R) (e : Same H H') : FG H' p as R := ⟨e _ _ g.top, g.len, fun i a fs h1 h2 => by
  obtain ⟨ps, h3, h4⟩ := g.row i a fs h1 h2
  exact ⟨ps, e _ _ h3, h4.same e⟩⟩
theorem FG.at (g : FG H p as R) {i : Nat} (hi : i < R.length) : ∃ a fs ps, as[i]? = some a ∧ R[i]? = some fs ∧ H a = some (.lst (ps.map V.ref)) ∧ PR H ps fs := by
  have h2 : i < as.length := by rw [g.len]; exact hi
  obtain ⟨ps, h3, h4⟩ := g.row i as[i] R[i] (by simp [h2]) (by simp [hi])
  exact ⟨as[i], R[i], ps, by simp [h2], by simp [hi], h3, h4⟩
theorem FG.ix (g : FG H p as R) {i : Nat} {a : Addr} (hi : as[i]? = some a) : atI (as.map V.ref) (i : Int) = some (V.ref a) := atI_nat (by rw [List.getElem?_map, hi]; rfl)
theorem PR.off {ps : List Addr} {fs : List (Int × Int)} {b : Addr} {o : HO} {vs : List V} (h : PR H ps fs) (hb : H b = none ∨ H b = some (.lst vs)) : PR (upd H b o) ps fs := Paired.mapP h fun a x q => by
  rw [upd_ne (fun z => by
    rw [z] at q
    rcases hb with hb | hb
    · rw [hb] at q; cases q
    · rw [hb] at q; cases q)]
  exact q
theorem FG.snoc {b : Addr} {fs : List (Int × Int)} {ps : List Addr} (g : FG H p as R) (nt : p ∉ as) (nb : b ≠ p) (hb : H b = some (.lst (ps.map V.ref))) (pr : PR H ps fs) : FG (upd H p (.lst (as.map V.ref ++ [.ref b]))) p (as ++ [b]) (R ++ [fs]) := by
  refine ⟨by rw [List.map_append]; exact upd_same, by rw [List.length_append, List.length_append, g.len]; rfl, fun i a fs' h1 h2 => ?_⟩
  by_cases z : i < as.length
  · rw [List.getElem?_append_left z] at h1
    rw [List.getElem?_append_left (by rw [← g.len]; exact z)] at h2
    obtain ⟨qs, h3, h4⟩ := g.row i a fs' h1 h2
    exact ⟨qs, by rw [upd_ne (fun y => by rw [y] at h1; exact nt (List.mem_of_getElem? h1))]; exact h3, PR.off h4 (.inr g.top)⟩
  · have il := (List.getElem?_eq_some_iff.mp h1).1
    rw [List.length_append, List.length_singleton] at il
    have e : i = as.length := by omega
    subst e
    rw [List.getElem?_append_right (Nat.le_refl _), Nat.sub_self] at h1
    rw [List.getElem?_append_right (by rw [g.len]; exact Nat.le_refl _), g.len, Nat.sub_self] at h2
    cases h1
    cases h2
    exact ⟨ps, by rw [upd_ne nb]; exact hb, PR.off pr (.inr g.top)⟩
theorem FG.dropped {q : Addr} (g : FG H p as R) (k : Nat) (hq : H q = none) : FG (upd H q (.lst ((as.drop k).map V.ref))) q (as.drop k) (R.drop k) :=
  ⟨upd_same, by rw [List.length_drop, List.length_drop, g.len], fun i a l h1 h2 => by
    rw [List.getElem?_drop] at h1 h2
    obtain ⟨ps, h3, h4⟩ := g.row _ a l h1 h2
    exact ⟨ps, by rw [upd_ne (fun z => by rw [z, hq] at h3; cases h3)]; exact h3, PR.off (vs := []) h4 (.inl hq)⟩⟩
theorem FG.taken {q : Addr} (g : FG H p as R) (k : Nat) (hq : H q = none) : FG (upd H q (.lst ((as.take k).map V.ref))) q (as.take k) (R.take k) :=
  ⟨upd_same, by rw [List.length_take, List.length_take, g.len], fun i a l h1 h2 => by
    rw [List.getElem?_take] at h1 h2
    split at h1
    · rename_i z
      rw [if_pos z] at h2
      obtain ⟨ps, h3, h4⟩ := g.row _ a l h1 h2
      exact ⟨ps, by rw [upd_ne (fun z => by rw [z, hq] at h3; cases h3)]; exact h3, PR.off (vs := []) h4 (.inl hq)⟩
    · cases h1⟩
theorem FG.cat2 {c u : Addr} {cs : List Addr} {M : List (List (Int × Int))} (g : FG H p as R) (k : FG H c cs M) (hu : H u = none) : FG (upd H u (.lst (as.map V.ref ++ cs.map V.ref))) u (as ++ cs) (R ++ M) := by
  refine ⟨by rw [List.map_append]; exact upd_same, by rw [List.length_append, List.length_append, g.len, k.len], fun i a fs h1 h2 => ?_⟩
  have fin : ∀ {ps : List Addr}, H a = some (.lst (ps.map V.ref)) → PR H ps fs → ∃ ps : List Addr, upd H u (.lst (as.map V.ref ++ cs.map V.ref)) a = some (.lst (ps.map V.ref)) ∧ PR (upd H u (.lst (as.map V.ref ++ cs.map V.ref))) ps fs := fun {ps} h3 h4 =>
    ⟨ps, by rw [upd_ne (fun z => by rw [z, hu] at h3; cases h3)]; exact h3, PR.off (vs := []) h4 (.inl hu)⟩
  by_cases z : i < as.length
  · rw [List.getElem?_append_left z] at h1
    rw [List.getElem?_append_left (by rw [← g.len]; exact z)] at h2
    obtain ⟨ps, h3, h4⟩ := g.row i a fs h1 h2
    exact fin h3 h4
  · rw [List.getElem?_append_right (by omega)] at h1
    rw [List.getElem?_append_right (by rw [← g.len]; omega), ← g.len] at h2
    obtain ⟨ps, h3, h4⟩ := k.row _ a fs h1 h2
    exact fin h3 h4
theorem wh_bound {fs : List (Int × Int)} {b : Int} {l : List Int} (w : Wh fs b l) (hp : ∀ f ∈ fs, 0 < f.2) {i : Nat} {f : Int × Int} {x : Int} (hf : fs[i]? = some f) (hx : l[i]? = some x) : x.natAbs ≤ f.1.natAbs * b.natAbs := by
  have e := congrArg Int.natAbs (w.eq i f x hf hx)
  rw [Int.natAbs_mul, Int.natAbs_mul] at e
  rw [← e]
  exact Nat.le_mul_of_pos_right _ (by have := hp f (List.mem_of_getElem? hf); omega)
theorem PR.drop : ∀ {ps : List Addr} {xs : List (Int × Int)} (k : Nat), PR H ps xs → PR H (ps.drop k) (xs.drop k)
  | _, _, 0, h => h
  | _, _, _ + 1, .nil => .nil
  | _, _, k + 1, .cons _ t => PR.drop k t
theorem PR.take : ∀ {ps : List Addr} {xs : List (Int × Int)} (k : Nat), PR H ps xs → PR H (ps.take k) (xs.take k)
  | _, _, 0, _ => .nil
  | _, _, _ + 1, .nil => .nil
  | _, _, k + 1, .cons r t => .cons r (PR.take k t)
theorem PR.set {pt : Addr} {W : Int × Int} (h : H pt = some (.tup [.int W.1, .int W.2])) : ∀ {ps : List Addr} {xs : List (Int × Int)} (k : Nat), PR H ps xs → PR H (ps.set k pt) (xs.set k W)
  | _, _, _, .nil => .nil
  | _, _, 0, .cons r t => .cons h t
  | _, _, k + 1, .cons r t => .cons r (PR.set h k t)
theorem Sol.rot {n : Nat} {F : List (List (Int × Int))} {gs ys : List (Int × Int)} (s : Sol n F gs ys) (hl : F.length = gs.length) (k : Nat) : Sol n (F.drop k ++ F.take k) (gs.drop k ++ gs.take k) ys := by
  intro i fs g h1 h2
  by_cases z : i < (F.drop k).length
  · rw [List.getElem?_append_left z, List.getElem?_drop] at h1
    rw [List.getElem?_append_left (by rw [List.length_drop] at z ⊢; omega), List.getElem?_drop] at h2
    exact s _ fs g h1 h2
  · have e : (F.drop k).length = (gs.drop k).length := by rw [List.length_drop, List.length_drop, hl]
    rw [List.getElem?_append_right (by omega)] at h1
    rw [List.getElem?_append_right (by omega), ← e] at h2
    rw [List.getElem?_take] at h1 h2
    split at h1
    · rename_i w
      rw [if_pos w] at h2
      exact s _ fs g h1 h2
    · cases h1
def dF (R : List (List (Int × Int))) (gs : List (Int × Int)) : PyData := .list [.list (R.map dPairs), dPairs gs]
end Dt
end
section
set_option Elab.async false
set_option linter.all false
set_option maxRecDepth 100000
namespace Dq
open Dt
theorem sq_zero {f : Nat → Rat} : ∀ {n : Nat}, (∀ i, i < n → f i = 0) → sq n f = 0
  | 0, _ => rfl
  | n + 1, h => by
    show sq n f + f n = 0
    rw [sq_zero fun i hi => h i (Nat.lt_succ_of_lt hi), h n (Nat.lt_succ_self n)]
    grind
theorem sq_lin {f g : Nat → Rat} (a b : Rat) : ∀ (n : Nat), sq n (fun i => a * f i + b * g i) = a * sq n f + b * sq n g
  | 0 => by show (0 : Rat) = a * 0 + b * 0; grind
  | n + 1 => by
    show sq n (fun i => a * f i + b * g i) + (a * f n + b * g n) = a * (sq n f + f n) + b * (sq n g + g n)
    rw [sq_lin a b n]
    grind
theorem sq_add {f g : Nat → Rat} : ∀ (n : Nat), sq n (fun i => f i + g i) = sq n f + sq n g
  | 0 => by show (0 : Rat) = 0 + 0; grind
  | n + 1 => by
    show sq n (fun i => f i + g i) + (f n + g n) = (sq n f + f n) + (sq n g + g n)
    rw [sq_add n]
    grind
theorem sq_one {f : Nat → Rat} {k : Nat} : ∀ {n : Nat}, k < n → (∀ i, i < n → i ≠ k → f i = 0) → sq n f = f k
  | n + 1, hk, h => by
    show sq n f + f n = f k
    by_cases e : k = n
    · subst e
      rw [sq_zero fun i hi => h i (Nat.lt_succ_of_lt hi) (Nat.ne_of_lt hi)]
      grind
    · rw [sq_one (k := k) (by omega) fun i hi => h i (Nat.lt_succ_of_lt hi), h n (Nat.lt_succ_self n) (fun z => e z.symm)]
      grind
theorem sq_two {f : Nat → Rat} {k l : Nat} : ∀ {n : Nat}, k < l → l < n → (∀ i, i < n → i ≠ k → i ≠ l → f i = 0) → sq n f = f k + f l
  | n + 1, hk, hl, h => by
    show sq n f + f n = f k + f l
    by_cases e : l = n
    · subst e
      rw [sq_one (k := k) hk fun i hi z => h i (by omega) z (by omega)]
    · rw [sq_two hk (by omega) fun i hi => h i (Nat.lt_succ_of_lt hi), h n (Nat.lt_succ_self n) (by omega) (by omega)]
      grind
theorem sq_left (f : Nat → Rat) : ∀ (n : Nat), sq (n + 1) f = f 0 + sq n (fun i => f (i + 1))
  | 0 => by show (0 : Rat) + f 0 = f 0 + 0; grind
  | n + 1 => by
    show sq (n + 1) f + f (n + 1) = f 0 + (sq n (fun i => f (i + 1)) + f (n + 1))
    rw [sq_left f n]
    grind
theorem sq_comm (f : Nat → Nat → Rat) (m : Nat) : ∀ (n : Nat), sq n (fun i => sq m (f i)) = sq m fun j => sq n fun i => f i j
  | 0 => by rw [show sq 0 (fun i => sq m (f i)) = 0 from rfl, sq_zero]; intro i _; rfl
  | n + 1 => by
    show sq n (fun i => sq m (f i)) + sq m (f n) = sq m fun j => sq n (fun i => f i j) + f n j
    rw [sq_comm f m n, sq_add]
def sg : Nat → Rat
  | 0 => 1
  | n + 1 => - sg n
abbrev Mx := Nat → Nat → Rat
def mi (A : Mx) (j : Nat) : Mx := fun i l => A (i + 1) (sk j l)
def det : Nat → Mx → Rat
  | 0, _ => 1
  | n + 1, A => sq (n + 1) fun j => sg j * A 0 j * det n (mi A j)
theorem det_succ (n : Nat) (A : Mx) : det (n + 1) A = sq (n + 1) fun j => sg j * A 0 j * det n (mi A j) := rfl
theorem det_congr : ∀ {n : Nat} {A B : Mx}, (∀ i j, i < n → j < n → A i j = B i j) → det n A = det n B
  | 0, _, _, _ => rfl
  | n + 1, A, B, h => by
    rw [det_succ, det_succ]
    refine sq_congr fun j hj => ?_
    rw [h 0 j (by omega) hj, det_congr (A := mi A j) (B := mi B j) fun i l hi hl => h _ _ (by omega) (sk_lt hl)]
def cl (A : Mx) (c : Nat) (v : Nat → Rat) : Mx := fun i j => if j = c then v i else A i j
theorem cl_self (A : Mx) (c : Nat) (v : Nat → Rat) (i : Nat) : cl A c v i c = v i := if_pos rfl
theorem cl_ne {A : Mx} {c j : Nat} (v : Nat → Rat) (i : Nat) (h : j ≠ c) : cl A c v i j = A i j := if_neg h
theorem mi_cl_self (A : Mx) (c : Nat) (v : Nat → Rat) : mi (cl A c v) c = mi A c := by
  funext i l
  exact cl_ne _ _ (sk_ne c l)
theorem mi_cl {A : Mx} {c j : Nat} (v : Nat → Rat) (h : j ≠ c) : mi (cl A c v) j = cl (mi A j) (dn j c) fun i => v (i + 1) := by
  funext i l
  unfold mi cl
  by_cases z : sk j l = c
  · rw [if_pos z, if_pos ((sk_iff h).mp z)]
  · rw [if_neg z, if_neg (fun y => z ((sk_iff h).mpr y))]
theorem det_lin (a b : Rat) : ∀ {n : Nat} (A : Mx) {c : Nat} (v w : Nat → Rat), c < n → det n (cl A c fun i => a * v i + b * w i) = a * det n (cl A c v) + b * det n (cl A c w)
  | n + 1, A, c, v, w, hc => by
    rw [det_succ, det_succ, det_succ, ← sq_lin]
    refine sq_congr fun j hj => ?_
    by_cases e : j = c
    · subst e
      rw [mi_cl_self, mi_cl_self, mi_cl_self, cl_self, cl_self, cl_self]
      grind
    · rw [mi_cl _ e, mi_cl _ e, mi_cl _ e, cl_ne _ _ e, cl_ne _ _ e, cl_ne _ _ e, det_lin a b (mi A j) (fun i => v (i + 1)) (fun i => w (i + 1)) (dn_lt e hc hj)]
      grind
theorem det_adj : ∀ {n : Nat} {A : Mx} {c : Nat}, c + 1 < n → (∀ i, i < n → A i c = A i (c + 1)) → det n A = 0
  | n + 1, A, c, hc, h => by
    rw [det_succ, sq_two (k := c) (l := c + 1) (by omega) hc fun j hj h1 h2 => ?_]
    · have e : det n (mi A c) = det n (mi A (c + 1)) := det_congr fun i l hi hl => by
        unfold mi
        by_cases z : l = c
        · subst z
          have e1 : sk l l = l + 1 := by unfold sk; rw [if_neg (by omega)]
          have e2 : sk (l + 1) l = l := by unfold sk; rw [if_pos (by omega)]
          rw [e1, e2]
          exact (h _ (by omega)).symm
        · have : sk c l = sk (c + 1) l := by unfold sk; split <;> split <;> omega
          rw [this]
      rw [e, ← h 0 (by omega)]
      show sg c * A 0 c * det n (mi A (c + 1)) + (- sg c) * A 0 c * det n (mi A (c + 1)) = 0
      grind
    · have e : det n (mi A j) = 0 := by
        by_cases z : j < c
        · refine det_adj (c := c - 1) (by omega) fun i hi => ?_
          unfold mi
          have e1 : sk j (c - 1) = c := by unfold sk; rw [if_neg (by omega)]; omega
          have e2 : sk j (c - 1 + 1) = c + 1 := by unfold sk; rw [if_neg (by omega)]; omega
          rw [e1, e2]
          exact h _ (by omega)
        · refine det_adj (c := c) (by omega) fun i hi => ?_
          unfold mi
          have e1 : sk j c = c := by unfold sk; rw [if_pos (by omega)]
          have e2 : sk j (c + 1) = c + 1 := by unfold sk; rw [if_pos (by omega)]
          rw [e1, e2]
          exact h _ (by omega)
      rw [e]; grind
theorem cl_comm {A : Mx} {c d : Nat} (v w : Nat → Rat) (h : c ≠ d) : cl (cl A c v) d w = cl (cl A d w) c v := by
  funext i j
  unfold cl
  by_cases z : j = d
  · rw [if_pos z, if_neg (by omega), if_pos z]
  · rw [if_neg z, if_neg z]
theorem cl_own (A : Mx) (c : Nat) : cl A c (fun i => A i c) = A := by
  funext i j
  unfold cl
  split
  · rename_i e; rw [e]
  · rfl
theorem swap_of {n c d : Nat} (hc : c < n) (hd : d < n) (hcd : c ≠ d) (h : ∀ (A : Mx), (∀ i, i < n → A i c = A i d) → det n A = 0) (A : Mx) (u w : Nat → Rat) :
    det n (cl (cl A c u) d w) = - det n (cl (cl A c w) d u) := by
  have z : ∀ v : Nat → Rat, det n (cl (cl A c v) d v) = 0 := fun v => h _ fun i _ => by rw [cl_self, cl_ne _ _ hcd, cl_self]
  have e : det n (cl (cl A c fun i => 1 * u i + 1 * w i) d fun i => 1 * u i + 1 * w i) = 0 := z _
  rw [det_lin 1 1 _ _ _ hd, cl_comm _ _ hcd, cl_comm _ _ hcd, det_lin 1 1 _ _ _ hc, det_lin 1 1 _ _ _ hc, ← cl_comm _ _ hcd, ← cl_comm _ _ hcd, ← cl_comm _ _ hcd, ← cl_comm _ _ hcd, z, z] at e
  grind
theorem det_two : ∀ (k : Nat) {n : Nat} {A : Mx} {c : Nat}, c + 1 + k < n → (∀ i, i < n → A i c = A i (c + 1 + k)) → det n A = 0
  | 0, n, A, c, hc, h => det_adj hc h
  | k + 1, n, A, c, hc, h => by
    have s := swap_of (n := n) (c := c + 1 + k) (d := c + 1 + (k + 1)) (by omega) hc (by omega) (fun B hB => det_adj (c := c + 1 + k) (by omega) hB) A (fun i => A i (c + 1 + k)) (fun i => A i (c + 1 + (k + 1)))
    rw [cl_own] at s
    have e1 : cl A (c + 1 + (k + 1)) (fun i => A i (c + 1 + (k + 1))) = A := cl_own A _
    rw [e1] at s
    rw [s, det_two k (c := c) (by omega) fun i hi => ?_]
    · grind
    · rw [cl_ne _ _ (by omega), cl_ne _ _ (by omega), cl_ne _ _ (by omega), cl_self]
      exact h i hi
theorem det_same {n c d : Nat} {A : Mx} (hc : c < n) (hd : d < n) (hcd : c ≠ d) (h : ∀ i, i < n → A i c = A i d) : det n A = 0 := by
  by_cases z : c < d
  · obtain ⟨k, rfl⟩ : ∃ k, d = c + 1 + k := ⟨d - (c + 1), by omega⟩
    exact det_two k hd h
  · obtain ⟨k, rfl⟩ : ∃ k, c = d + 1 + k := ⟨c - (d + 1), by omega⟩
    exact det_two k hc fun i hi => (h i hi).symm
theorem det_swap {n c d : Nat} (hc : c < n) (hd : d < n) (hcd : c ≠ d) (A : Mx) (u w : Nat → Rat) : det n (cl (cl A c u) d w) = - det n (cl (cl A c w) d u) :=
  swap_of hc hd hcd (fun _ h => det_same hc hd hcd h) A u w
theorem det_col : ∀ (n : Nat) (A : Mx), det (n + 1) A = sq (n + 1) fun i => sg i * A i 0 * det n (fun a b => A (sk i a) (b + 1))
  | 0, A => rfl
  | n + 1, A => by
    rw [det_succ, sq_left, sq_left (fun i => sg i * A i 0 * det (n + 1) (fun a b => A (sk i a) (b + 1)))]
    have e0 : mi A 0 = fun a b => A (sk 0 a) (b + 1) := by
      funext a b
      rfl
    rw [e0]
    congr 1
    have l : ∀ j, j < n + 1 → sg (j + 1) * A 0 (j + 1) * det (n + 1) (mi A (j + 1)) = sq (n + 1) fun i => - (sg i * sg j * A 0 (j + 1) * A (i + 1) 0 * det n (fun a b => A (sk i a + 1) (sk j b + 1))) := fun j hj => by
      rw [det_col n (mi A (j + 1)), ← sq_mul]
      refine sq_congr fun i hi => ?_
      have m1 : mi A (j + 1) i 0 = A (i + 1) 0 := rfl
      have m2 : (fun a b => mi A (j + 1) (sk i a) (b + 1)) = fun a b => A (sk i a + 1) (sk j b + 1) := by
        funext a b
        show A (sk i a + 1) (sk (j + 1) (b + 1)) = _
        congr 1
        unfold sk
        split <;> split <;> omega
      rw [m1, m2]
      show (- sg j) * A 0 (j + 1) * (sg i * A (i + 1) 0 * _) = _
      grind
    have r : ∀ i, i < n + 1 → sg (i + 1) * A (i + 1) 0 * det (n + 1) (fun a b => A (sk (i + 1) a) (b + 1)) = sq (n + 1) fun j => - (sg i * sg j * A 0 (j + 1) * A (i + 1) 0 * det n (fun a b => A (sk i a + 1) (sk j b + 1))) := fun i hi => by
      rw [det_succ, ← sq_mul]
      refine sq_congr fun j hj => ?_
      have m1 : A (sk (i + 1) 0) (j + 1) = A 0 (j + 1) := rfl
      have m2 : mi (fun a b => A (sk (i + 1) a) (b + 1)) j = fun a b => A (sk i a + 1) (sk j b + 1) := by
        funext a b
        show A (sk (i + 1) (a + 1)) (sk j b + 1) = _
        congr 1
        unfold sk
        split <;> split <;> omega
      rw [m1, m2]
      show (- sg i) * A (i + 1) 0 * (sg j * A 0 (j + 1) * _) = _
      grind
    rw [sq_congr l, sq_comm]
    exact (sq_congr r).symm
def tr (A : Mx) : Mx := fun i j => A j i
theorem det_tr : ∀ (n : Nat) (A : Mx), det n (tr A) = det n A
  | 0, _ => rfl
  | n + 1, A => by
    rw [det_col n A, det_succ]
    refine sq_congr fun j hj => ?_
    have e : mi (tr A) j = tr (fun a b => A (sk j a) (b + 1)) := rfl
    rw [e, det_tr n]
    rfl
def rl (A : Mx) (k : Nat) (v : Nat → Rat) : Mx := fun i j => if i = k then v j else A i j
theorem rl_tr (A : Mx) (k : Nat) (v : Nat → Rat) : tr (rl A k v) = cl (tr A) k v := rfl
theorem rl_self (A : Mx) (k : Nat) (v : Nat → Rat) (j : Nat) : rl A k v k j = v j := if_pos rfl
theorem rl_ne {A : Mx} {k i : Nat} (v : Nat → Rat) (j : Nat) (h : i ≠ k) : rl A k v i j = A i j := if_neg h
theorem rl_own (A : Mx) (c : Nat) : rl A c (A c) = A := by
  funext i j
  unfold rl
  split
  · rename_i e; rw [e]
  · rfl
theorem row_lin (a b : Rat) {n : Nat} (A : Mx) {c : Nat} (v w : Nat → Rat) (hc : c < n) : det n (rl A c fun j => a * v j + b * w j) = a * det n (rl A c v) + b * det n (rl A c w) := by
  rw [← det_tr n (rl A c fun j => a * v j + b * w j), ← det_tr n (rl A c v), ← det_tr n (rl A c w), rl_tr, rl_tr, rl_tr]
  exact det_lin a b (tr A) v w hc
theorem row_same {n c d : Nat} {A : Mx} (hc : c < n) (hd : d < n) (hcd : c ≠ d) (h : ∀ j, j < n → A c j = A d j) : det n A = 0 := by
  rw [← det_tr]
  exact det_same hc hd hcd h
theorem row_add {n c r : Nat} (A : Mx) (b : Rat) (hc : c < n) (hr : r < n) (h : c ≠ r) : det n (rl A c fun j => A c j + b * A r j) = det n A := by
  have e := row_lin 1 b A (A c) (A r) hc
  have e2 : (fun j => 1 * A c j + b * A r j) = fun j => A c j + b * A r j := by funext j; grind
  rw [e2, rl_own, row_same (c := c) (d := r) (A := rl A c (A r)) hc hr h fun j _ => by rw [rl_self, rl_ne _ _ (fun z => h z.symm)]] at e
  rw [e]
  grind
theorem row_scale {n c : Nat} (A : Mx) (b : Rat) (hc : c < n) : det n (rl A c fun j => b * A c j) = b * det n A := by
  have e := row_lin b 0 A (A c) (A c) hc
  have e2 : (fun j => b * A c j + 0 * A c j) = fun j => b * A c j := by funext j; grind
  rw [e2, rl_own] at e
  rw [e]
  grind
theorem row_swap {n c d : Nat} (A : Mx) (hc : c < n) (hd : d < n) (h : c ≠ d) : det n (rl (rl A c (A d)) d (A c)) = - det n A := by
  have e := det_swap hc hd h (tr A) (A d) (A c)
  have e1 : cl (cl (tr A) c (A d)) d (A c) = tr (rl (rl A c (A d)) d (A c)) := rfl
  have e2 : cl (cl (tr A) c (A c)) d (A d) = tr A := by
    have h1 : cl (tr A) c (A c) = tr A := cl_own (tr A) c
    rw [h1]
    exact cl_own (tr A) d
  rw [e1, e2, det_tr, det_tr] at e
  exact e
def pr : Nat → (Nat → Rat) → Rat
  | 0, _ => 1
  | n + 1, f => f 0 * pr n fun i => f (i + 1)
theorem det_rows (b : Nat → Rat) : ∀ (n : Nat) (A : Mx), det n (fun i j => b i * A i j) = pr n b * det n A
  | 0, _ => by show (1 : Rat) = 1 * 1; grind
  | n + 1, A => by
    rw [det_succ, det_succ, ← sq_mul]
    refine sq_congr fun j hj => ?_
    have e : mi (fun i j => b i * A i j) j = fun i l => b (i + 1) * mi A j i l := rfl
    rw [e, det_rows (fun i => b (i + 1)) n (mi A j)]
    show sg j * (b 0 * A 0 j) * (pr n (fun i => b (i + 1)) * det n (mi A j)) = b 0 * pr n (fun i => b (i + 1)) * (sg j * A 0 j * det n (mi A j))
    grind
theorem det_steps : ∀ (n : Nat) (A : Mx), (∀ i j, j < i → i < n → A i j = 0) → det n A = pr n fun i => A i i
  | 0, _, _ => rfl
  | n + 1, A, h => by
    rw [det_col, sq_one (k := 0) (by omega) fun i hi z => by rw [h i 0 (by omega) hi]; grind]
    have e : (fun a b => A (sk 0 a) (b + 1)) = fun a b => A (a + 1) (b + 1) := rfl
    rw [e, det_steps n _ fun i j hj hi => h _ _ (by omega) (by omega)]
    show 1 * A 0 0 * _ = A 0 0 * _
    grind
theorem sg_cast : ∀ j, ((Dt.sg j : Int) : Rat) = sg j
  | 0 => rfl
  | j + 1 => by show ((- Dt.sg j : Int) : Rat) = - sg j; rw [Rat.intCast_neg, sg_cast j]
theorem det_cast : ∀ (n : Nat) (A : Dt.Mx), ((Dt.det n A : Int) : Rat) = det n fun i j => (A i j : Rat)
  | 0, _ => rfl
  | n + 1, A => by
    rw [Dt.det_succ, sq_cast, det_succ]
    refine sq_congr fun j hj => ?_
    rw [Rat.intCast_mul, Rat.intCast_mul, sg_cast, det_cast n (Dt.mi A j)]
    rfl
theorem det_led {n c r : Nat} (A : Dt.Mx) (hc : c < r) (hr : r < n) : Dt.det n (Dt.rl A c fun j => A c j + A r j) = Dt.det n A := by
  refine Rat.intCast_inj.mp ?_
  rw [det_cast, det_cast, ← row_add (fun i j => (A i j : Rat)) 1 (show c < n by omega) hr (by omega)]
  refine congrArg (det n) ?_
  funext i j
  unfold Dt.rl rl
  split
  · rw [Rat.intCast_add]; grind
  · rfl
end Dq
end
section
set_option Elab.async false
set_option linter.all false
set_option maxRecDepth 100000
namespace L2
open PySem PySem.Spec PySem.W PySem.Calls PyProof.Rows
def hNo (K : Frag) (M : Addr) (ts : TS) (D : Ends) (σ : St) : XK := fun cls _ H' => ∃ C, cls = .ref C ∧ exmOne K (.ref C) (.ref M) = some true ∧ ts D σ H'
theorem clauseNo {X : Cx} {x : Str} {M : Addr} {b₀ : Stmt} {suite : List Stmt} {ts : TS} {np pos : Pos} (hb : Body X) (hm : X.mg x = some (.ref M))
    (hs : ∀ a, PSs (X.marked a) (b₀ :: suite) ts) (hg : Gl X x := by rfl) (hdb : (x == ("__debug__" : Str)) = false := by decide)
    {pins : List (Addr × Obj)} {σ : St} {D : Ends} {e : Value} {s' : Shared} (h : EX X pins σ (hNo X.K M ts D σ) e s') :
    wpAny (model X.prog X.w) X.A (noteFrame e X.env) (fun _ s2 => wpAny (model X.prog X.w) X.A (setFlight e none) (fun _ s3 =>
      wpAny (model X.prog X.w) X.A (handleBy e X.env [.ExceptHandler (some (.Name x np)) none (b₀ :: suite) pos]) (SP X pins D) X.xe s3) X.xe s2) X.xe s' := by
  obtain ⟨a, cls, H', s0, H0, rfl, I0, F, C, rfl, hx, q⟩ := h
  obtain ⟨B, a0, fly, cov, ct⟩ := F.fly
  have I' := F.inv I0
  have hfr : X.A.frames = some (X.env :: X.outer) := by rw [← hb.stk]; exact I0.ok.frames
  have c0 : Cover B (frs X.stack) X.s₀.heap := fun b o e n => by
    obtain ⟨o', z⟩ := I0.base.there b o e (by rw [hb.ex]; simp)
    exact cov b o' z n
  have cp : ∀ p ∈ X.pn ++ pins, ∃ ob, B.get? p.1 = some ob := fun p hp => by
    obtain ⟨e, nn, ne, nf, d⟩ := I0.pin p hp
    refine cov _ _ e fun z => ?_
    rcases List.mem_cons.mp (I0.stkSub _ z) with r | r
    · exact ne r
    · exact nf r
  rw [hb.stk] at fly
  refine wpAny_looks_onW hfr hb.fr fly fun h4 held4 up4 => ?_
  refine wpAny_landsW held4 fun h5 fly5 up5 => ?_
  have J5 : Inv X pins σ H' { s' with heap := h5, toks := s'.toks } := Inv.flown I' hb.ex fly.1 fly5.1 c0 ct cp (up4.trans up5)
  obtain ⟨ob, hob, hobc⟩ := fly5.there
  have ty : Looks (model X.prog X.w) h5 (typeOf (.ref a)) (.ref C) := hobc ▸ (Looks.ld hob).andThen .now
  refine wpAny_handleBy_cons (codeAny_handlers_test (ld_glob (X := X.marked a) J5.mark hg hm ?_ hdb)) (by intro z; cases z)
  refine (exm_one J5.kIn ty hx).at ?_
  refine codeAny_handlers_suite ?_
  refine lands_againW (s := { s' with heap := h5 }) fly5 fun h6 fly6 up6 => ?_
  have J6 : Inv X pins σ H' { s' with heap := h6, toks := s'.toks } := Inv.flown I' hb.ex fly.1 fly6.1 c0 ct cp ((up4.trans up5).trans up6)
  refine wpAny_mono (hs a pins _ _ _ _ J6.mark q) (fun f s9 z => ?_) fun _ _ z => False.elim z
  cases f with
  | next =>
    obtain ⟨σ', H2, J9, r⟩ := z
    exact ⟨_, H2, J9.unmark J6.ok, r⟩
  | brk =>
    obtain ⟨σ', H2, J9, r⟩ := z
    exact ⟨_, H2, J9.unmark J6.ok, r⟩
  | cont =>
    obtain ⟨σ', H2, J9, r⟩ := z
    exact ⟨_, H2, J9.unmark J6.ok, r⟩
  | ret u =>
    obtain ⟨v, σ', H2, J9, rv, r⟩ := z
    exact ⟨v, _, H2, J9.unmark J6.ok, rv, r⟩
def tTryNo (K : Frag) (sp : Sp) (ta : TA) (i : Nat) (M : Addr) (ts : TS) : TS := fun D σ H => ta σ H fun vs H1 => sp (vs ++ []) H1 (fun v H2 => D.nx (σ.set i (some v)) H2) (hNo K M ts D σ)
theorem ps_tryNo {X : Cx} {k j i : Nat} {ps : List Str} {sp : Sp} {f x y : Str} {p1 p2 p3 py : Pos} {e : Expr} {es : List Expr} {ta : TA} {M : Addr} {b₀ : Stmt} {suite : List Stmt} {ts : TS} {np hpos pos : Pos}
    (h : Has X.prog X.w X.K X.mg X.base (CXe X.prog X.w) f k ps sp) (hr : Room j X.A) (ha : PA X.nox (e :: es) ta) (hb : Body X) (hm : X.mg x = some (.ref M)) (hN : X.N.Nodup) (hi : X.N[i]? = some y) (hl : X.env.scope.names.lookup y = some .local)
    (hs : ∀ a, PSs (X.marked a) (b₀ :: suite) ts) (hk : k ≤ j := by decide) (hgf : Gl X f := by rfl) (hdf : (f == ("__debug__" : Str)) = false := by decide)
    (he : starEach (e :: es) X.env = (false, eval e X.env) :: starEach es X.env := by rfl) (hpl : (backTo p2 (starEach es X.env)).any (·.1) = false := by rfl)
    (hg : Gl X x := by rfl) (hdb : (x == ("__debug__" : Str)) = false := by decide) (hsw : swapsWith (.Call (.Name f p1) (e :: es) [] p2) (some (.Name y py)) p3.line X.env = pure false := by rfl) :
    PS X (.Try [.Assign [.Name y py] (.Call (.Name f p1) (e :: es) [] p2) p3] [.ExceptHandler (some (.Name x np)) none (b₀ :: suite) hpos] [] [] pos) (tTryNo X.K sp ta i M ts) := by
  intro pins s σ H D I hw
  refine wpAny_Try_except ?_
  refine wpAny_execs_cons (wpAny_Assign_Name (wpAny_mono (callX h hr ha hk hgf hdf he hpl I hw) (fun v s1 z => ?_) fun ev s1 z => ?_) hsw)
  · obtain ⟨u, H1, I1, r1, q1⟩ := z
    exact store_ok I1 hN hi (.inl hl) r1 (fun s2 I2 => wpAny_execs_nil (wpAny_execs_nil ⟨_, H1, I2, q1⟩)) (.inr hl)
  · exact clauseNo hb hm hs hg hdb z
end L2
end
section
set_option Elab.async false
set_option linter.all false
set_option maxRecDepth 100000
namespace L2
open PySem
theorem r_tryNo {K : PySem.W.Frag} {sp : Sp} {ta : TA} {i : Nat} {M : Addr} {ts : TS} {D : Ends} {σ : St} {H : Hp} (h : ta σ H fun vs H1 => sp (vs ++ []) H1 (fun v H2 => D.nx (σ.set i (some v)) H2) (hNo K M ts D σ)) : tTryNo K sp ta i M ts D σ H := h
end L2
namespace Dt
open PySem L2 Fr Gm
def lcF (fs : List (Int × Int)) : Int := fs.foldl (fun b f => b / ((Int.gcd b f.2 : Nat) : Int) * f.2) 1
theorem lcF_snoc (fs : List (Int × Int)) (f : Int × Int) : lcF (fs ++ [f]) = lcF fs / ((Int.gcd (lcF fs) f.2 : Nat) : Int) * f.2 := by
  unfold lcF
  rw [List.foldl_append]
  rfl
def pz : Nat → (Nat → Int) → Int
  | 0, _ => 1
  | n + 1, f => f 0 * pz n fun i => f (i + 1)
theorem pz_cast : ∀ (n : Nat) (f : Nat → Int), ((pz n f : Int) : Rat) = Dq.pr n fun i => (f i : Rat)
  | 0, _ => rfl
  | n + 1, f => by
    show ((f 0 * pz n (fun i => f (i + 1)) : Int) : Rat) = (f 0 : Rat) * Dq.pr n fun i => (f (i + 1) : Rat)
    rw [Rat.intCast_mul, pz_cast n]
theorem pz_snoc : ∀ (n : Nat) (f : Nat → Int), pz (n + 1) f = pz n f * f n
  | 0, f => by show f 0 * 1 = 1 * f 0; omega
  | n + 1, f => by
    show f 0 * pz (n + 1) (fun i => f (i + 1)) = f 0 * pz n (fun i => f (i + 1)) * f (n + 1)
    rw [pz_snoc n (fun i => f (i + 1))]
    grind
def dq (n : Nat) (R : List (List (Int × Int))) : Rat := Dq.det n fun i j => fa (R.getD i []) j
theorem dq_whole {n : Nat} {R : List (List (Int × Int))} {L : List (List Int)} {b : Nat → Int} (h : ∀ i j, i < n → j < n → (mx L i j : Rat) = fa (R.getD i []) j * (b i : Rat)) : ((det n (mx L) : Int) : Rat) = ((pz n b : Int) : Rat) * dq n R := by
  rw [Dq.det_cast, pz_cast]
  unfold dq
  rw [← Dq.det_rows]
  exact Dq.det_congr fun i j hi hj => by rw [h i j hi hj]; grind
theorem Cd.value {n M : Nat} {A0 W A : Mx} {d : Int} (c : Cd n n M n n A0 W d A) (h0 : 0 < n) : W 0 0 = det n A0 := by
  rw [c.ba.done h0 h0, if_pos rfl, c.ba.dt]
  exact c.dt (det n) fun B k r hk hr => Dq.det_led B hk hr
theorem det_sing {n : Nat} {A : Mx} {u : Nat → Int} (k : Ker n n A u) {l : Nat} (hl : l < n) (h : u l ≠ 0) : det n A = 0 :=
  (Int.mul_eq_zero.mp (det_ker k hl)).resolve_left h
def Sing (n m : Nat) (A : Mx) : Prop := ∃ u : Nat → Int, (∀ l, n ≤ l → u l = 0) ∧ Ker n m A u ∧ ∃ l, l < n ∧ u l ≠ 0
theorem Cd.sing {n m M k t : Nat} {A0 W A : Mx} {d : Int} (c : Cd n m M k t A0 W d A) (hk : k < n) (hm : n ≤ m) (h : ∀ r, k ≤ r → r < n → W r k = 0) : Sing n m A0 := by
  have s := c.ba.stuck (n := n) (m := m) (by omega) h
  refine ⟨_, fun l hl => by rw [if_neg (by omega), if_neg (by omega)], (c.ker _).mp s, k, hk, ?_⟩
  rw [if_neg (by omega), if_pos rfl]
  have := c.ba.ne
  omega
end Dt
end
section
set_option Elab.async false
set_option linter.all false
set_option maxRecDepth 100000
namespace L2
open PySem PySem.Spec PySem.W PySem.Calls PyProof.Rows
def Cx.block1 (X : Cx) (scope : Scope) (x : Str) (cl : List (Str × Addr)) (C : Addr) (N : List Str) (fp : List Addr) (pins : List (Addr × Obj)) (s : Shared) (H : Hp) : Cx :=
  { X with N := N, s₀ := s, H₀ := H, env := compEnvC scope ((x, C + 1) :: cl) C X.env, outer := X.stack, ex := fp, fn := fun y => y == x, pn := X.pn ++ pins, xe := fun _ _ => False }
structure BlockOk1 (X : Cx) (scope : Scope) (x : Str) (cl : List (Str × Addr)) (tg : List Str) (fr : List (Str × Nat)) : Prop where
  kind : scope.kind = .function
  laid : ∀ n, cellsFrom n scope.names cl = (x, n) :: cl
  push : ∀ h : Heap, pushCells h scope.names = h.push { cls := .type "cell", data := .cell none }
  names : ∀ y ∈ scope.names, y.2 = .local → scope.names.lookup y.1 = some .local
  clos : closureFor scope X.env = pure cl
  allin : AllIn X.env.cells cl
  has : ((relabel scope X.env).names.all fun p => !(p.2 == .cell || p.2 == .free) || (p.1 == x || (cl.lookup p.1).isSome)) = true
  frN : ∀ p ∈ fr, X.N[p.2]? = some p.1 ∧ Vis X.env.scope p.1 ∧ ((p.1 == x) = false ∧ (cl.lookup p.1).isSome = true) ∧ (relabel scope X.env).names.lookup p.1 = some .cell
  frL : ∀ p ∈ fr, X.env.kindOf p.1 = some .cell
theorem look1 {x y : Str} {C c : Addr} {cl : List (Str × Addr)} (e : ((x, C + 1) :: cl).lookup y = some c) : (y = x ∧ c = C + 1) ∨ cl.lookup y = some c := by
  rw [List.lookup_cons] at e
  cases q : y == x with
  | true =>
    rw [q] at e; cases e
    exact .inl ⟨by simpa using q, rfl⟩
  | false => rw [q] at e; exact .inr e
section
variable {X : Cx} {pins : List (Addr × Obj)} {σ : St} {H : Hp} {s : Shared} {scope : Scope} {x : Str} {cl : List (Str × Addr)} {tg : List Str} {fr : List (Str × Nat)}
theorem block_start1 {C : Addr} {fp : List Addr} {h' : Heap} {t' : Nat} {m : Str → Option Value} (B : BlockOk1 X scope x cl tg fr) (I : Inv X pins σ H s) (hf : ∀ b ∈ fp, FpOk X pins H b ∧ b < s.heap.objs.size) (hC : s.heap.objs.size ≤ C) (hn : h'.Ns C m) (k : ∀ b o, s.heap.get? b = some o → h'.get? b = some o)
    {H2 : Hp} (hu : Un (frs X.stack) fp H H2 s.heap h') (hok : HOk X.prog X.w H2 h') (hfree : H2 C = none) (hce : h'.IsCell (C + 1) none) (hfc : H2 (C + 1) = none) :
    Inv (X.block1 scope x cl C (tg ++ fr.map (·.1)) fp pins s H) [] (blockSt tg.length (fr.map (·.2)) σ) H2 { s with heap := h', toks := t' } := by
  have cells : ∀ {x c}, cl.lookup x = some c → X.env.cells.lookup x = some c := fun e => B.allin.get e
  have cC : ∀ x c, X.env.cells.lookup x = some c → c ≠ C := fun x c e z => by
    obtain ⟨v, o, ho, _⟩ := I.cell x c e
    exact absurd (Nat.lt_of_lt_of_le (Heap.lt_size ho) hC) (by rw [z]; exact Nat.lt_irrefl _)
  have cellK : ∀ {c v}, s.heap.IsCell c v → h'.IsCell c v := fun {c v} ⟨o, e, d⟩ => ⟨o, k c o e, d⟩
  have cellH : ∀ x c, X.env.cells.lookup x = some c → c ∉ fp ∧ H2 c = none := fun x c e => by
    have nf : c ∉ fp := fun z => (hf c z).1.2.2.2.2.1 x c e rfl
    obtain ⟨v, o, ho, _⟩ := I.cell x c e
    exact ⟨nf, hu.free c o ho (I.freeC x c e) nf⟩
  have pinK : ∀ p ∈ X.pn ++ pins, p.1 ∉ fp ∧ H2 p.1 = none := fun p hp => by
    have nf : p.1 ∉ fp := fun z => (hf p.1 z).1.2.2.2.2.2 p hp rfl
    obtain ⟨e, n, _⟩ := I.pin p hp
    exact ⟨nf, hu.free p.1 _ e n nf⟩
  have lt1 : ∀ y c, cl.lookup y = some c → c ≠ C + 1 := fun y c e z => by
    obtain ⟨v, o, ho, _⟩ := I.cell y c (cells e)
    exact absurd (Nat.lt_of_lt_of_le (Heap.lt_size ho) (Nat.le_succ_of_le hC)) (by rw [z]; exact Nat.lt_irrefl _)
  have stkC : ∀ b ∈ frs X.stack, b < s.heap.objs.size := fun b hb => by
    obtain ⟨_, o, ho, _⟩ := I.stack.mem hb
    exact Heap.lt_size ho
  refine ⟨⟨I.ok.mod, B.kind, I.ok.glob, I.ok.blt, hC, fun y z c h1 h2 => ?_, fun y hx => ?_, fun y c hz h1 => ?_, I.ok.hd, I.ok.frames, .inl rfl, fun b hb => ?_, fun b o e => ⟨?_, ?_⟩, ?_, fun b o e z => ?_, fun b hb z => ?_, I.stack, I.stkFree⟩,
    rfl, I.bare, hu, ⟨m, hn, fun i y v h1 h2 h3 => ?_⟩, fun y c e => ?_, hfree, fun y c e => ?_, fun p hp => ?_, hok, ?_⟩
  · rcases look1 h1 with ⟨e1, e2⟩ | e1
    · rcases look1 h2 with ⟨e3, e4⟩ | e3
      · rw [e1, e3]
      · exact absurd e2 (lt1 z c e3)
    · rcases look1 h2 with ⟨e3, e4⟩ | e3
      · exact absurd e4 (lt1 y c e1)
      · exact I.ok.inj y z c (cells e1) (cells e3)
  · have e : (relabel scope X.env).names.lookup y = some .cell ∨ (relabel scope X.env).names.lookup y = some .free := hx
    have mem : ∃ kk, (y, kk) ∈ (relabel scope X.env).names ∧ (kk == NameKind.cell || kk == NameKind.free) = true := by
      rcases e with e | e
      · exact ⟨_, lookup_mem e, rfl⟩
      · exact ⟨_, lookup_mem e, rfl⟩
    obtain ⟨kk, mm, hk⟩ := mem
    have z := List.all_eq_true.mp B.has _ mm
    simp only [hk, Bool.not_true, Bool.false_or] at z
    show ∃ c, ((x, C + 1) :: cl).lookup y = some c
    rw [List.lookup_cons]
    cases q : y == x with
    | true => exact ⟨_, rfl⟩
    | false =>
      rw [q, Bool.false_or] at z
      exact Option.isSome_iff_exists.mp z
  · have hy : y = x := by simpa using (show (y == x) = true from hz)
    subst hy
    have h1' : ((y, C + 1) :: cl).lookup y = some c := h1
    rw [List.lookup_cons, beq_self_eq_true] at h1'
    cases h1'
    exact Nat.le_succ_of_le hC
  · exact ⟨fun z => absurd (Nat.lt_of_lt_of_le (hf b hb).2 hC) (by rw [z]; exact Nat.lt_irrefl _), fun y c e => by
      rcases look1 e with ⟨_, e2⟩ | e2
      · rw [e2]; exact Nat.ne_of_gt (Nat.lt_succ_of_lt (Nat.lt_of_lt_of_le (hf b hb).2 hC))
      · exact fun z => (cellH y c (cells e2)).1 (z ▸ hb)⟩
  · exact (I.bs b o e).1
  · exact (I.bs b o e).2
  · exact Nat.le_trans I.ok.bsz I.sz
  · rcases (hf b z).1.2.2.2.1 with q | q
    · exact I.ok.noex b o e q
    · exact absurd (Nat.lt_of_lt_of_le (Heap.lt_size (I.ok.bs b o e).1) q) (Nat.lt_irrefl _)
  · have z' : b ∈ frs X.stack := z
    rcases List.mem_cons.mp (I.stkSub b z') with q | q
    · exact (hf b hb).1.2.1 q
    · exact (hf b hb).1.2.2.1 q
  · have hi : tg.length ≤ i := by
      refine Nat.le_of_not_lt fun z => ?_
      unfold blockSt at h2
      rw [List.getElem?_append_left (by simpa using z), List.getElem?_replicate, if_pos z] at h2
      cases h2
    have h1' : (fr.map (·.1))[i - tg.length]? = some y := by
      have z : (tg ++ fr.map (·.1))[i]? = some y := h1
      rw [List.getElem?_append_right hi] at z
      exact z
    have h2' : ((fr.map (·.2)).map fun i => (σ[i]?).join)[i - tg.length]? = some (some v) := by
      unfold blockSt at h2
      rw [List.getElem?_append_right (by simpa using hi)] at h2
      simpa using h2
    rw [List.getElem?_map] at h1'
    rw [List.getElem?_map, List.getElem?_map] at h2'
    cases q : fr[i - tg.length]? with
    | none => rw [q] at h1'; cases h1'
    | some p =>
      rw [q] at h1' h2'
      have ex : p.1 = y := Option.some.inj h1'
      have ev : (σ[p.2]?).join = some v := Option.some.inj h2'
      subst ex
      obtain ⟨f1, f2, ⟨f0, f3⟩, f4⟩ := B.frN p (List.mem_of_getElem? q)
      have eσ : σ[p.2]? = some (some v) := by
        cases z : σ[p.2]? with
        | none => rw [z] at ev; cases ev
        | some w' => rw [z] at ev; exact congrArg some ev
      obtain ⟨m0, hn0, hl0⟩ := I.loc
      obtain ⟨u, r, l⟩ := hl0 p.2 p.1 v f1 eσ f2
      refine ⟨u, r, ?_⟩
      obtain ⟨c, hc⟩ := Option.isSome_iff_exists.mp f3
      have hk := B.frL p (List.mem_of_getElem? q)
      rcases l with ⟨kl, _⟩ | ⟨_, c', hc', z⟩
      · rw [hk] at kl; cases kl
      · have e' := cells hc
        rw [hc'] at e'
        cases e'
        exact .inr ⟨.inl f4, c, by show ((x, C + 1) :: cl).lookup p.1 = some c; rw [List.lookup_cons, f0]; exact hc, cellK z⟩
  · rcases look1 e with ⟨_, e2⟩ | e2
    · rw [e2]; exact ⟨_, hce⟩
    · obtain ⟨v, z⟩ := I.cell y c (cells e2)
      exact ⟨v, cellK z⟩
  · rcases look1 e with ⟨_, e2⟩ | e2
    · rw [e2]; exact hfc
    · exact (cellH y c (cells e2)).2
  · rw [List.append_nil] at hp
    obtain ⟨e, n, ne, nf, d⟩ := I.pin p hp
    refine ⟨k _ _ e, (pinK p hp).2, fun z => absurd (Nat.lt_of_lt_of_le (Heap.lt_size e) hC) (by rw [z]; exact Nat.lt_irrefl _), fun z => ?_, d⟩
    rcases List.mem_cons.mp (I.stkSub _ z) with q | q
    · exact ne q
    · exact nf q
  · unfold blockSt
    show _ = (tg ++ fr.map (·.1)).length
    simp
end
theorem newEnv1 {M : Model} {A : Around} {E : Value → Shared → Prop} {s : Shared} {scope : Scope} {globals : Addr} {x : Str} {cl : List (Str × Addr)} {qual : Str} {env : Env} {Q : Env → Shared → Prop}
    (laid : ∀ n, cellsFrom n scope.names cl = (x, n) :: cl) (push : ∀ h : Heap, pushCells h scope.names = h.push { cls := .type "cell", data := .cell none })
    (hQ : Q (newEnv scope s.heap.objs.size globals ((x, s.heap.objs.size + 1) :: cl) qual none .none (some env) builtinsNs) { s with heap := (s.heap.push { cls := .type "dict", data := .dict #[] }).push { cls := .type "cell", data := .cell none } }) :
    wpAny M A (newFunctionEnv scope globals cl [] qual none .none (some env)) Q E s := by
  simp only [newFunctionEnv, Option.isSome_some, if_true]
  refine wpAny_bind (wpAny_alloc ?_)
  refine wpAny_bind (wpAny_layCells _ (fun name kind cells => by cases hkc : kind == NameKind.cell <;> simp [hkc]) _ _ _ _ ?_)
  rw [push, laid]
  rw [show ({ s with heap := s.heap.push { cls := .type "dict", data := .dict #[] } } : Shared).heap.objs.size = s.heap.objs.size + 1 from Heap.size_push ..]
  refine wpAny_bind ?_
  rw [List.forIn_nil]
  exact wpAny_pure (wpAny_pure hQ)
section
variable {X : Cx} {scope : Scope} {x0 : Str} {cl : List (Str × Addr)} {tg : List Str} {fr : List (Str × Nat)} {elt target iter : Expr} {ifs : List Expr} {wi : TI} {g : TG} {tt : TT} {te : TE} {pos : Pos}
theorem comp_core1 (B : BlockOk1 X scope x0 cl tg fr) (hc : X.calm = true) (hi : PI X target iter wi)
    (hg : ∀ C fp pins s H, PG (X.block1 scope x0 cl C (tg ++ fr.map (·.1)) fp pins s H) target g) (ht : ∀ C fp pins s H, PIfs (X.block1 scope x0 cl C (tg ++ fr.map (·.1)) fp pins s H) ifs tt) (he : ∀ C fp pins s H, PE (X.block1 scope x0 cl C (tg ++ fr.map (·.1)) fp pins s H) elt te)
    {pins : List (Addr × Obj)} {σ : St} {H : Hp} {s : Shared} {Q : VK} (I : Inv X pins σ H s) (hw : tComp wi g tt te tg.length (fr.map (·.2)) σ H Q) {RR : Value → Addr → Result → Shared → Prop}
    (hRR : ∀ D C s1 H5 m, Inv X pins σ H5 s1 → s1.heap.Ns C m → H5 C = none → C ≠ X.env.locals → X.s₀.heap.objs.size ≤ C → (∀ x c, X.env.cells.lookup x = some c → c ≠ C) → (∀ p ∈ X.pn ++ pins, p.1 ≠ C) → Q (.ref D) H5 → RR (.ref D) C (.ok .next) s1) :
    wpAny (model X.prog X.w) X.A (eval iter X.env) (fun xv s1 => wpAny (model X.prog X.w) X.A (pyIter xv) (fun it s2 => wpAny (model X.prog X.w) X.A (newList []) (fun acc s3 =>
      wpAny (model X.prog X.w) X.A (newFunctionEnv scope X.env.globals cl [] X.env.qual none .none (some X.env)) (fun cenv s4 =>
        codeAny (model X.prog X.w) X.A (.compStart (.ListComp elt [⟨target, iter, ifs, 0⟩] scope pos) 0 it acc { cenv with scope := relabel scope X.env }) (RR acc cenv.locals) s4) X.xe s3) X.xe s2) X.xe s1) X.xe s := by
  refine wpAny_mono (hi pins s σ H _ I hw) (fun xv s1 h1 => wpAny_mono h1 (fun itv s2 h2 => ?_) fun _ _ z => z) fun _ _ z => z
  obtain ⟨it, fp, tn, J, H1, rfl, I2, T, tn0, f2, hw2⟩ := h2
  have flt : ∀ b ∈ fp, b < s2.heap.objs.size := fun b hb => by
    obtain ⟨o, e, _⟩ := T.obj _ _ tn0 b hb
    exact Heap.lt_size e
  refine wpAny_newObj_type (newEnv1 B.laid B.push ?_)
  dsimp only
  generalize hP : s2.heap.push { cls := .type "list", dict := none, data := .seq ([] : List Value).toArray } = hp
  have hC : hp.objs.size = s2.heap.objs.size + 1 := by rw [← hP, Heap.size_push]
  have hlt : s2.heap.objs.size < hp.objs.size := by rw [hC]; exact Nat.lt_succ_self _
  generalize hP3 : (hp.push { cls := .type "dict", data := .dict #[] }).push { cls := .type "cell", data := .cell none } = h3
  have k3 : ∀ b o, s2.heap.get? b = some o → h3.get? b = some o := fun b o e => by
    rw [← hP3]
    exact Heap.get?_push_of_some _ (Heap.get?_push_of_some _ (hP ▸ Heap.get?_push_of_some _ e))
  have hns : h3.Ns hp.objs.size (fun _ => none) := by
    rw [← hP3]
    exact (Heap.Ns.new hp (.type "dict")).keeps fun b o e => Heap.get?_push_of_some _ e
  have hce : h3.IsCell (hp.objs.size + 1) none := by
    rw [← hP3]
    have e : (hp.push { cls := .type "dict", data := .dict #[] }).objs.size = hp.objs.size + 1 := Heap.size_push ..
    exact ⟨{ cls := .type "cell", data := .cell none }, by rw [← e]; exact Heap.get?_push_size _ rfl, rfl⟩
  have hD : H1 s2.heap.objs.size = none := I2.hok.fresh (Nat.le_refl _)
  have hacc : h3.get? s2.heap.objs.size = some { cls := .type "list", dict := none, data := .seq ([] : List Value).toArray } := by
    rw [← hP3]
    exact Heap.get?_push_of_some _ (Heap.get?_push_of_some _ (hP ▸ Heap.get?_push_size _ rfl))
  obtain ⟨W, ⟨m0, w0⟩, turn⟩ := hw2 _ hD
  have un0 : Un (frs X.stack) fp H1 (upd H1 s2.heap.objs.size (.lst [])) s2.heap h3 := Un.laid k3 (Nat.le_refl _) hD
  have ok0 : HOk X.prog X.w (upd H1 s2.heap.objs.size (.lst [])) h3 := I2.hok.laid k3 (Nat.le_refl _) ⟨Nat.zero_le _, [], 0, .nil, hacc⟩
  have fC : upd H1 s2.heap.objs.size (.lst []) hp.objs.size = none := by rw [upd_ne (Nat.ne_of_gt hlt)]; exact I2.hok.fresh (Nat.le_of_lt hlt)
  have fC1 : upd H1 s2.heap.objs.size (.lst []) (hp.objs.size + 1) = none := by rw [upd_ne (Nat.ne_of_gt (Nat.lt_succ_of_lt hlt))]; exact I2.hok.fresh (Nat.le_succ_of_le (Nat.le_of_lt hlt))
  have ltL := I2.lt
  have nL : hp.objs.size ≠ X.env.locals := Nat.ne_of_gt (Nat.lt_trans ltL hlt)
  have s0C : X.s₀.heap.objs.size ≤ hp.objs.size := Nat.le_trans I2.sz (Nat.le_of_lt hlt)
  have cC : ∀ x c, X.env.cells.lookup x = some c → c ≠ hp.objs.size := fun x c e z => by
    obtain ⟨v, o, ho, _⟩ := I2.cell x c e
    exact absurd (Nat.lt_trans (Heap.lt_size ho) hlt) (by rw [z]; exact Nat.lt_irrefl _)
  have pC : ∀ p ∈ X.pn ++ pins, p.1 ≠ hp.objs.size := fun p hp' z => by
    exact absurd (Nat.lt_trans (Heap.lt_size (I2.pin p hp').1) hlt) (by rw [z]; exact Nat.lt_irrefl _)
  have J0 := block_start1 (t' := s2.toks) B I2 (fun b hb => ⟨f2 b hb, flt b hb⟩) (Nat.le_of_lt hlt) hns k3 un0 ok0 fC hce fC1
  have fpX : ∀ {H' : Hp} {pl : List (Addr × Obj)}, (∀ b ∈ fp, H' b = none) → (∀ p ∈ pl, p.1 ∉ fp) → ∀ b ∈ fp, FpOk (X.block1 scope x0 cl hp.objs.size (tg ++ fr.map (·.1)) fp pins s2 H1) pl H' b := fun hn hpl b hb => by
    obtain ⟨g0, g1, g2, g3, g4, g5⟩ := f2 b hb
    refine ⟨hn b hb, fun z => ?_, fun z => ?_, .inl hb, fun y c e => ?_, fun p hp' z => ?_⟩
    · have z' : b = hp.objs.size := z
      exact absurd (Nat.lt_trans (flt b hb) hlt) (by rw [z']; exact Nat.lt_irrefl _)
    · rcases List.mem_cons.mp (I2.stkSub b z) with q | q
      · exact g1 q
      · exact g2 q
    · rcases look1 e with ⟨_, e2⟩ | e2
      · rw [e2]; exact Nat.ne_of_gt (Nat.lt_trans (flt b hb) (Nat.lt_succ_of_lt hlt))
      · exact g4 y c (B.allin.get e2)
    · rcases List.mem_append.mp hp' with q | q
      · exact g5 p q z
      · exact hpl p q (z ▸ hb)
  have loop : ∀ s3 : Shared, s3 = { s2 with heap := h3, toks := s2.toks } →
      codeAny (model X.prog X.w) X.A (.compLoop (.ListComp elt [⟨target, iter, ifs, 0⟩] scope pos) 0 (.ref it) (.ref s2.heap.objs.size) (compEnvC scope ((x0, hp.objs.size + 1) :: cl) hp.objs.size X.env)) (RR (.ref s2.heap.objs.size) hp.objs.size) s3 := by
    rintro s3 rfl
    refine comp_loop (fun n s' => ∃ i σ' ys H5, Inv (X.block1 scope x0 cl hp.objs.size (tg ++ fr.map (·.1)) fp pins s2 H1) [] σ' H5 s' ∧ tn i s'.heap ∧ (∀ b ∈ fp, H5 b = none) ∧ W i n σ' ys H5) ?_ m0
      ⟨0, _, [], _, J0, T.keep _ _ _ tn0 fun b hb o e => k3 b o e, fun b hb => ?_, w0⟩
    · rintro n s' ⟨i, σ', ys, H5, J5, t5, f5, w5⟩
      rcases turn i n σ' ys H5 w5 with ⟨stop, q⟩ | ⟨go, step⟩
      · refine wpAny_mono (T.done (X.block1 scope x0 cl hp.objs.size (tg ++ fr.map (·.1)) fp pins s2 H1) rfl rfl rfl hc i [] s' σ' H5 (fun _ _ => False) J5 (fpX f5 (by simp)) t5 stop) (fun r s6 ⟨hr, J6⟩ => ?_) fun _ _ z => z
        subst hr
        obtain ⟨m6, hn6, _⟩ := J6.loc
        exact hRR _ _ _ H5 m6 (I2.call' (ch := fp) J6.os J6.base J6.hok J6.bare fun b hb => by obtain ⟨g0, g1, g2, g3, g4, g5⟩ := f2 b hb; exact ⟨g3, g1, g4, g5⟩) hn6 J6.free nL s0C cC pC q
      · refine wpAny_mono (T.item (X.block1 scope x0 cl hp.objs.size (tg ++ fr.map (·.1)) fp pins s2 H1) rfl rfl rfl hc i [] s' σ' H5 (fun _ _ => False) J5 (fpX f5 (by simp)) t5 go) (fun r s6 ⟨u, hr, h6⟩ => ?_) fun _ _ z => z
        subst hr
        refine wpAny_mono h6 (fun _ s7 ⟨x, H7, J7, r7, y7, t7, f7⟩ => ?_) fun _ _ z => z
        have J7' := J7.pinned (fpX f7 (by simp)) (T.obj _ _ t7)
        have again : ∀ {σ8 : St} {H8 : Hp} {s8 : Shared} {ys' : List V}, Inv (X.block1 scope x0 cl hp.objs.size (tg ++ fr.map (·.1)) fp pins s2 H1) ([] ++ pinsAt fp s7.heap) σ8 H8 s8 → (∃ m', m' < n ∧ W (i + 1) m' σ8 ys' H8) →
            ∃ m', m' < n ∧ ∃ i σ' ys H5, Inv (X.block1 scope x0 cl hp.objs.size (tg ++ fr.map (·.1)) fp pins s2 H1) [] σ' H5 s8 ∧ tn i s8.heap ∧ (∀ b ∈ fp, H5 b = none) ∧ W i m' σ' ys H5 := fun {σ8 H8 s8 ys'} J8 ⟨m', hm, w8⟩ => by
          refine ⟨m', hm, i + 1, σ8, ys', H8, J8.unpinned, T.keep _ _ _ t7 fun b hb o e => (J8.pin (b, o) (List.mem_append_right _ (List.mem_append_right _ (mem_pinsAt hb e)))).1, fun b hb => ?_, w8⟩
          obtain ⟨o, e, d⟩ := T.obj _ _ t7 b hb
          exact (J8.pin (b, o) (List.mem_append_right _ (List.mem_append_right _ (mem_pinsAt hb e)))).2.1
        refine wpAny_mono (hg _ _ _ _ _ _ s7 σ' H7 x u _ J7' r7 (step x H7 y7)) (fun _ s8 ⟨σ8, H8, J8, q8⟩ => ?_) fun _ _ z => z
        refine wpAny_mono (ht _ _ _ _ _ _ s8 σ8 H8 _ J8 q8) (fun b s9 ⟨H9, J9, q9⟩ => ?_) fun _ _ z => z
        cases b with
        | false =>
          rw [if_neg Bool.false_ne_true] at q9 ⊢
          exact again J9 q9
        | true =>
          rw [if_pos rfl] at q9 ⊢
          refine wpAny_mono (he _ _ _ _ _ _ s9 σ8 H9 _ J9 q9) (fun y s10 ⟨v, H10, J10, r10, ha10, hl10, q10⟩ => ?_) fun _ _ z => z
          refine wpAny_mono (mt_append (X := X.block1 scope x0 cl hp.objs.size (tg ++ fr.map (·.1)) fp pins s2 H1) _ s10 σ8 H10 (.ref s2.heap.objs.size) [v] (.ref s2.heap.objs.size) [y] (fun _ H11 => ∃ m', m' < n ∧ W (i + 1) m' σ8 (ys ++ [v]) H11) J10 rfl (.cons r10 .nil) ⟨_, ys, v, rfl, rfl, ha10, hl10, q10⟩) (fun _ s11 ⟨_, H11, J11, _, q11⟩ => ?_) fun _ _ z => z
          exact again J11 q11
    · have l := flt b hb
      rw [upd_ne (Nat.ne_of_lt l)]; exact (f2 b hb).1
  exact codeAny_compStart_list (loop _ rfl) (T.self X.A 0 _ _ _ (T.keep _ _ _ tn0 fun b hb o e => k3 b o e) (loop _ rfl))
theorem pe_comp1 (B : BlockOk1 X scope x0 cl tg fr) (hc : X.calm = true) (hi : PI X target iter wi)
    (hg : ∀ C fp pins s H, PG (X.block1 scope x0 cl C (tg ++ fr.map (·.1)) fp pins s H) target g) (ht : ∀ C fp pins s H, PIfs (X.block1 scope x0 cl C (tg ++ fr.map (·.1)) fp pins s H) ifs tt) (he : ∀ C fp pins s H, PE (X.block1 scope x0 cl C (tg ++ fr.map (·.1)) fp pins s H) elt te)
    (hs : ∀ x, foldedSetIterable iter X.env x = pure x := by intro _; rfl) : PE X (.ListComp elt [⟨target, iter, ifs, 0⟩] scope pos) (tComp wi g tt te tg.length (fr.map (·.2))) := by
  intro pins s σ H Q I hw
  rw [eval_ListComp]
  refine wpAny_comprehension_free (use := none) rfl hs B.clos B.kind B.names (comp_core1 B hc hi hg ht he I hw (RR := fun acc C => compPost (model X.prog X.w) X.A X.xe none (EP X pins σ Q) acc C) fun D C s1 H5 m J hn f0 f1 f2 f3 f4 q => ?_)
  refine ⟨m, hn, fun h' sb => ⟨.ref D, H5, ?_, rfl, q⟩⟩
  exact J.turned (t' := s1.toks) (fun b o hb e => (sb.2 b hb).trans e) f0 f1 (.inr f2) f3 f4
end
end L2
end
section
set_option Elab.async false
set_option linter.all false
set_option maxRecDepth 100000
namespace Dt
open PySem L2 Fr Gm
theorem FG.setRow {H : Hp} {p b : Addr} {as ps : List Addr} {R : List (List (Int × Int))} {fs : List (Int × Int)} {k : Nat} (g : FG H p as R) (np : p ∉ as) (nb : b ≠ p) (hb : H b = some (.lst (ps.map V.ref))) (pr : PR H ps fs) : FG (upd H p (.lst ((as.map V.ref).set k (.ref b)))) p (as.set k b) (R.set k fs) := by
  refine ⟨by rw [upd_same, List.map_set], by rw [List.length_set, List.length_set, g.len], fun i a fs' h1 h2 => ?_⟩
  by_cases z : i = k
  · subst z
    have il := (List.getElem?_eq_some_iff.mp h1).1
    rw [List.length_set] at il
    rw [List.getElem?_set_self il] at h1
    rw [List.getElem?_set_self (by rw [← g.len]; exact il)] at h2
    cases h1
    cases h2
    exact ⟨ps, by rw [upd_ne nb]; exact hb, PR.off pr (.inr g.top)⟩
  · rw [List.getElem?_set_ne (fun w => z w.symm)] at h1 h2
    obtain ⟨qs, h3, h4⟩ := g.row i a fs' h1 h2
    exact ⟨qs, by rw [upd_ne (fun y => by rw [y] at h1; exact np (List.mem_of_getElem? h1))]; exact h3, PR.off h4 (.inr g.top)⟩
def frL (L : List (List Int)) : List (List (Int × Int)) := L.map fun l => l.map fun x => (x, 1)
theorem qt_one (x : Int) : qt (x, 1) = (x : Rat) := by
  show (x : Rat) / ((1 : Int) : Rat) = (x : Rat)
  have : ((1 : Int) : Rat) = 1 := rfl
  rw [this]
  grind
theorem lw_one (x : Int) : Lw (x, 1) := ⟨show (0 : Int) < 1 by decide, by simp⟩
theorem fa_frL {L : List (List Int)} {n : Nat} (r : Rect L n n) {i j : Nat} (hi : i < n) (hj : j < n) : fa ((frL L).getD i []) j = (mx L i j : Rat) := by
  obtain ⟨l, hl, ll⟩ := r.at hi
  obtain ⟨x, hx⟩ : ∃ x, l[j]? = some x := ⟨l[j]'(by omega), by simp [show j < l.length by omega]⟩
  have e : (frL L).getD i [] = l.map fun x => (x, 1) := by
    unfold frL
    rw [List.getD_eq_getElem?_getD, List.getElem?_map, hl]
    rfl
  rw [e, fa_at (f := (x, 1)) (by rw [List.getElem?_map, hx]; rfl), qt_one, mx_eq hl hx]
theorem dq_frL {L : List (List Int)} {n : Nat} (r : Rect L n n) : dq n (frL L) = Dq.det n fun i j => (mx L i j : Rat) := Dq.det_congr fun i j hi hj => fa_frL r hi hj
theorem det_added {n : Nat} (A : Dq.Mx) : ∀ t, t < n → Dq.det n (fun i j => if 1 ≤ i ∧ i ≤ t then A i j + A 0 j else A i j) = Dq.det n A
  | 0, _ => Dq.det_congr fun i j _ _ => if_neg (by omega)
  | t + 1, h => by
    rw [← det_added A t (by omega), ← Dq.row_add (fun i j => if 1 ≤ i ∧ i ≤ t then A i j + A 0 j else A i j) 1 h (show 0 < n by omega) (by omega)]
    refine Dq.det_congr fun i j _ _ => ?_
    unfold Dq.rl
    by_cases z : i = t + 1
    · subst z
      rw [if_pos ⟨by omega, by omega⟩, if_pos rfl]
      dsimp only
      rw [if_neg (by omega), if_neg (by omega)]
      grind
    · rw [if_neg z]
      dsimp only
      by_cases y : 1 ≤ i ∧ i ≤ t
      · rw [if_pos y, if_pos ⟨y.1, by omega⟩]
      · rw [if_neg y, if_neg (by omega)]
theorem dq_steep {L L' : List (List Int)} {n : Nat} (h0 : 0 < n) (r : Rect L' n n) (low : ∀ i j, j < i → i < n → mx L i j = 0) (h : ∀ i j, i < n → j < n → mx L' i j = if 1 ≤ i then mx L i j + mx L 0 j else mx L i j) : dq n (frL L') = ((pz n fun i => mx L i i : Int) : Rat) := by
  rw [dq_frL r, pz_cast, ← Dq.det_steps n (fun i j => (mx L i j : Rat)) (fun i j hj hi => by rw [low i j hj hi]; rfl), ← det_added (fun i j => (mx L i j : Rat)) (n - 1) (by omega)]
  refine Dq.det_congr fun i j hi hj => ?_
  rw [h i j hi hj]
  by_cases z : 1 ≤ i
  · rw [if_pos z, if_pos ⟨z, by omega⟩, Rat.intCast_add]
  · rw [if_neg z, if_neg (by omega)]
theorem dq_swap {R : List (List (Int × Int))} {n c d : Nat} {a b : List (Int × Int)} (hl : R.length = n) (hc : c < n) (hd : d < n) (h : c ≠ d) (ha : R[c]? = some a) (hb : R[d]? = some b) : dq n ((R.set c b).set d a) = - dq n R := by
  unfold dq
  rw [← Dq.row_swap (fun i j => fa (R.getD i []) j) hc hd h]
  refine Dq.det_congr fun i j _ _ => ?_
  unfold Dq.rl
  have ea : R.getD c [] = a := by rw [List.getD_eq_getElem?_getD, ha]; rfl
  have eb : R.getD d [] = b := by rw [List.getD_eq_getElem?_getD, hb]; rfl
  by_cases z : i = d
  · subst z
    rw [if_pos rfl, ea]
    have : ((R.set c b).set i a).getD i [] = a := by rw [List.getD_eq_getElem?_getD, List.getElem?_set_self (by rw [List.length_set]; omega)]; rfl
    rw [this]
  · rw [if_neg z]
    by_cases y : i = c
    · subst y
      rw [if_pos rfl, eb]
      have : ((R.set i b).set d a).getD i [] = b := by rw [List.getD_eq_getElem?_getD, List.getElem?_set_ne (by omega), List.getElem?_set_self (by omega)]; rfl
      rw [this]
    · rw [if_neg y]
      have : ((R.set c b).set d a).getD i [] = R.getD i [] := by rw [List.getD_eq_getElem?_getD, List.getD_eq_getElem?_getD, List.getElem?_set_ne (by omega), List.getElem?_set_ne (by omega)]
      rw [this]
end Dt
end
section
set_option Elab.async false
set_option linter.all false
set_option maxRecDepth 100000
set_option maxHeartbeats 4000000
namespace Toy
open PySem L2 Fr Gm Dt
local macro_rules | `(tactic| walk_at "rd1") => `(tactic| first
  | with_reducible refine r_seq ?_ | with_reducible refine r_asg ?_ | with_reducible refine r_gname ?_ | with_reducible refine r_op ?_ | with_reducible refine r_c ?_
  | ((with_reducible refine' r_var ?hv ?_); case' hv => exact rfl)
  | with_reducible refine r_rI0 ?_ | with_reducible refine r_un ?_ | with_reducible refine r_rU ?_ | with_reducible refine r_eqI ?_ | with_reducible refine r_neI ?_
  | with_reducible refine r_ret ?_ | with_reducible refine r_retN ?_ | with_reducible refine r_drop ?_ | with_reducible refine r_ifS ?_ | with_reducible refine r_test ?_ | with_reducible refine r_B ?_ | with_reducible refine r_bl ?_
  | with_reducible refine r_not ?_ | with_reducible refine r_and ?_ | with_reducible refine r_or ?_ | with_reducible refine r_andV ?_ | with_reducible refine r_orV ?_ | with_reducible refine r_notV ?_ | with_reducible refine r_ifE ?_
  | with_reducible refine r_nil ?_ | with_reducible refine r_cons ?_ | with_reducible refine r_call ?_ | with_reducible refine r_cb ?_ | with_reducible refine r_tup ?_ | with_reducible refine r_lst ?_ | with_reducible refine r_next ?_
  | with_reducible refine r_gcons ?_ | with_reducible refine r_gnil ?_ | with_reducible refine r_par ?_ | with_reducible refine ifT ?_ | with_reducible refine ifF ?_ | with_reducible refine ifNT ?_ | with_reducible refine ifNF ?_
  | ((with_reducible refine r_rI ?hc ?_); case' hc => walk_at "side")
  | ((with_reducible refine' r_ixT ?hp ?hi ?_); (case' hp => walk_at "seq"); (case' hi => exact rfl))
  | ((with_reducible refine' r_ixL ?hp ?hi ?_); (case' hp => walk_at "seq"); (case' hi => exact rfl))
  | ((with_reducible refine' r_gtup ?hp ?hi ?_); (case' hp => walk_at "seq"); (case' hi => exact rfl))
  | ((with_reducible refine And.intro ?hl ?_); case' hl => (first | exact sl2 | exact sl3))
  | with_reducible refine r_bm ?_ | with_reducible refine r_bm0 ?_ | with_reducible refine r_true ?_ | with_reducible refine r_isN ?_ | with_reducible refine r_notN ?_ | with_reducible refine r_raise ?_ | with_reducible refine r_tryAs ?_ | with_reducible refine r_dnotin ?_ | with_reducible refine r_din ?_ | with_reducible refine r_dput ?_ | with_reducible refine r_dget1 ?_ | with_reducible refine r_tryNo ?_
  | dsimp only)
local macro_rules | `(tactic| walk_at "rd") => `(tactic| repeat walk_at "rd1")
local macro_rules | `(tactic| walk_at "blk_vis") => `(tactic| first | exact Or.inl rfl | exact Or.inr (Or.inl rfl) | exact Or.inr (Or.inr rfl))
local macro_rules | `(tactic| walk_at "blk_ok") => `(tactic| exact ⟨rfl, by decide +kernel, by decide +kernel, rfl, by (first | exact trivial | exact ⟨rfl, trivial⟩ | exact ⟨rfl, rfl, trivial⟩ | exact ⟨rfl, rfl, rfl, trivial⟩ | exact ⟨rfl, rfl, rfl, rfl, trivial⟩), rfl,
  by (first | exact fm_nil | exact fm_cons ⟨rfl, by walk_at "blk_vis", rfl, rfl⟩ fm_nil | exact fm_cons ⟨rfl, by walk_at "blk_vis", rfl, rfl⟩ (fm_cons ⟨rfl, by walk_at "blk_vis", rfl, rfl⟩ fm_nil) | exact fm_cons ⟨rfl, by walk_at "blk_vis", rfl, rfl⟩ (fm_cons ⟨rfl, by walk_at "blk_vis", rfl, rfl⟩ (fm_cons ⟨rfl, by walk_at "blk_vis", rfl, rfl⟩ fm_nil))),
  by (first | exact fm_nil | exact fm_cons rfl fm_nil | exact fm_cons rfl (fm_cons rfl fm_nil) | exact fm_cons rfl (fm_cons rfl (fm_cons rfl fm_nil)))⟩)
local macro_rules | `(tactic| walk_at "blk_ok1") => `(tactic| exact ⟨rfl, fun _ => rfl, fun _ => rfl, by decide +kernel, rfl, by (first | exact trivial | exact ⟨rfl, trivial⟩ | exact ⟨rfl, rfl, trivial⟩ | exact ⟨rfl, rfl, rfl, trivial⟩ | exact ⟨rfl, rfl, rfl, rfl, trivial⟩), rfl,
  by (first | exact fm_nil | exact fm_cons ⟨rfl, by walk_at "blk_vis", ⟨rfl, rfl⟩, rfl⟩ fm_nil | exact fm_cons ⟨rfl, by walk_at "blk_vis", ⟨rfl, rfl⟩, rfl⟩ (fm_cons ⟨rfl, by walk_at "blk_vis", ⟨rfl, rfl⟩, rfl⟩ fm_nil) | exact fm_cons ⟨rfl, by walk_at "blk_vis", ⟨rfl, rfl⟩, rfl⟩ (fm_cons ⟨rfl, by walk_at "blk_vis", ⟨rfl, rfl⟩, rfl⟩ (fm_cons ⟨rfl, by walk_at "blk_vis", ⟨rfl, rfl⟩, rfl⟩ fm_nil))),
  by (first | exact fm_nil | exact fm_cons rfl fm_nil | exact fm_cons rfl (fm_cons rfl fm_nil) | exact fm_cons rfl (fm_cons rfl (fm_cons rfl fm_nil)))⟩)
local macro_rules | `(tactic| walk_at "side") => `(tactic| first | assumption | exact (show (0 : Int) < _ by decide) | exact cfp_lit (by decide) (by decide) | exact cfp_big (by decide) (by decide) | exact mulL (by decide) (by decide))
local macro_rules | `(tactic| walk_at "seq") => `(tactic| first | assumption | exact SqT.of (by assumption))
def top (i : Nat) : Stmt := PySem.Challenge.pw_standup_k05_determinants.main.body.getD i (.Pass ⟨0, 0, 0, 0⟩)
abbrev s_common_divisor : Stmt := top 5
abbrev s_ratio : Stmt := top 6
abbrev s_common_bottom : Stmt := top 8
abbrev s_made_whole : Stmt := top 9
abbrev s_led : Stmt := top 10
abbrev s_row_cleared : Stmt := top 11
abbrev s_column_cleared : Stmt := top 12
abbrev s_cleared : Stmt := top 13
abbrev s_determinant : Stmt := top 14
abbrev s__law_cell_at : Stmt := top 16
abbrev s__law_whole : Stmt := top 17
abbrev s__law_block : Stmt := top 18
abbrev s__law_mixed : Stmt := top 19
abbrev s__law_divisor : Stmt := top 20
abbrev s__law_lowest : Stmt := top 21
abbrev s__law_is_fraction : Stmt := top 22
abbrev s__law_number : Stmt := top 23
abbrev s__law_rows : Stmt := top 24
abbrev s__law_plus : Stmt := top 25
abbrev s__law_times : Stmt := top 26
abbrev s__law_steep : Stmt := top 27
abbrev s__law_great : Stmt := top 28
abbrev s_law : Stmt := top 29
structure Adr where
  NoOne : Addr
structure Txt (K : PySem.W.Frag) (mg : Str → Option Value) (Z : Adr) : Prop where
  abs : mg "abs" = none
  len : mg "len" = none
  isinstance : mg "isinstance" = none
  int : mg "int" = none
  bool : mg "bool" = none
  tuple : mg "tuple" = none
  enumerate : mg "enumerate" = none
  range : mg "range" = none
  min : mg "min" = none
  list : mg "list" = none
  zip : mg "zip" = none
  c_NoOne : mg "NoOne" = some (.ref Z.NoOne)
  x_NoOne : PySem.W.excIn K Z.NoOne [.type "ValueError", .type "Exception", .type "BaseException", .type "object"] "ValueError.__new__" = true
  m1 : PySem.W.exmOne K (.ref Z.NoOne) (.ref Z.NoOne) = some true
def sp_gcd : Sp := fun vs H Q _ => ∃ a b : Int, vs = [.int a, .int b] ∧ Q (.int (Int.gcd a b : Nat)) H
def sp_ratio : Sp := fun vs H Q _ => ∃ a b : Int, vs = [.int a, .int b] ∧ b ≠ 0 ∧ Sz 9000 b ∧ ∀ t u p H', Low a b t u → Same H H' → H' p = some (.tup [.int t, .int u]) → Q (.ref p) H'
def sp_cell (K : PySem.W.Frag) : Sp := fun vs H Q _ => ∃ (a : Addr) (ns : List Int) (k : Int), vs = [.ref a, .int k] ∧ SqL K H a (ns.map V.int) ∧ 0 ≤ k ∧ ∀ n, Q (.int n) H
def sp_whole : Sp := fun vs H Q _ => ∃ n : Int, vs = [.int n] ∧ Q (.bl true) H
def sp_isfrac (K : PySem.W.Frag) : Sp := fun vs H Q _ => ∃ (p : Addr) (t u : Int), vs = [.ref p] ∧ H p = some (.tup [.int t, .int u]) ∧ 0 < u ∧ Int.gcd t u = 1 ∧ Q (.bl true) H
def sp_mixed (K : PySem.W.Frag) : Sp := fun vs H Q _ => ∃ (a : Addr) (ns : List Int) (k : Int), vs = [.ref a, .int k] ∧ SqL K H a (ns.map V.int) ∧ 0 ≤ k ∧ k ≤ 100000 ∧ ∀ n, 0 ≤ n → n < 2147483587 → Q (.int n) H
theorem cfd_g {a b x : Int} (hb : b ≠ 0) (hz : Sz 9000 b) : CFd x ((Int.gcd a b : Nat) : Int) := by
  have h0 := gcd_pos a hb
  refine ⟨by omega, Sz.le hz ?_⟩
  have := Int.gcd_le_natAbs_right a hb
  simpa using this
theorem cfd_n {x d : Int} (h : CFd x d) : CFd x (-d) := ⟨fun e => h.1 (by omega), h.2.neg⟩
def sp_bottom : Sp := fun vs H Q _ => ∃ (a : Addr) (ps : List Addr) (fs : List (Int × Int)) (z : Nat), vs = [.ref a] ∧ H a = some (.lst (ps.map V.ref)) ∧ PR H ps fs ∧ Fq z fs ∧ z ≤ 9000 ∧ fs.length ≤ 1000 ∧
  (0 < lcF fs → (∀ f ∈ fs, f.2 ∣ lcF fs) → (lcF fs).natAbs ≤ pd fs → Q (.int (lcF fs)) H)
def sp_made : Sp := fun vs H Q _ => ∃ (a : Addr) (ps : List Addr) (fs : List (Int × Int)) (z : Nat), vs = [.ref a] ∧ H a = some (.lst (ps.map V.ref)) ∧ PR H ps fs ∧ Fq z fs ∧ z ≤ 9000 ∧ fs.length ≤ 1000 ∧
  ∀ (t : Addr) (l : List Int) H', Same H H' → H t = none → H' t = some (.lst (l.map V.int)) → Wh fs (lcF fs) l → (lcF fs).natAbs ≤ pd fs → Q (.ref t) H'
def sp_led (CN : Addr) : Sp := fun vs H Q E => ∃ (p : Addr) (as : List Addr) (L : List (List Int)) (n m c : Nat), vs = [.ref p, .int (c : Int)] ∧ Grid H p as L ∧ Rect L n m ∧ c < n ∧ c < m ∧ n ≤ 1000 ∧ m ≤ 1000 ∧
  (∀ (q : Addr) (bs : List Addr) (L' : List (List Int)) H', Same H H' → Grid H' q bs L' → Led L L' n c → Q (.ref q) H') ∧ ((∀ r, c ≤ r → r < n → mx L r c = 0) → ∀ H', Same H H' → E (.ref CN) none H')
def rcl (r l : List Int) (c : Nat) (d : Int) : List Int := List.zipWith (fun x y => (l.getD c 0 * x - r.getD c 0 * y).fdiv d) r l
def sp_rowcl : Sp := fun vs H Q _ => ∃ (a b : Addr) (r l : List Int) (c m : Nat) (d : Int), vs = [.ref a, .ref b, .int (c : Int), .int d] ∧ H a = some (.lst (r.map V.int)) ∧ H b = some (.lst (l.map V.int)) ∧ r.length = m ∧ l.length = m ∧ c < m ∧ m ≤ 1000 ∧ d ≠ 0 ∧ Sz 9000 d ∧ (∀ x ∈ r, Sz 9000 x) ∧ (∀ x ∈ l, Sz 9000 x) ∧
  ∀ (t : Addr) H', Same H H' → H t = none → H' t = some (.lst ((rcl r l c d).map V.int)) → Q (.ref t) H'
def sp_colcl : Sp := fun vs H Q _ => ∃ (p : Addr) (as : List Addr) (L : List (List Int)) (n m c : Nat) (d : Int), vs = [.ref p, .int (c : Int), .int d] ∧ Grid H p as L ∧ Rect L n m ∧ c < n ∧ c < m ∧ n ≤ 1000 ∧ m ≤ 1000 ∧ d ≠ 0 ∧ Sz 9000 d ∧ (∀ l ∈ L, ∀ x ∈ l, Sz 9000 x) ∧
  ∀ (q : Addr) (bs : List Addr) (L' : List (List Int)) H', Same H H' → Grid H' q bs L' → Clr L L' n m c d → Q (.ref q) H'
def sp_cleared (CN : Addr) : Sp := fun vs H Q E => ∃ (p : Addr) (as : List Addr) (L : List (List Int)) (n m M : Nat), vs = [.ref p] ∧ Grid H p as L ∧ Rect L n m ∧ n ≤ m ∧ n ≤ 1000 ∧ m ≤ 1000 ∧ 1 ≤ M ∧ (∀ i j, (mx L i j).natAbs ≤ M) ∧ ((n + 1) * (2 * M)) ^ (n + 1) < 2 ^ 9000 ∧
  (∀ (q : Addr) (bs : List Addr) (L' : List (List Int)) (A : Mx) (d : Int) H', Same H H' → Grid H' q bs L' → Rect L' n m → Cd n m M n n (mx L) (mx L') d A → Q (.ref q) H') ∧ (Sing n m (mx L) → ∀ H', Same H H' → E (.ref CN) none H')
structure SzD (n : Nat) (R : List (List (Int × Int))) (M PB : Nat) : Prop where
  m1 : 1 ≤ M
  en : ∀ fs ∈ R, ∀ f ∈ fs, f.1.natAbs * pd fs ≤ M
  big : ((n + 1) * (2 * M)) ^ (n + 1) < 2 ^ 9000
  p1 : 1 ≤ PB
  pb : ∀ fs ∈ R, pd fs ≤ PB
  pbig : PB ^ n < 2 ^ 9000
  fq : ∀ fs ∈ R, Fq 9000 fs
def sp_det : Sp := fun vs H Q _ => ∃ (p : Addr) (as : List Addr) (R : List (List (Int × Int))) (n M PB : Nat), vs = [.ref p] ∧ FG H p as R ∧ R.length = n ∧ 0 < n ∧ n ≤ 1000 ∧ (∀ fs ∈ R, fs.length = n) ∧ SzD n R M PB ∧
  ∀ (t u : Int) (r : Addr) H', Lw (t, u) → qt (t, u) = dq n R → t.natAbs ≤ (n * M) ^ n → u.natAbs ≤ PB ^ n → Same H H' → H' r = some (.tup [.int t, .int u]) → Q (.ref r) H'
def sp_plus : Sp := fun vs H Q _ => ∃ (p q : Addr) (f g : Int × Int), vs = [.ref p, .ref q] ∧ H p = some (.tup [.int f.1, .int f.2]) ∧ H q = some (.tup [.int g.1, .int g.2]) ∧ 0 < f.2 ∧ 0 < g.2 ∧ (Sz 4000 f.1 ∧ Sz 4000 f.2 ∧ Sz 4000 g.1 ∧ Sz 4000 g.2) ∧ ∀ (t u : Int) (r : Addr) H', Low (f.1 * g.2 + g.1 * f.2) (f.2 * g.2) t u → Same H H' → H' r = some (.tup [.int t, .int u]) → Q (.ref r) H'
def sp_times : Sp := fun vs H Q _ => ∃ (p q : Addr) (f g : Int × Int), vs = [.ref p, .ref q] ∧ H p = some (.tup [.int f.1, .int f.2]) ∧ H q = some (.tup [.int g.1, .int g.2]) ∧ 0 < f.2 ∧ 0 < g.2 ∧ (Sz 4000 f.1 ∧ Sz 4000 f.2 ∧ Sz 4000 g.1 ∧ Sz 4000 g.2) ∧ ∀ (t u : Int) (r : Addr) H', Low (f.1 * g.1) (f.2 * g.2) t u → Same H H' → H' r = some (.tup [.int t, .int u]) → Q (.ref r) H'
def Nb (f : Int × Int) : Prop := Lw f ∧ f.2 ≤ 6 ∧ Sz 61 f.1
def sp_number (K : PySem.W.Frag) : Sp := fun vs H Q _ => ∃ (a : Addr) (ns : List Int) (k : Int), vs = [.ref a, .int k] ∧ SqL K H a (ns.map V.int) ∧ 0 ≤ k ∧ k ≤ 1000 ∧ ∀ (t u : Int) (p : Addr) H', Nb (t, u) → Same H H' → H' p = some (.tup [.int t, .int u]) → Q (.ref p) H'
def sp_rows (K : PySem.W.Frag) : Sp := fun vs H Q _ => ∃ (a : Addr) (ns : List Int) (n : Nat), vs = [.ref a, .int (n : Int)] ∧ SqL K H a (ns.map V.int) ∧ n ≤ 8 ∧ ∀ (p : Addr) (as : List Addr) (R : List (List (Int × Int))) H', Same H H' → H p = none → FG H' p as R → R.length = n → (∀ fs ∈ R, fs.length = n ∧ ∀ f ∈ fs, Nb f) → Q (.ref p) H'
structure Md (f : Int × Int) : Prop where
  pos : 0 < f.2
  bot : Sz 30 f.2
  top : Sz 400 f.1
theorem Nb.md {f : Int × Int} (h : Nb f) : Md f := ⟨h.1.1, Sz.mono (m := 3) (by have := h.1.1; have := h.2.1; show f.2.natAbs < 8; omega) (by decide), h.2.2.mono (by decide)⟩
theorem pd_md : ∀ (fs : List (Int × Int)), (∀ f ∈ fs, Md f) → pd fs ≤ (2 ^ 30) ^ fs.length
  | [], _ => Nat.le_refl _
  | f :: fs, h => by
    rw [List.length_cons, Nat.pow_succ, Nat.mul_comm]
    exact Nat.mul_le_mul (Nat.le_of_lt (h f List.mem_cons_self).bot) (pd_md fs fun g hg => h g (List.mem_cons_of_mem _ hg))
theorem szd_of {n : Nat} {R : List (List (Int × Int))} (hn : n ≤ 6) (h : ∀ fs ∈ R, fs.length = n ∧ ∀ f ∈ fs, Md f) : SzD n R (2 ^ 600) (2 ^ 200) := by
  have pdl : ∀ fs ∈ R, pd fs ≤ 2 ^ 200 := fun fs hfs => by
    obtain ⟨h1, h2⟩ := h fs hfs
    refine Nat.le_trans (pd_md fs h2) ?_
    rw [← Nat.pow_mul]
    exact Nat.pow_le_pow_right (by decide) (by omega)
  refine ⟨Nat.one_le_two_pow, fun fs hfs f hf => ?_, ?_, Nat.one_le_two_pow, pdl, ?_, fun fs hfs => ⟨fun f hf => ((h fs hfs).2 f hf).pos, fun f hf => ((h fs hfs).2 f hf).top.mono (by decide), fun f hf => ((h fs hfs).2 f hf).bot.mono (by decide)⟩⟩
  · rw [show (600 : Nat) = 400 + 200 from rfl, Nat.pow_add]
    exact Nat.mul_le_mul (Nat.le_of_lt ((h fs hfs).2 f hf).top) (pdl fs hfs)
  · have h1 : (n + 1) * (2 * 2 ^ 600) ≤ 2 ^ 3 * (2 * 2 ^ 600) := Nat.mul_le_mul_right _ (by omega)
    have h2 : 2 ^ 3 * (2 * 2 ^ 600) = 2 ^ 604 := by rw [show 2 * 2 ^ 600 = 2 ^ 601 by rw [Nat.pow_succ]; omega, ← Nat.pow_add]
    rw [h2] at h1
    refine Nat.lt_of_le_of_lt (Nat.pow_le_pow_left h1 _) ?_
    rw [← Nat.pow_mul]
    exact Nat.pow_lt_pow_right (by decide) (by omega)
  · rw [← Nat.pow_mul]
    exact Nat.pow_lt_pow_right (by decide) (by omega)
theorem due_sz {n : Nat} {t u : Int} (hn : n ≤ 6) (h1 : t.natAbs ≤ (n * 2 ^ 600) ^ n) (h2 : u.natAbs ≤ (2 ^ 200) ^ n) : Sz 3700 t ∧ Sz 3700 u := by
  constructor
  · have h3 : n * 2 ^ 600 ≤ 2 ^ 3 * 2 ^ 600 := Nat.mul_le_mul_right _ (by omega)
    rw [← Nat.pow_add] at h3
    refine Nat.lt_of_le_of_lt (Nat.le_trans h1 (Nat.pow_le_pow_left h3 _)) ?_
    rw [← Nat.pow_mul]
    exact Nat.pow_lt_pow_right (by decide) (by omega)
  · refine Nat.lt_of_le_of_lt h2 ?_
    rw [← Nat.pow_mul]
    exact Nat.pow_lt_pow_right (by decide) (by omega)
theorem shaped_pair (f : Int × Int) : SeqAt.shaped (dPair f) = true := by
  unfold SeqAt.shaped dPair
  simp [PyData.canLay0, PyData.canLayAll0, PyData.depth, PyData.depthAll]
theorem eqv_pair (f g : Int × Int) : PyData.eqv (dPair f) (dPair g) = decide (f = g) := by
  have := eqv_pairs [f] [g]
  unfold dPairs at this
  simp [PyData.eqv, PyData.eqvAll] at this
  rw [this]
theorem rds_pair {H : Hp} {r : Addr} {f : Int × Int} (h : H r = some (.tup [.int f.1, .int f.2])) : Rds H (.ref r) (dPair f) := .tup h (.cons (.int _) (.cons (.int _) .nil))
def sp_steep (K : PySem.W.Frag) : Sp := fun vs H Q _ => ∃ (a : Addr) (ns : List Int) (n : Nat), vs = [.ref a, .int (n : Int)] ∧ SqL K H a (ns.map V.int) ∧ n ≤ 20 ∧ ∀ (r p : Addr) (as : List Addr) (L : List (List Int)) H', Same H H' → H p = none → Grid H' p as L → p ∉ as → Rect L n n → (∀ l ∈ L, ∀ x ∈ l, x.natAbs ≤ 3) → (∀ i j, j < i → i < n → mx L i j = 0) → H' r = some (.tup [.ref p, .int (pz n fun i => mx L i i)]) → (pz n fun i => mx L i i).natAbs ≤ 3 ^ n → Q (.ref r) H'
def sp_great (K : PySem.W.Frag) : Sp := fun vs H Q _ => ∃ (a : Addr) (ns : List Int), vs = [.ref a] ∧ SqL K H a (ns.map V.int) ∧ ∀ H', Same H H' → Q (.bl true) H'
def sp_law (K : PySem.W.Frag) : Sp := fun vs H Q _ => ∃ (a : Addr) (ns : List Int), vs = [.ref a] ∧ SqL K H a (ns.map V.int) ∧ ns.length ≤ 63 ∧ ∀ H', Q (.bl true) H'
end Toy
end
section
set_option Elab.async false
set_option linter.all false
set_option maxRecDepth 100000
set_option maxHeartbeats 4000000
namespace Toy
open PySem L2 Fr Gm Dt
local macro_rules | `(tactic| walk_at "rd1") => `(tactic| first
  | with_reducible refine r_seq ?_ | with_reducible refine r_asg ?_ | with_reducible refine r_gname ?_ | with_reducible refine r_op ?_ | with_reducible refine r_c ?_
  | ((with_reducible refine' r_var ?hv ?_); case' hv => exact rfl)
  | with_reducible refine r_rI0 ?_ | with_reducible refine r_un ?_ | with_reducible refine r_rU ?_ | with_reducible refine r_eqI ?_ | with_reducible refine r_neI ?_
  | with_reducible refine r_ret ?_ | with_reducible refine r_retN ?_ | with_reducible refine r_drop ?_ | with_reducible refine r_ifS ?_ | with_reducible refine r_test ?_ | with_reducible refine r_B ?_ | with_reducible refine r_bl ?_
  | with_reducible refine r_not ?_ | with_reducible refine r_and ?_ | with_reducible refine r_or ?_ | with_reducible refine r_andV ?_ | with_reducible refine r_orV ?_ | with_reducible refine r_notV ?_ | with_reducible refine r_ifE ?_
  | with_reducible refine r_nil ?_ | with_reducible refine r_cons ?_ | with_reducible refine r_call ?_ | with_reducible refine r_cb ?_ | with_reducible refine r_tup ?_ | with_reducible refine r_lst ?_ | with_reducible refine r_next ?_
  | with_reducible refine r_gcons ?_ | with_reducible refine r_gnil ?_ | with_reducible refine r_par ?_ | with_reducible refine ifT ?_ | with_reducible refine ifF ?_ | with_reducible refine ifNT ?_ | with_reducible refine ifNF ?_
  | ((with_reducible refine r_rI ?hc ?_); case' hc => walk_at "side")
  | ((with_reducible refine' r_ixT ?hp ?hi ?_); (case' hp => walk_at "seq"); (case' hi => exact rfl))
  | ((with_reducible refine' r_ixL ?hp ?hi ?_); (case' hp => walk_at "seq"); (case' hi => exact rfl))
  | ((with_reducible refine' r_gtup ?hp ?hi ?_); (case' hp => walk_at "seq"); (case' hi => exact rfl))
  | ((with_reducible refine And.intro ?hl ?_); case' hl => (first | exact sl2 | exact sl3))
  | with_reducible refine r_bm ?_ | with_reducible refine r_bm0 ?_ | with_reducible refine r_true ?_ | with_reducible refine r_isN ?_ | with_reducible refine r_notN ?_ | with_reducible refine r_raise ?_ | with_reducible refine r_tryAs ?_ | with_reducible refine r_dnotin ?_ | with_reducible refine r_din ?_ | with_reducible refine r_dput ?_ | with_reducible refine r_dget1 ?_ | with_reducible refine r_tryNo ?_
  | dsimp only)
local macro_rules | `(tactic| walk_at "rd") => `(tactic| repeat walk_at "rd1")
local macro_rules | `(tactic| walk_at "blk_vis") => `(tactic| first | exact Or.inl rfl | exact Or.inr (Or.inl rfl) | exact Or.inr (Or.inr rfl))
local macro_rules | `(tactic| walk_at "blk_ok") => `(tactic| exact ⟨rfl, by decide +kernel, by decide +kernel, rfl, by (first | exact trivial | exact ⟨rfl, trivial⟩ | exact ⟨rfl, rfl, trivial⟩ | exact ⟨rfl, rfl, rfl, trivial⟩ | exact ⟨rfl, rfl, rfl, rfl, trivial⟩), rfl,
  by (first | exact fm_nil | exact fm_cons ⟨rfl, by walk_at "blk_vis", rfl, rfl⟩ fm_nil | exact fm_cons ⟨rfl, by walk_at "blk_vis", rfl, rfl⟩ (fm_cons ⟨rfl, by walk_at "blk_vis", rfl, rfl⟩ fm_nil) | exact fm_cons ⟨rfl, by walk_at "blk_vis", rfl, rfl⟩ (fm_cons ⟨rfl, by walk_at "blk_vis", rfl, rfl⟩ (fm_cons ⟨rfl, by walk_at "blk_vis", rfl, rfl⟩ fm_nil))),
  by (first | exact fm_nil | exact fm_cons rfl fm_nil | exact fm_cons rfl (fm_cons rfl fm_nil) | exact fm_cons rfl (fm_cons rfl (fm_cons rfl fm_nil)))⟩)
local macro_rules | `(tactic| walk_at "blk_ok1") => `(tactic| exact ⟨rfl, fun _ => rfl, fun _ => rfl, by decide +kernel, rfl, by (first | exact trivial | exact ⟨rfl, trivial⟩ | exact ⟨rfl, rfl, trivial⟩ | exact ⟨rfl, rfl, rfl, trivial⟩ | exact ⟨rfl, rfl, rfl, rfl, trivial⟩), rfl,
  by (first | exact fm_nil | exact fm_cons ⟨rfl, by walk_at "blk_vis", ⟨rfl, rfl⟩, rfl⟩ fm_nil | exact fm_cons ⟨rfl, by walk_at "blk_vis", ⟨rfl, rfl⟩, rfl⟩ (fm_cons ⟨rfl, by walk_at "blk_vis", ⟨rfl, rfl⟩, rfl⟩ fm_nil) | exact fm_cons ⟨rfl, by walk_at "blk_vis", ⟨rfl, rfl⟩, rfl⟩ (fm_cons ⟨rfl, by walk_at "blk_vis", ⟨rfl, rfl⟩, rfl⟩ (fm_cons ⟨rfl, by walk_at "blk_vis", ⟨rfl, rfl⟩, rfl⟩ fm_nil))),
  by (first | exact fm_nil | exact fm_cons rfl fm_nil | exact fm_cons rfl (fm_cons rfl fm_nil) | exact fm_cons rfl (fm_cons rfl (fm_cons rfl fm_nil)))⟩)
local macro_rules | `(tactic| walk_at "side") => `(tactic| first | assumption | exact (show (0 : Int) < _ by decide) | exact cfp_lit (by decide) (by decide) | exact cfp_big (by decide) (by decide) | exact mulL (by decide) (by decide))
local macro_rules | `(tactic| walk_at "seq") => `(tactic| first | assumption | exact SqT.of (by assumption))
section
variable {P : Program} {w : World} {K : PySem.W.Frag} {mg : Str → Option Value} {base : Heap} {Z : Adr}
theorem sc_common_divisor : FnScope ["one", "other", "great", "small", "rest"] ["one", "other"] (defScope s_common_divisor) := ⟨rfl, rfl, rfl, by decide +kernel, rfl, by decide +kernel, by decide +kernel⟩
theorem ok_common_divisor (D : Def K mg "common_divisor" s_common_divisor ["one", "other"]) (T : Txt K mg Z) : Has P w K mg base (CXe P w) "common_divisor" 1 ["one", "other"] sp_gcd := by
  refine D.hasN sc_common_divisor (fun vs H Q E h => ?_) (fun f cdv A outer s H vs Q E hr h => ?_)
  · obtain ⟨a, b, rfl, _⟩ := h; rfl
  · obtain ⟨a, b, rfl, q⟩ := h
    refine ⟨_, (pss_cons (ps_set (i := 2) sc_common_divisor.nd rfl (by first | exact Or.inl rfl | exact Or.inr rfl) (pe_callB call_abs (by rfl) T.abs bt_abs (pa_cons (pv 0) pa_nil)))
      (pss_cons (ps_set (i := 3) sc_common_divisor.nd rfl (by first | exact Or.inl rfl | exact Or.inr rfl) (pe_callB call_abs (by rfl) T.abs bt_abs (pa_cons (pv 1) pa_nil)))
      (pss_cons (ps_while PassesOwn.never (pt_cmpR op_ne (pv 3) pe_int (nomark _)) (pss_cons (ps_set (i := 4) sc_common_divisor.nd rfl (by first | exact Or.inl rfl | exact Or.inr rfl) (pe_op op_mod (pv 2) (pv 3)))
      (pss_cons (ps_set (i := 2) sc_common_divisor.nd rfl (by first | exact Or.inl rfl | exact Or.inr rfl) (pv 3))
      (pss_one (ps_set (i := 3) sc_common_divisor.nd rfl (by first | exact Or.inl rfl | exact Or.inr rfl) (pv 4))))))
      (pss_one (ps_ret (pv 2)))))), ?_⟩
    refine ⟨_, rfl, a, rfl, _, rfl, b, rfl, ?_⟩
    refine while_W (fun σ H' => ∃ (x y : Int) (r : Option V), σ = [some (.int a), some (.int b), some (.int x), some (.int y), r] ∧ H' = H ∧ 0 ≤ x ∧ 0 ≤ y ∧ Int.gcd x y = Int.gcd a b)
      (fun σ _ => match σ with | [_, _, _, some (.int y), _] => y.toNat | _ => 0) ⟨_, _, _, rfl, rfl, by split <;> omega, by split <;> omega, gcd_abs a b⟩ ?_
    · rintro σ H' ⟨x, y, r, rfl, rfl, hx, hy, hg⟩
      refine ⟨_, rfl, rfl, _, rfl, ?_⟩
      rw [dec_int, Bool.beq_eq_decide_eq]
      refine if2n (fun hz => ?_) (fun hz => ?_)
      · have hp : 0 < y := by omega
        refine w_turn ?_
        refine ⟨_, rfl, _, rfl, _, _, rfl, rfl, hp, _, rfl, _, rfl, ⟨_, _, _, rfl, rfl, hy, Int.emod_nonneg _ hz, ?_⟩, ?_⟩
        · rw [gcd_step x y hx hp, hg]
        · show (x % y).toNat < y.toNat
          have := Int.emod_lt_of_pos x hp
          omega
      · subst hz
        refine ⟨_, rfl, ?_⟩
        rw [← hg, gcd_end x hx] at q
        exact q
theorem sc__law_cell_at : FnScope ["_law_script", "_law_k"] ["_law_script", "_law_k"] (defScope s__law_cell_at) := ⟨rfl, rfl, rfl, by decide +kernel, rfl, by decide +kernel, by decide +kernel⟩
theorem ok__law_cell_at (D : Def K mg "_law_cell_at" s__law_cell_at ["_law_script", "_law_k"]) (T : Txt K mg Z) : Has P w K mg base (CXe P w) "_law_cell_at" 1 ["_law_script", "_law_k"] (sp_cell K) := by
  refine D.hasN sc__law_cell_at (fun vs H Q E h => ?_) (fun f cdv A outer s H vs Q E hr h => ?_)
  · obtain ⟨a, ns, k, rfl, _⟩ := h; rfl
  · obtain ⟨a, ns, k, rfl, hS, hk, q⟩ := h
    refine ⟨_, (pss_cons (ps_if (pt_cmpR op_lt (pv 1) (pe_callB call_len (by rfl) T.len bt_len (pa_cons (pv 0) pa_nil)) (nomark _)) (pss_one (ps_ret (pe_ix ix_list (pv 0) (pv 1) (fun _ _ => rfl)))) pss_nil)
      (pss_one (ps_ret pe_int))), ?_⟩
    dsimp only [cx_K]
    walk_at "rd"
    refine ⟨_, _, rfl, .inl ⟨_, hS, rfl⟩, ?_⟩
    walk_at "rd"
    refine if2 (fun hlt => ?_) (fun hlt => ?_)
    · walk_at "rd"
      obtain ⟨j, rfl⟩ := Int.eq_ofNat_of_zero_le hk
      have hj : j < ns.length := by rw [List.length_map] at hlt; omega
      refine r_ixL hS (atI_nat (j := j) (v := V.int ns[j]) (by simp [hj])) ?_
      exact q _
    · walk_at "rd"
      exact q _
theorem sc__law_divisor : FnScope ["_law_one", "_law_other"] ["_law_one", "_law_other"] (defScope s__law_divisor) := ⟨rfl, rfl, rfl, by decide +kernel, rfl, by decide +kernel, by decide +kernel⟩
theorem ok__law_divisor (D : Def K mg "_law_divisor" s__law_divisor ["_law_one", "_law_other"]) (T : Txt K mg Z) : Has P w K mg base (CXe P w) "_law_divisor" 1 ["_law_one", "_law_other"] sp_gcd := by
  refine D.hasN sc__law_divisor (fun vs H Q E h => ?_) (fun f cdv A outer s H vs Q E hr h => ?_)
  · obtain ⟨a, b, rfl, _⟩ := h; rfl
  · obtain ⟨a, b, rfl, q⟩ := h
    refine ⟨_, (pss_cons (ps_set (i := 0) sc__law_divisor.nd rfl (by first | exact Or.inl rfl | exact Or.inr rfl) (pe_callB call_abs (by rfl) T.abs bt_abs (pa_cons (pv 0) pa_nil)))
      (pss_cons (ps_set (i := 1) sc__law_divisor.nd rfl (by first | exact Or.inl rfl | exact Or.inr rfl) (pe_callB call_abs (by rfl) T.abs bt_abs (pa_cons (pv 1) pa_nil)))
      (pss_cons (ps_while PassesOwn.never (pt_cmpR op_gt (pv 1) pe_int (nomark _)) (pss_one (ps_par (i := 0) (j := 1) rfl sc__law_divisor.nd rfl rfl (by decide) rfl rfl (pa_cons (pv 1) (pa_cons (pe_op op_mod (pv 0) (pv 1)) pa_nil)) rfl)))
      (pss_one (ps_ret (pv 0)))))), ?_⟩
    refine ⟨_, rfl, a, rfl, _, rfl, b, rfl, ?_⟩
    refine while_W (fun σ H' => ∃ (x y : Int), σ = [some (.int x), some (.int y)] ∧ H' = H ∧ 0 ≤ x ∧ 0 ≤ y ∧ Int.gcd x y = Int.gcd a b)
      (fun σ _ => match σ with | [_, some (.int y)] => y.toNat | _ => 0) ⟨_, _, rfl, rfl, by split <;> omega, by split <;> omega, gcd_abs a b⟩ ?_
    rintro σ H' ⟨x, y, rfl, rfl, hx, hy, hg⟩
    walk_at "rd"
    refine if2 (fun hp => ?_) (fun hz => ?_)
    · refine w_turn ?_
      walk_at "rd"
      refine ⟨_, _, rfl, ⟨_, _, rfl, rfl, hy, Int.emod_nonneg _ (by omega), ?_⟩, ?_⟩
      · rw [gcd_step x y hx hp, hg]
      · show (x % y).toNat < y.toNat
        have := Int.emod_lt_of_pos x hp
        omega
    · have hz : y = 0 := by omega
      subst hz
      walk_at "rd"
      rw [← hg, gcd_end x hx] at q
      exact q
theorem sc__law_lowest : FnScope ["_law_top", "_law_bottom", "_law_by"] ["_law_top", "_law_bottom"] (defScope s__law_lowest) := ⟨rfl, rfl, rfl, by decide +kernel, rfl, by decide +kernel, by decide +kernel⟩
theorem ok__law_lowest (D : Def K mg "_law_lowest" s__law_lowest ["_law_top", "_law_bottom"]) (T : Txt K mg Z) (h__law_divisor : Has P w K mg base (CXe P w) "_law_divisor" 1 ["_law_one", "_law_other"] sp_gcd) : Has P w K mg base (CXe P w) "_law_lowest" 2 ["_law_top", "_law_bottom"] sp_ratio := by
  refine D.hasN sc__law_lowest (fun vs H Q E h => ?_) (fun f cdv A outer s H vs Q E hr h => ?_)
  · obtain ⟨a, b, rfl, _⟩ := h; rfl
  · obtain ⟨a, b, rfl, hb, hz, q⟩ := h
    have c1 : CFd a _ := cfd_g (a := a) hb hz
    have c2 : CFd b _ := cfd_g (a := a) hb hz
    have c3 : CFd a (0 - ((Int.gcd a b : Nat) : Int)) := by rw [Int.zero_sub]; exact cfd_n c1
    have c4 : CFd b (0 - ((Int.gcd a b : Nat) : Int)) := by rw [Int.zero_sub]; exact cfd_n c2
    refine ⟨_, (pss_cons (ps_set (i := 2) sc__law_lowest.nd rfl (by first | exact Or.inl rfl | exact Or.inr rfl) (pe_callH h__law_divisor hr passN (pa_cons (pv 0) (pa_cons (pv 1) pa_nil))))
      (pss_cons (ps_if (pt_cmpR op_lt (pv 1) pe_int (nomark _)) (pss_one (ps_set (i := 2) sc__law_lowest.nd rfl (by first | exact Or.inl rfl | exact Or.inr rfl) (pe_op op_sub pe_int (pv 2)))) pss_nil)
      (pss_one (ps_ret (pe_tup (pa_cons (pe_op op_fdn (pv 0) (pv 2)) (pa_cons (pe_op op_fdn (pv 1) (pv 2)) pa_nil))))))), ?_⟩
    walk_at "rd"
    refine ⟨a, b, rfl, ?_⟩
    walk_at "rd"
    refine if2 (fun hneg => ?_) (fun hneg => ?_)
    · walk_at "rd"
      intro p hp
      exact q _ _ p _ (low_of hb (by rw [if_pos hneg, Int.zero_sub])) (Same.upd hp) upd_same
    · walk_at "rd"
      intro p hp
      exact q _ _ p _ (low_of hb (by rw [if_neg hneg])) (Same.upd hp) upd_same
theorem sc_ratio : FnScope ["top", "bottom", "divisor"] ["top", "bottom"] (defScope s_ratio) := ⟨rfl, rfl, rfl, by decide +kernel, rfl, by decide +kernel, by decide +kernel⟩
theorem ok_ratio (D : Def K mg "ratio" s_ratio ["top", "bottom"]) (T : Txt K mg Z) (h_common_divisor : Has P w K mg base (CXe P w) "common_divisor" 1 ["one", "other"] sp_gcd) : Has P w K mg base (CXe P w) "ratio" 2 ["top", "bottom"] sp_ratio := by
  refine D.hasN sc_ratio (fun vs H Q E h => ?_) (fun f cdv A outer s H vs Q E hr h => ?_)
  · obtain ⟨a, b, rfl, _⟩ := h; rfl
  · obtain ⟨a, b, rfl, hb, hz, q⟩ := h
    refine ⟨_, (pss_cons (ps_if (pt_cmpR op_eq (pv 1) pe_int (nomark _)) (pss_one ps_never) pss_nil)
      (pss_cons (ps_set (i := 2) sc_ratio.nd rfl (by first | exact Or.inl rfl | exact Or.inr rfl) (pe_callH h_common_divisor hr passN (pa_cons (pv 0) (pa_cons (pv 1) pa_nil))))
      (pss_cons (ps_if (pt_cmpR op_lt (pv 1) pe_int (nomark _)) (pss_one (ps_set (i := 2) sc_ratio.nd rfl (by first | exact Or.inl rfl | exact Or.inr rfl) (pe_un un_neg (pv 2)))) pss_nil)
      (pss_one (ps_ret (pe_tup (pa_cons (pe_op op_fdn (pv 0) (pv 2)) (pa_cons (pe_op op_fdn (pv 1) (pv 2)) pa_nil)))))))), ?_⟩
    walk_at "rd"
    refine if2 (fun e => absurd e hb) (fun _ => ?_)
    have c1 : CFd a _ := cfd_g (a := a) hb hz
    have c2 : CFd b _ := cfd_g (a := a) hb hz
    have c3 := cfd_n c1
    have c4 := cfd_n c2
    walk_at "rd"
    refine ⟨a, b, rfl, ?_⟩
    walk_at "rd"
    refine if2 (fun hneg => ?_) (fun hneg => ?_)
    · walk_at "rd"
      intro p hp
      exact q _ _ p _ (low_of hb (by rw [if_pos hneg])) (Same.upd hp) upd_same
    · walk_at "rd"
      intro p hp
      exact q _ _ p _ (low_of hb (by rw [if_neg hneg])) (Same.upd hp) upd_same
theorem sc_common_bottom : FnScope ["row", "bottom", "number"] ["row"] (defScope s_common_bottom) := ⟨rfl, rfl, rfl, by decide +kernel, rfl, by decide +kernel, by decide +kernel⟩
theorem ok_common_bottom (D : Def K mg "common_bottom" s_common_bottom ["row"]) (T : Txt K mg Z) (h_common_divisor : Has P w K mg base (CXe P w) "common_divisor" 1 ["one", "other"] sp_gcd) : Has P w K mg base (CXe P w) "common_bottom" 2 ["row"] sp_bottom := by
  refine D.hasN sc_common_bottom (fun vs H Q E h => ?_) (fun f cdv A outer s H vs Q E hr h => ?_)
  · obtain ⟨a, ps, fs, z, rfl, _⟩ := h; rfl
  · obtain ⟨a, ps, fs, z, rfl, ha, pr, fq, hz, hl, q⟩ := h
    refine ⟨_, (pss_cons (ps_set (i := 1) sc_common_bottom.nd rfl (by first | exact Or.inl rfl | exact Or.inr rfl) pe_int)
      (pss_cons (ps_for PassesOwn.never rfl (pi_list (pv 0)) (pg_name (i := 2) sc_common_bottom.nd rfl (by first | exact Or.inl rfl | exact Or.inr rfl))
      (pss_one (ps_set (i := 1) sc_common_bottom.nd rfl (by first | exact Or.inl rfl | exact Or.inr rfl) (pe_op op_mulS (pe_op op_fdp (pv 1) (pe_callH h_common_divisor hr passN (pa_cons (pv 1) (pa_cons (pe_ix ix_tup (pv 2) pe_int (fun _ _ => rfl)) pa_nil)))) (pe_ix ix_tup (pv 2) pe_int (fun _ _ => rfl))))))
      (pss_one (ps_ret (pv 1))))), ?_⟩
    dsimp only [cx_K]
    walk_at "rd"
    refine r_for ?_
    refine ⟨_, rfl, a, rfl, ⟨_, SqL.of ha⟩, for_list (K := K) (a := a) (xs := ps.map V.ref) (fun i σ H1 => ∃ (b : Int) (v : Option V), σ = [some (.ref a), some (.int b), v] ∧ b = lcF (fs.take i) ∧ H1 = H ∧ 0 < b ∧ (∀ f ∈ fs.take i, f.2 ∣ b) ∧ b.natAbs ≤ pd (fs.take i) ∧ Sz (z * i + 1) b) ⟨1, none, rfl, by simp [lcF], rfl, by decide, by simp, by simp [pd], by unfold Sz; exact Nat.one_lt_two_pow (by omega)⟩ (fun i σ H1 _ ⟨_, _, _, _, e, _⟩ => by rw [e]; exact SqL.of ha) ?_ ?_⟩
    · rintro i x σ H1 hx ⟨b, v, rfl, eb, rfl, b0, bd, bp, bz⟩
      rw [List.getElem?_map] at hx
      obtain ⟨c, hc, rfl⟩ : ∃ c, ps[i]? = some c ∧ x = V.ref c := by
        cases e : ps[i]? with
        | none => rw [e] at hx; cases hx
        | some c => rw [e] at hx; exact ⟨c, rfl, (Option.some.inj hx).symm⟩
      obtain ⟨fr, hf, hfr⟩ := pr.at hc
      have fm := List.mem_of_getElem? hf
      have u0 := fq.pos fr fm
      have uz := fq.bot fr fm
      obtain ⟨n0, n1, n2, n3⟩ := lcm_next b0 u0
      have g0 := gcd_pos b (show fr.2 ≠ 0 by omega)
      have gz : CFp b ((Int.gcd b fr.2 : Nat) : Int) := ⟨by omega, Sz.le (uz.mono hz) (by have := Int.gcd_le_natAbs_right b (show fr.2 ≠ 0 by omega); simpa using this)⟩
      have mz : IntMulOk (b / ((Int.gcd b fr.2 : Nat) : Int)) fr.2 := Sz.mulOk (m := 10000000) (n := 9000) (Sz.mono (Sz.le bz (by
        have : (b / ((Int.gcd b fr.2 : Nat) : Int)).natAbs ≤ b.natAbs := by
          have e1 := Int.ediv_nonneg (show 0 ≤ b by omega) (show 0 ≤ ((Int.gcd b fr.2 : Nat) : Int) by omega)
          have e2 := Int.ediv_le_self ((Int.gcd b fr.2 : Nat) : Int) (show 0 ≤ b by omega)
          omega
        exact this)) (by
          have hi := (List.getElem?_eq_some_iff.mp hf).1
          have : z * i ≤ 9000 * 1000 := Nat.mul_le_mul hz (by omega)
          omega)) (uz.mono hz)
      walk_at "rd"
      refine ⟨b, fr.2, rfl, ?_⟩
      walk_at "rd"
      refine ⟨_, _, rfl, by rw [take_snoc hf, lcF_snoc, ← eb], rfl, n0, fun f hf2 => ?_, ?_, ?_⟩
      · rw [take_snoc hf] at hf2
        rcases List.mem_append.mp hf2 with y | y
        · exact Int.dvd_trans (bd f y) n1
        · rw [List.mem_singleton.mp y]; exact n2
      · rw [take_snoc hf, pd_append, pd_one]
        exact Nat.le_trans n3 (Nat.mul_le_mul_right _ bp)
      · have := Sz.mul bz uz
        refine Sz.mono (Sz.le this (by rw [Int.natAbs_mul b]; exact n3)) ?_
        rw [Nat.mul_succ]
        omega
    · rintro σ H1 ⟨b, v, rfl, eb, rfl, b0, bd, bp, bz⟩
      have pl := pr.len
      rw [List.length_map, pl, List.take_length] at bd bp eb
      subst eb
      walk_at "rd"
      exact q b0 bd bp
theorem sc_made_whole : FnScope ["row", "bottom"] ["row"] (defScope s_made_whole) := ⟨rfl, rfl, rfl, by decide +kernel, rfl, by decide +kernel, by decide +kernel⟩
theorem ok_made_whole (D : Def K mg "made_whole" s_made_whole ["row"]) (T : Txt K mg Z) (h_common_bottom : Has P w K mg base (CXe P w) "common_bottom" 2 ["row"] sp_bottom) : Has P w K mg base (CXe P w) "made_whole" 3 ["row"] sp_made := by
  refine D.hasN sc_made_whole (fun vs H Q E h => ?_) (fun f cdv A outer s H vs Q E hr h => ?_)
  · obtain ⟨a, ps, fs, z, rfl, _⟩ := h; rfl
  · obtain ⟨a, ps, fs, z, rfl, ha, pr, fq, hz, hl, q⟩ := h
    have pl := pr.len
    refine ⟨_, (pss_cons (ps_set (i := 1) sc_made_whole.nd rfl (by first | exact Or.inl rfl | exact Or.inr rfl) (pe_callH h_common_bottom hr passN (pa_cons (pv 0) pa_nil)))
      (pss_one (ps_ret (pe_comp (tg := ["number"]) (fr := [("bottom", 1)]) (by walk_at "blk_ok") rfl (pi_list (pv 0)) (fun _ _ _ _ _ => (pg_name (i := 0) (show [("number" : Str), ("bottom" : Str)].Nodup by decide +kernel) rfl (by first | exact Or.inl rfl | exact Or.inr rfl))) (fun _ _ _ _ _ => pifs_nil) (fun _ _ _ _ _ => (pe_op op_mulS (pe_ix (ix_tupK (K := K) rfl) (pv 0) pe_int (fun _ _ => rfl)) (pe_op op_fdp (pv 1) (pe_ix (ix_tupK (K := K) rfl) (pv 0) pe_int (fun _ _ => rfl))))))))), ?_⟩
    dsimp only [cx_K]
    walk_at "rd"
    refine ⟨a, ps, fs, z, rfl, ha, pr, fq, hz, hl, fun b0 bd bp => ?_⟩
    obtain ⟨b, hb⟩ : ∃ b, lcF fs = b := ⟨_, rfl⟩
    rw [hb] at b0 bd bp ⊢
    walk_at "rd"
    refine r_comp ?_
    refine ⟨_, rfl, a, rfl, ⟨_, SqL.of ha⟩, fun acc hacc => ?_⟩
    refine comp_list (K := K) (a := a) (xs := ps.map V.ref) (fun i σ' ys H1 => ∃ (l : List Int) (v : Option V), σ' = [v, some (.int b)] ∧ ys = l.map V.int ∧ Same H H1 ∧ H1 acc = some (.lst ys) ∧ Wh (fs.take i) b l)
      ⟨[], none, rfl, rfl, Same.upd hacc, upd_same, ⟨b0, by simp, fun i f x h1 => by simp at h1⟩⟩ (fun i σ' ys H1 _ ⟨_, _, _, _, e, _⟩ => SqL.of (e _ _ ha)) ?_ ?_
    · rintro i x σ' ys H1 hx hi ⟨l, v, rfl, rfl, e1, a1, wh⟩
      rw [List.getElem?_map] at hx
      obtain ⟨c, hc, rfl⟩ : ∃ c, ps[i]? = some c ∧ x = V.ref c := by
        cases e : ps[i]? with
        | none => rw [e] at hx; cases hx
        | some c => rw [e] at hx; exact ⟨c, rfl, (Option.some.inj hx).symm⟩
      obtain ⟨fr, hf, hfr⟩ := pr.at hc
      have hi2 := (List.getElem?_eq_some_iff.mp hf).1
      have fm := List.mem_of_getElem? hf
      have u0 := fq.pos fr fm
      have uz := fq.bot fr fm
      have tz := fq.top fr fm
      obtain ⟨y, hy⟩ := bd fr fm
      have ey : b / fr.2 = y := by rw [hy]; exact Int.mul_ediv_cancel_left _ (by omega)
      have ll : l.length = i := by rw [wh.len, List.length_take]; omega
      have gz : CFp b fr.2 := ⟨u0, uz.mono hz⟩
      have mz : IntMulOk fr.1 (b / fr.2) := by
        rw [ey]
        refine Sz.mulOk (m := 9000) (n := 10000000) (tz.mono hz) ?_
        have hy2 : y.natAbs ≤ pd fs := Nat.le_trans (by rw [hy, Int.natAbs_mul]; exact Nat.le_mul_of_pos_left _ (by omega)) bp
        have hpd : ∀ gs : List (Int × Int), (∀ f ∈ gs, Sz z f.2) → pd gs ≤ 2 ^ (z * gs.length) := fun gs => by
          induction gs with
          | nil => intro _; exact Nat.le_refl _
          | cons g gs ih =>
            intro h
            rw [List.length_cons, Nat.mul_succ, Nat.add_comm, Nat.pow_add]
            exact Nat.mul_le_mul (Nat.le_of_lt (h g List.mem_cons_self)) (ih fun f hf => h f (List.mem_cons_of_mem _ hf))
        have h2 := hpd fs fq.bot
        have h3 : z * fs.length < 10000000 := Nat.lt_of_le_of_lt (Nat.mul_le_mul hz hl) (by decide)
        exact Nat.lt_of_le_of_lt (Nat.le_trans hy2 h2) (Nat.pow_lt_pow_right (by decide) h3)
      have hfr1 := e1 _ _ hfr
      walk_at "rd"
      refine ⟨a1, by rw [List.length_map, ll]; exact small_line (by omega), cturn hi ⟨l ++ [fr.1 * (b / fr.2)], _, rfl, by rw [List.map_append]; rfl, Same.fresh e1 hacc, upd_same, ⟨b0, ?_, fun j g x h1 h2 => ?_⟩⟩⟩
      · rw [List.length_append, ll, List.length_take, List.length_singleton]; omega
      · rw [take_snoc hf] at h1
        by_cases zz : j < i
        · rw [List.getElem?_append_left (by rw [List.length_take]; omega)] at h1
          rw [List.getElem?_append_left (by omega)] at h2
          exact wh.eq j g x h1 h2
        · have jl := (List.getElem?_eq_some_iff.mp h2).1
          rw [List.length_append, List.length_singleton] at jl
          have ej : j = i := by omega
          subst ej
          rw [List.getElem?_append_right (by rw [List.length_take]; omega), List.length_take, Nat.min_eq_left (by omega), Nat.sub_self] at h1
          rw [List.getElem?_append_right (by omega), ll, Nat.sub_self] at h2
          cases h1
          cases h2
          rw [ey, hy]
          grind
    · rintro σ' ys H1 ⟨l, v, rfl, rfl, e1, a1, wh⟩
      rw [List.length_map, pl, List.take_length] at wh
      walk_at "rd"
      subst hb
      exact q acc l H1 e1 hacc a1 wh bp
theorem sc_led : FnScope ["rows", "column", "first", "row", "joined"] ["rows", "column"] (defScope s_led) := ⟨rfl, rfl, rfl, by decide +kernel, rfl, by decide +kernel, by decide +kernel⟩
theorem ok_led (D : Def K mg "led" s_led ["rows", "column"]) (T : Txt K mg Z) : Has P w K mg base (CXe P w) "led" 1 ["rows", "column"] (sp_led Z.NoOne) := by
  refine D.hasE sc_led (fun vs H Q E h => ?_) (fun f cdv A outer s H vs Q E hr h => ?_)
  · obtain ⟨p, as, L, n, m, c, rfl, _⟩ := h; rfl
  · obtain ⟨p, as, L, n, m, c, rfl, g, rc, hc, hcm, hn, hm, q, qe⟩ := h
    have gl := g.len
    have rl := rc.len
    obtain ⟨b, l, hb, hl, hrow⟩ := g.at (i := c) (by omega)
    have ll := rc.row l (List.mem_of_getElem? hl)
    obtain ⟨x, hx⟩ : ∃ x, l[c]? = some x := ⟨l[c], by simp [show c < l.length by omega]⟩
    have ex := mx_eq hl hx
    have aix : atI (l.map V.int) ((c : Nat) : Int) = some (V.int x) := atI_nat (by rw [List.getElem?_map, hx]; rfl)
    refine ⟨_, (pss_cons (ps_set (i := 2) sc_led.nd rfl (by first | exact Or.inl rfl | exact Or.inr rfl) (pe_ix ix_list (pv 0) (pv 1) (fun _ _ => rfl)))
      (pss_cons (ps_if (pt_cmpR op_ne (pe_ix ix_list (pv 2) (pv 1) (fun _ _ => rfl)) pe_int (nomark _)) (pss_one (ps_ret (pv 0))) pss_nil)
      (pss_cons (ps_for PassesOwn.leaving rfl (pi_list (pe_slice sl_list (pv 0) (po_some (pe_op op_add (pv 1) pe_int)) po_none)) (pg_name (i := 3) sc_led.nd rfl (by first | exact Or.inl rfl | exact Or.inr rfl))
      (pss_one (ps_if (pt_cmpR op_ne (pe_ix ix_list (pv 3) (pv 1) (fun _ _ => rfl)) pe_int (nomark _)) (pss_cons (ps_setC (i := 4) sc_led.nd rfl (by first | exact Or.inl rfl | exact Or.inr rfl) (tg := ["one", "other"]) (fr := []) (by walk_at "blk_ok") rfl (pi_zip T.zip (pa_cons (pv 2) (pa_cons (pv 3) pa_nil))) (fun _ _ _ _ _ => (pg_tupK (K := K) rfl (n := 2) rfl (pgs_cons (pg_name (i := 0) (show [("one" : Str), ("other" : Str)].Nodup by decide +kernel) rfl (by first | exact Or.inl rfl | exact Or.inr rfl)) (pgs_cons (pg_name (i := 1) (show [("one" : Str), ("other" : Str)].Nodup by decide +kernel) rfl (by first | exact Or.inl rfl | exact Or.inr rfl)) pgs_nil)))) (fun _ _ _ _ _ => pifs_nil) (fun _ _ _ _ _ => (pe_op op_add (pv 0) (pv 1))))
      (pss_one (ps_ret (pe_op op_cat (pe_op op_cat (pe_slice sl_list (pv 0) po_none (po_some (pv 1))) (pe_lst (pa_cons (pv 4) pa_nil))) (pe_slice sl_list (pv 0) (po_some (pe_op op_add (pv 1) pe_int)) po_none))))) pss_nil)))
      (pss_one (ps_raise PySem.F.excBase_ValueError T.x_NoOne T.c_NoOne rfl (pa_cons pe_str pa_nil) raiseE))))), ?_⟩
    dsimp only [cx_K]
    walk_at "rd"
    refine r_ixL (SqL.of g.top) (g.ix hb) ?_
    walk_at "rd"
    refine r_ixL (SqL.of hrow) aix ?_
    walk_at "rd"
    refine if2n (fun z => ?_) (fun z => ?_)
    · walk_at "rd"
      exact q p as L H (fun _ _ e => e) g (.inl ⟨rfl, by rw [ex]; exact z⟩)
    · walk_at "rd"
      refine r_for ?_
      refine r_iList ?_
      refine r_dropS (a := p) (i := 0) (k := 1) (n := c) rfl rfl (SqL.of g.top) (by rw [List.length_map]; omega) fun p1 hp1 => ?_
      rw [← List.map_drop]
      have e1 : Same H (upd H p1 (.lst ((as.drop (c + 1)).map V.ref))) := Same.upd hp1
      have g1 := g.dropped (c + 1) hp1
      generalize upd H p1 (.lst ((as.drop (c + 1)).map V.ref)) = H1 at e1 g1 ⊢
      refine ⟨p1, rfl, ⟨_, SqL.of g1.top⟩, for_list (K := K) (a := p1) (xs := (as.drop (c + 1)).map V.ref) (fun i σ H2 => ∃ v3 v4 : Option V, σ = [some (.ref p), some (.int (c : Int)), some (.ref b), v3, v4] ∧ Same H1 H2 ∧ ∀ r, c < r → r < c + 1 + i → mx L r c = 0) ⟨none, none, rfl, fun _ _ e => e, fun r h1 h2 => by omega⟩ (fun i σ H2 _ ⟨_, _, _, e, _⟩ => SqL.of (e _ _ g1.top)) ?_ ?_⟩
      · rintro i y σ H2 hy ⟨v3, v4, rfl, e2, no⟩
        obtain ⟨d, hd, rfl⟩ := ref_at hy
        rw [List.getElem?_drop] at hd
        have hi : c + 1 + i < n := by have := (List.getElem?_eq_some_iff.mp hd).1; omega
        obtain ⟨d2, r, hd2, hr0, hrr⟩ := g.at (i := c + 1 + i) (by omega)
        rw [hd] at hd2
        cases hd2
        have rlen := rc.row r (List.mem_of_getElem? hr0)
        obtain ⟨xr, hxr⟩ : ∃ x, r[c]? = some x := ⟨r[c], by simp [show c < r.length by omega]⟩
        have er := mx_eq hr0 hxr
        have rix : atI (r.map V.int) ((c : Nat) : Int) = some (V.int xr) := atI_nat (by rw [List.getElem?_map, hxr]; rfl)
        have e02 := e1.trans e2
        walk_at "rd"
        refine r_ixL (SqL.of (e02 _ _ hrr)) rix ?_
        walk_at "rd"
        refine if2n (fun z2 => ?_) (fun z2 => ?_)
        · walk_at "rd"
          refine r_comp ?_
          refine ⟨_, rfl, _, rfl, b, d, rfl, ⟨_, SqL.of (e02 _ _ hrow)⟩, ⟨_, SqL.of (e02 _ _ hrr)⟩, fun acc hacc => ?_⟩
          refine comp_zip (K := K) (a := b) (b := d) (xs := l.map V.int) (ys := r.map V.int) (n := m) (by rw [List.length_map, List.length_map]; omega) (fun i σ' zs H3 => ∃ v1 v2 : Option V, σ' = [v1, v2] ∧ zs = ((List.zipWith (· + ·) l r).take i).map V.int ∧ Same H2 H3 ∧ H3 acc = some (.lst zs))
            ⟨none, none, rfl, rfl, Same.upd hacc, upd_same⟩ (fun i σ' zs H3 _ ⟨_, _, _, _, e, _⟩ => ⟨SqL.of (e _ _ (e02 _ _ hrow)), SqL.of (e _ _ (e02 _ _ hrr))⟩) ?_ ?_
          · rintro j x1 y1 pr σ' zs H3 hx1 hy1 hj ⟨v1, v2, rfl, rfl, e3, a3⟩ hpr
            obtain ⟨x1, hx2, rfl⟩ := int_at hx1
            obtain ⟨y1, hy2, rfl⟩ := int_at hy1
            have e4 : Same H3 (upd H3 pr (.tup [.int x1, .int y1])) := Same.upd hpr
            refine r_gtup (SqT.of upd_same) rfl ?_
            generalize upd H3 pr (.tup [.int x1, .int y1]) = H4 at e4 ⊢
            walk_at "rd"
            refine ⟨e4 _ _ a3, by rw [List.length_map, List.length_take]; exact small_line (by omega), cturn hj ⟨_, _, rfl, ?_, Same.fresh (e3.trans e4) hacc, upd_same⟩⟩
            rw [zip_take hx2 hy2, List.map_append]
            rfl
          · rintro σ' zs H3 ⟨v1, v2, rfl, rfl, e3, a3⟩
            rw [List.take_of_length_le (by rw [List.length_zipWith]; omega)] at a3
            have g3 := (g.same e02).same e3
            walk_at "rd"
            refine r_takeS (a := p) (i := 0) (k := 1) (n := c) rfl rfl (SqL.of g3.top) (by rw [List.length_map]; omega) fun q1 hq1 => ?_
            rw [← List.map_take]
            have e4 : Same H3 (upd H3 q1 (.lst ((as.take c).map V.ref))) := Same.upd hq1
            have g4 := g3.taken c hq1
            generalize upd H3 q1 (.lst ((as.take c).map V.ref)) = H4 at e4 g4 ⊢
            walk_at "rd"
            refine ⟨by rw [PySem.sizeLine_eq]; simp, fun q2 hq2 => ?_⟩
            have e5 : Same H4 (upd H4 q2 (.lst [.ref acc])) := Same.upd hq2
            have g5 := Grid.one (e4 _ _ a3) hq2
            have g4' := g4.same e5
            refine ⟨q1, q2, _, _, rfl, rfl, g4'.top, g5.top, by rw [List.length_map, List.length_take, PySem.sizeLine_eq]; simp; omega, fun q3 hq3 => ?_⟩
            have g6 := g4'.cat2 g5 hq3
            have e6 := e5.trans (Same.upd (o := .lst ((as.take c).map V.ref ++ [acc].map V.ref)) hq3)
            refine (?_ : tSl _ _ _ _ _ (upd _ q3 (.lst ((as.take c).map V.ref ++ [acc].map V.ref))) _)
            generalize upd (upd H4 q2 (.lst [.ref acc])) q3 (.lst ((as.take c).map V.ref ++ [acc].map V.ref)) = H6 at e6 g6 ⊢
            have e36 := e4.trans e6
            have g36 := g3.same e36
            refine r_dropS (a := p) (i := 0) (k := 1) (n := c) rfl rfl (SqL.of g36.top) (by rw [List.length_map]; omega) fun q4 hq4 => ?_
            rw [← List.map_drop]
            have e7 : Same H6 (upd H6 q4 (.lst ((as.drop (c + 1)).map V.ref))) := Same.upd hq4
            have g7 := g36.dropped (c + 1) hq4
            have g6' := g6.same e7
            generalize upd H6 q4 (.lst ((as.drop (c + 1)).map V.ref)) = H7 at e7 g7 g6' ⊢
            refine ⟨q3, q4, _, _, rfl, rfl, g6'.top, g7.top, by rw [List.length_map, List.length_map, List.length_append, List.length_take, List.length_drop, PySem.sizeLine_eq]; simp; omega, fun q5 hq5 => ?_⟩
            have g8 := g6'.cat2 g7 hq5
            rw [set_parts (by omega)] at g8
            walk_at "rd"
            refine q q5 _ _ _ ((((e02.trans e3).trans e36).trans e7).trans (Same.upd hq5)) g8 (.inr ⟨by rw [ex]; exact z, c + 1 + i, l, r, by omega, hi, hl, hr0, by rw [er]; exact z2, rfl⟩)
        · walk_at "rd"
          refine ⟨_, _, rfl, e2, fun q h1 h2 => ?_⟩
          by_cases y : q = c + 1 + i
          · rw [y, er]; exact z2
          · exact no q h1 (by omega)
      · rintro σ H2 ⟨v3, v4, rfl, e2, no⟩
        rw [List.length_map, List.length_drop] at no
        walk_at "rd"
        refine ⟨by show 1 ≤ sizeLine; rw [PySem.sizeLine_eq]; decide, qe (fun r h1 h2 => ?_) _ (e1.trans e2)⟩
        by_cases y : r = c
        · subst y
          rw [ex]; exact z
        · exact no r (by omega) (by omega)
theorem sc_row_cleared : FnScope ["row", "leader", "column", "last", "lead", "part"] ["row", "leader", "column", "last"] (defScope s_row_cleared) := ⟨rfl, rfl, rfl, by decide +kernel, rfl, by decide +kernel, by decide +kernel⟩
theorem ok_row_cleared (D : Def K mg "row_cleared" s_row_cleared ["row", "leader", "column", "last"]) (T : Txt K mg Z) : Has P w K mg base (CXe P w) "row_cleared" 1 ["row", "leader", "column", "last"] sp_rowcl := by
  refine D.hasN sc_row_cleared (fun vs H Q E h => ?_) (fun f cdv A outer s H vs Q E hr h => ?_)
  · obtain ⟨a, b, r, l, c, m, d, rfl, _⟩ := h; rfl
  · obtain ⟨a, b, r, l, c, m, d, rfl, ha, hb, rl, ll, hc, hm, d0, dz, rz, lz, q⟩ := h
    obtain ⟨x, hx⟩ : ∃ x, l[c]? = some x := ⟨l[c], by simp [show c < l.length by omega]⟩
    obtain ⟨y, hy⟩ : ∃ x, r[c]? = some x := ⟨r[c], by simp [show c < r.length by omega]⟩
    have ex : l.getD c 0 = x := by rw [List.getD_eq_getElem?_getD, hx]; rfl
    have ey : r.getD c 0 = y := by rw [List.getD_eq_getElem?_getD, hy]; rfl
    have xz := lz x (List.mem_of_getElem? hx)
    have yz := rz y (List.mem_of_getElem? hy)
    have aix : atI (l.map V.int) ((c : Nat) : Int) = some (V.int x) := atI_nat (by rw [List.getElem?_map, hx]; rfl)
    have aiy : atI (r.map V.int) ((c : Nat) : Int) = some (V.int y) := atI_nat (by rw [List.getElem?_map, hy]; rfl)
    refine ⟨_, (pss_cons (ps_set (i := 4) sc_row_cleared.nd rfl (by first | exact Or.inl rfl | exact Or.inr rfl) (pe_ix ix_list (pv 1) (pv 2) (fun _ _ => rfl)))
      (pss_cons (ps_set (i := 5) sc_row_cleared.nd rfl (by first | exact Or.inl rfl | exact Or.inr rfl) (pe_ix ix_list (pv 0) (pv 2) (fun _ _ => rfl)))
      (pss_one (ps_ret (pe_comp (tg := ["one", "other"]) (fr := [("last", 3), ("lead", 4), ("part", 5)]) (by walk_at "blk_ok") rfl (pi_zip T.zip (pa_cons (pv 0) (pa_cons (pv 1) pa_nil))) (fun _ _ _ _ _ => (pg_tupK (K := K) rfl (n := 2) rfl (pgs_cons (pg_name (i := 0) (show [("one" : Str), ("other" : Str), ("last" : Str), ("lead" : Str), ("part" : Str)].Nodup by decide +kernel) rfl (by first | exact Or.inl rfl | exact Or.inr rfl)) (pgs_cons (pg_name (i := 1) (show [("one" : Str), ("other" : Str), ("last" : Str), ("lead" : Str), ("part" : Str)].Nodup by decide +kernel) rfl (by first | exact Or.inl rfl | exact Or.inr rfl)) pgs_nil)))) (fun _ _ _ _ _ => pifs_nil) (fun _ _ _ _ _ => (pe_op op_fdn (pe_op op_sub (pe_op op_mulS (pv 3) (pv 0)) (pe_op op_mulS (pv 4) (pv 1))) (pv 2)))))))), ?_⟩
    dsimp only [cx_K]
    walk_at "rd"
    refine r_ixL (SqL.of hb) aix ?_
    walk_at "rd"
    refine r_ixL (SqL.of ha) aiy ?_
    walk_at "rd"
    refine r_comp ?_
    refine ⟨_, rfl, _, rfl, a, b, rfl, ⟨_, SqL.of ha⟩, ⟨_, SqL.of hb⟩, fun acc hacc => ?_⟩
    refine comp_zip (K := K) (a := a) (b := b) (xs := r.map V.int) (ys := l.map V.int) (n := m) (by rw [List.length_map, List.length_map]; omega) (fun i σ' zs H3 => ∃ v1 v2 : Option V, σ' = [v1, v2, some (.int d), some (.int x), some (.int y)] ∧ zs = ((rcl r l c d).take i).map V.int ∧ Same H H3 ∧ H3 acc = some (.lst zs))
      ⟨none, none, rfl, rfl, Same.upd hacc, upd_same⟩ (fun i σ' zs H3 _ ⟨_, _, _, _, e, _⟩ => ⟨SqL.of (e _ _ ha), SqL.of (e _ _ hb)⟩) ?_ ?_
    · rintro j x1 y1 pr σ' zs H3 hx1 hy1 hj ⟨v1, v2, rfl, rfl, e3, a3⟩ hpr
      obtain ⟨x1, hx2, rfl⟩ := int_at hx1
      obtain ⟨y1, hy2, rfl⟩ := int_at hy1
      have e4 : Same H3 (upd H3 pr (.tup [.int x1, .int y1])) := Same.upd hpr
      refine r_gtup (SqT.of upd_same) rfl ?_
      generalize upd H3 pr (.tup [.int x1, .int y1]) = H4 at e4 ⊢
      have m1 := xz.mulOk (rz x1 (List.mem_of_getElem? hx2))
      have m2 := yz.mulOk (lz y1 (List.mem_of_getElem? hy2))
      have cf : CFd (x * x1 - y * y1) d := ⟨d0, dz⟩
      walk_at "rd"
      refine ⟨e4 _ _ a3, by rw [List.length_map, List.length_take]; exact small_line (by omega), cturn hj ⟨_, _, rfl, ?_, Same.fresh (e3.trans e4) hacc, upd_same⟩⟩
      unfold rcl
      rw [zip_take hx2 hy2, List.map_append, ex, ey]
      rfl
    · rintro σ' zs H3 ⟨v1, v2, rfl, rfl, e3, a3⟩
      rw [List.take_of_length_le (by unfold rcl; rw [List.length_zipWith]; omega)] at a3
      walk_at "rd"
      exact q acc _ e3 hacc a3
theorem clr_of {L : List (List Int)} {n m c : Nat} {d : Int} {l : List Int} (r : Rect L n m) (hc : c < n) (hl : L[c]? = some l) : Clr L ((L.map fun r => rcl r l c d).set c l) n m c d := by
  have ll := r.row l (List.mem_of_getElem? hl)
  have hlen : c < (L.map fun r => rcl r l c d).length := by rw [List.length_map, r.len]; exact hc
  refine ⟨⟨by rw [List.length_set, List.length_map]; exact r.len, fun k hk => ?_⟩, fun j hj => ?_, fun i j hi hne hj => ?_⟩
  · rcases List.mem_or_eq_of_mem_set hk with z | rfl
    · obtain ⟨x, hx, rfl⟩ := List.mem_map.mp z
      unfold rcl
      rw [List.length_zipWith, ll, r.row x hx]
      omega
    · exact ll
  · rw [mx_set hlen, rl_self, mx_at hl]
  · obtain ⟨x, hx, lx⟩ := r.at hi
    rw [mx_set hlen, rl_ne _ _ hne, mx_at (l := rcl x l c d) (by rw [List.getElem?_map, hx]; rfl), mx_at hl, mx_at hx, mx_at hx, mx_at hl]
    unfold rcl
    rw [List.getD_eq_getElem?_getD (l := List.zipWith _ _ _), List.getElem?_zipWith]
    have h1 : x[j]? = some (x.getD j 0) := by rw [List.getD_eq_getElem?_getD]; simp [show j < x.length by omega]
    have h2 : l[j]? = some (l.getD j 0) := by rw [List.getD_eq_getElem?_getD]; simp [show j < l.length by omega]
    rw [h1, h2]
    rfl
theorem sc_column_cleared : FnScope ["rows", "column", "last", "leader", "above", "under"] ["rows", "column", "last"] (defScope s_column_cleared) := ⟨rfl, rfl, rfl, by decide +kernel, rfl, by decide +kernel, by decide +kernel⟩
theorem ok_column_cleared (D : Def K mg "column_cleared" s_column_cleared ["rows", "column", "last"]) (T : Txt K mg Z) (h_row_cleared : Has P w K mg base (CXe P w) "row_cleared" 1 ["row", "leader", "column", "last"] sp_rowcl) : Has P w K mg base (CXe P w) "column_cleared" 2 ["rows", "column", "last"] sp_colcl := by
  refine D.hasN sc_column_cleared (fun vs H Q E h => ?_) (fun f cdv A outer s H vs Q E hr h => ?_)
  · obtain ⟨p, as, L, n, m, c, d, rfl, _⟩ := h; rfl
  · obtain ⟨p, as, L, n, m, c, d, rfl, g, rc, hc, hcm, hn, hm, d0, dz, lz, q⟩ := h
    have gl := g.len
    have rl := rc.len
    obtain ⟨b, l, hb, hl, hrow⟩ := g.at (i := c) (by omega)
    have ll := rc.row l (List.mem_of_getElem? hl)
    have llz := lz l (List.mem_of_getElem? hl)
    refine ⟨_, (pss_cons (ps_set (i := 3) sc_column_cleared.nd rfl (by first | exact Or.inl rfl | exact Or.inr rfl) (pe_ix ix_list (pv 0) (pv 1) (fun _ _ => rfl)))
      (pss_cons (ps_setC (i := 4) sc_column_cleared.nd rfl (by first | exact Or.inl rfl | exact Or.inr rfl) (tg := ["row"]) (fr := [("leader", 3), ("column", 1), ("last", 2)]) (by walk_at "blk_ok") rfl (pi_list (pe_slice sl_list (pv 0) po_none (po_some (pv 1)))) (fun _ _ _ _ _ => (pg_name (i := 0) (show [("row" : Str), ("leader" : Str), ("column" : Str), ("last" : Str)].Nodup by decide +kernel) rfl (by first | exact Or.inl rfl | exact Or.inr rfl))) (fun _ _ _ _ _ => pifs_nil) (fun _ _ _ _ _ => (pe_callH h_row_cleared hr passN (pa_cons (pv 0) (pa_cons (pv 1) (pa_cons (pv 2) (pa_cons (pv 3) pa_nil)))))))
      (pss_cons (ps_setC (i := 5) sc_column_cleared.nd rfl (by first | exact Or.inl rfl | exact Or.inr rfl) (tg := ["row"]) (fr := [("leader", 3), ("column", 1), ("last", 2)]) (by walk_at "blk_ok") rfl (pi_list (pe_slice sl_list (pv 0) (po_some (pe_op op_add (pv 1) pe_int)) po_none)) (fun _ _ _ _ _ => (pg_name (i := 0) (show [("row" : Str), ("leader" : Str), ("column" : Str), ("last" : Str)].Nodup by decide +kernel) rfl (by first | exact Or.inl rfl | exact Or.inr rfl))) (fun _ _ _ _ _ => pifs_nil) (fun _ _ _ _ _ => (pe_callH h_row_cleared hr passN (pa_cons (pv 0) (pa_cons (pv 1) (pa_cons (pv 2) (pa_cons (pv 3) pa_nil)))))))
      (pss_one (ps_ret (pe_op op_cat (pe_op op_cat (pv 4) (pe_lst (pa_cons (pv 3) pa_nil))) (pv 5))))))), ?_⟩
    dsimp only [cx_K]
    walk_at "rd"
    refine r_ixL (SqL.of g.top) (g.ix hb) ?_
    walk_at "rd"
    refine r_comp ?_
    refine r_iList ?_
    refine r_takeS (a := p) (i := 0) (k := 1) (n := c) rfl rfl (SqL.of g.top) (by rw [List.length_map]; omega) fun p1 hp1 => ?_
    rw [← List.map_take]
    have e1 : Same H (upd H p1 (.lst ((as.take c).map V.ref))) := Same.upd hp1
    have g1 := g.taken c hp1
    generalize upd H p1 (.lst ((as.take c).map V.ref)) = H1 at e1 g1 ⊢
    refine ⟨p1, rfl, ⟨_, SqL.of g1.top⟩, fun acc hacc => ?_⟩
    refine comp_list (K := K) (a := p1) (xs := (as.take c).map V.ref) (fun i σ' ys Hx => ∃ (cs : List Addr) (v : Option V), σ' = [v, some (.ref b), some (.int (c : Int)), some (.int d)] ∧ ys = cs.map V.ref ∧ Same H1 Hx ∧ cs.length = i ∧ Grid Hx acc cs (((L.take c).take i).map fun r => rcl r l c d) ∧ acc ∉ cs)
      ⟨[], none, rfl, rfl, Same.upd hacc, rfl, ⟨upd_same, rfl, fun i a l z => by simp at z⟩, by simp⟩ (fun i σ' ys Hx _ ⟨_, _, _, _, e, _⟩ => SqL.of (e _ _ g1.top)) ?_ ?_
    · rintro i x σ' ys Hx hx hi ⟨cs, v, rfl, rfl, ex, hcs, gx, na⟩
      have hi2 := hi
      rw [List.length_map, g1.len] at hi2
      obtain ⟨a2, r, ha2, hr2, hrr⟩ := g1.at hi2
      obtain ⟨a3, ha3, rfl⟩ := ref_at hx
      rw [ha2] at ha3
      cases ha3
      have rm : r ∈ L := List.mem_of_mem_take (List.mem_of_getElem? hr2)
      have li := hi2
      rw [List.length_take] at li
      walk_at "rd"
      refine ⟨a2, b, r, l, c, m, d, rfl, ex _ _ hrr, ex _ _ (e1 _ _ hrow), rc.row r rm, ll, hcm, hm, d0, dz, lz r rm, llz, fun t Hy ey ft ht => ?_⟩
      have gy := gx.same ey
      have nt : t ≠ acc := fun z => by rw [z] at ft; exact absurd gx.top (by rw [ft]; simp)
      refine ⟨gy.top, by rw [List.length_map]; exact small_line (by omega), cturn hi ⟨cs ++ [t], _, rfl, by simp, Same.fresh (ex.trans ey) hacc, by simp [hcs], ?_, ?_⟩⟩
      · rw [take_snoc hr2, List.map_append]; exact gy.snoc na nt ht
      · intro z
        rcases List.mem_append.mp z with z | z
        · exact na z
        · exact nt (List.mem_singleton.mp z).symm
    · rintro σ' ys H2 ⟨cs, v, rfl, rfl, e2, hcl, g2, na⟩
      rw [List.length_map, g1.len, List.take_length] at g2
      have e02 := e1.trans e2
      have gp := g.same e02
      walk_at "rd"
      refine r_comp ?_
      refine r_iList ?_
      refine r_dropS (a := p) (i := 0) (k := 1) (n := c) rfl rfl (SqL.of gp.top) (by rw [List.length_map]; omega) fun p3 hp3 => ?_
      rw [← List.map_drop]
      have e3 : Same H2 (upd H2 p3 (.lst ((as.drop (c + 1)).map V.ref))) := Same.upd hp3
      have g3 := gp.dropped (c + 1) hp3
      have g2' := g2.same e3
      generalize upd H2 p3 (.lst ((as.drop (c + 1)).map V.ref)) = H3 at e3 g3 g2' ⊢
      refine ⟨p3, rfl, ⟨_, SqL.of g3.top⟩, fun ac2 hac2 => ?_⟩
      refine comp_list (K := K) (a := p3) (xs := (as.drop (c + 1)).map V.ref) (fun i σ' ys Hx => ∃ (cs : List Addr) (v : Option V), σ' = [v, some (.ref b), some (.int (c : Int)), some (.int d)] ∧ ys = cs.map V.ref ∧ Same H3 Hx ∧ cs.length = i ∧ Grid Hx ac2 cs (((L.drop (c + 1)).take i).map fun r => rcl r l c d) ∧ ac2 ∉ cs)
        ⟨[], none, rfl, rfl, Same.upd hac2, rfl, ⟨upd_same, rfl, fun i a l z => by simp at z⟩, by simp⟩ (fun i σ' ys Hx _ ⟨_, _, _, _, e, _⟩ => SqL.of (e _ _ g3.top)) ?_ ?_
      · rintro i x σ' ys Hx hx hi ⟨cs, v, rfl, rfl, ex, hcs, gx, na⟩
        have hi2 := hi
        rw [List.length_map, g3.len] at hi2
        obtain ⟨a2, r, ha2, hr2, hrr⟩ := g3.at hi2
        obtain ⟨a3, ha3, rfl⟩ := ref_at hx
        rw [ha2] at ha3
        cases ha3
        have rm : r ∈ L := List.mem_of_mem_drop (List.mem_of_getElem? hr2)
        have li := hi2
        rw [List.length_drop] at li
        walk_at "rd"
        refine ⟨a2, b, r, l, c, m, d, rfl, ex _ _ hrr, ex _ _ (e3 _ _ (e02 _ _ hrow)), rc.row r rm, ll, hcm, hm, d0, dz, lz r rm, llz, fun t Hy ey ft ht => ?_⟩
        have gy := gx.same ey
        have nt : t ≠ ac2 := fun z => by rw [z] at ft; exact absurd gx.top (by rw [ft]; simp)
        refine ⟨gy.top, by rw [List.length_map]; exact small_line (by omega), cturn hi ⟨cs ++ [t], _, rfl, by simp, Same.fresh (ex.trans ey) hac2, by simp [hcs], ?_, ?_⟩⟩
        · rw [take_snoc hr2, List.map_append]; exact gy.snoc na nt ht
        · intro z
          rcases List.mem_append.mp z with z | z
          · exact na z
          · exact nt (List.mem_singleton.mp z).symm
      · rintro σ' ys H4 ⟨ds, v, rfl, rfl, e4, hdl, g4, nd⟩
        rw [List.length_map, g3.len, List.take_length] at g4
        have e04 := (e02.trans e3).trans e4
        have g24 := g2'.same e4
        walk_at "rd"
        refine ⟨by rw [PySem.sizeLine_eq]; simp, fun q2 hq2 => ?_⟩
        have e5 : Same H4 (upd H4 q2 (.lst [.ref b])) := Same.upd hq2
        have g5 := Grid.one (e04 _ _ hrow) hq2
        have g25 := g24.same e5
        have cl1 := g2.len
        have cl2 := g4.len
        rw [List.length_map, List.length_take] at cl1
        rw [List.length_map, List.length_drop] at cl2
        refine ⟨acc, q2, _, _, rfl, rfl, g25.top, g5.top, by rw [List.length_map, List.length_map, List.length_singleton, PySem.sizeLine_eq]; omega, fun q3 hq3 => ?_⟩
        have g6 := g25.cat2 g5 hq3
        have e6 := e5.trans (Same.upd (o := .lst (cs.map V.ref ++ [b].map V.ref)) hq3)
        have g46 := g4.same e6
        walk_at "rd"
        refine ⟨q3, ac2, _, _, rfl, rfl, g6.top, g46.top, by rw [List.length_map, List.length_map, List.length_append, List.length_singleton, PySem.sizeLine_eq]; omega, fun q5 hq5 => ?_⟩
        have g8 := g6.cat2 g46 hq5
        rw [List.map_take, List.map_drop, set_parts (by rw [List.length_map]; omega)] at g8
        walk_at "rd"
        exact q q5 _ _ _ ((e04.trans e6).trans (Same.upd hq5)) g8 (clr_of rc hc hl)
theorem sc_cleared : FnScope ["rows", "last", "whole", "column"] ["rows"] (defScope s_cleared) := ⟨rfl, rfl, rfl, by decide +kernel, rfl, by decide +kernel, by decide +kernel⟩
theorem ok_cleared (D : Def K mg "cleared" s_cleared ["rows"]) (T : Txt K mg Z) (h_led : Has P w K mg base (CXe P w) "led" 1 ["rows", "column"] (sp_led Z.NoOne)) (h_column_cleared : Has P w K mg base (CXe P w) "column_cleared" 2 ["rows", "column", "last"] sp_colcl) : Has P w K mg base (CXe P w) "cleared" 3 ["rows"] (sp_cleared Z.NoOne) := by
  refine D.hasE sc_cleared (fun vs H Q E h => ?_) (fun f cdv A outer s H vs Q E hr h => ?_)
  · obtain ⟨p, as, L, n, m, M, rfl, _⟩ := h; rfl
  · obtain ⟨p, as, L, n, m, M, rfl, g, rc, hnm, hn, hm, hM, hb, hz, q, qe⟩ := h
    have gl := g.len
    have rl := rc.len
    refine ⟨_, (pss_cons (ps_set (i := 1) sc_cleared.nd rfl (by first | exact Or.inl rfl | exact Or.inr rfl) pe_int)
      (pss_cons (ps_set (i := 2) sc_cleared.nd rfl (by first | exact Or.inl rfl | exact Or.inr rfl) (pv 0))
      (pss_cons (ps_for PassesOwn.leaving rfl (pi_range1 rfl T.range (pa_cons (pe_callB call_len (by rfl) T.len bt_len (pa_cons (pv 0) pa_nil)) pa_nil)) (pg_name (i := 3) sc_cleared.nd rfl (by first | exact Or.inl rfl | exact Or.inr rfl))
      (pss_cons (ps_set (i := 2) sc_cleared.nd rfl (by first | exact Or.inl rfl | exact Or.inr rfl) (pe_callH h_column_cleared hr passN (pa_cons (pe_callH h_led hr passE (pa_cons (pv 2) (pa_cons (pv 3) pa_nil))) (pa_cons (pv 3) (pa_cons (pv 1) pa_nil)))))
      (pss_one (ps_set (i := 1) sc_cleared.nd rfl (by first | exact Or.inl rfl | exact Or.inr rfl) (pe_ix ix_list (pe_ix ix_list (pv 2) (pv 3) (fun _ _ => rfl)) (pv 3) (fun _ _ => rfl))))))
      (pss_one (ps_ret (pv 2)))))), ?_⟩
    dsimp only [cx_K]
    walk_at "rd"
    refine r_for ?_
    refine ⟨_, rfl, _, _, rfl, .inl ⟨_, SqL.of g.top, rfl⟩, (n : Int), by rw [List.length_map, gl, rl], by omega, by omega, ?_⟩
    rw [Int.toNat_natCast]
    refine for_range (fun i σ H1 => ∃ (p2 : Addr) (bs : List Addr) (W : List (List Int)) (d : Int) (B : Mx) (v : Option V), σ = [some (.ref p), some (.int d), some (.ref p2), v] ∧ Same H H1 ∧ Grid H1 p2 bs W ∧ Rect W n m ∧ Cd n m M i i (mx L) (mx W) d B)
      ⟨p, as, L, 1, mx L, none, rfl, fun _ _ e => e, g, rc, Cd.start hb⟩ ?_ ?_
    · rintro i σ H1 hi ⟨p2, bs, W, d, B, v, rfl, e1, g1, r1, cd⟩
      simp only [Int.zero_add]
      walk_at "rd"
      refine ⟨p2, bs, W, n, m, i, rfl, g1, r1, hi, by omega, hn, hm, fun p3 cs W2 H2 e2 g2 ld => ?_, fun no H2 e2 => qe (cd.sing hi hnm no) _ (e1.trans e2)⟩
      obtain ⟨r2, piv, B2, cd2⟩ := cd.ledL r1 hi ld
      have wz : ∀ l ∈ W2, ∀ x ∈ l, Sz 9000 x := fun l hl x hx => by
        obtain ⟨a, ha⟩ := List.mem_iff_getElem?.mp hl
        obtain ⟨b, hb2⟩ := List.mem_iff_getElem?.mp hx
        rw [← mx_eq ha hb2]
        exact Nat.lt_of_le_of_lt (cd2.bnd hM (by omega) a b) hz
      walk_at "rd"
      refine ⟨p3, cs, W2, n, m, i, d, rfl, g2, r2, hi, by omega, hn, hm, cd2.ba.ne, Nat.lt_of_le_of_lt (cd2.dbnd hM (by omega)) hz, wz, fun p4 ds W3 H3 e3 g3 cl => ?_⟩
      have cd3 := cd2.next r2 hi piv cl
      have l3 := cl.rect.len
      obtain ⟨a, l, ha, hl, hrow⟩ := g3.at (i := i) (by omega)
      have ll := cl.rect.row l (List.mem_of_getElem? hl)
      obtain ⟨x, hx⟩ : ∃ x, l[i]? = some x := ⟨l[i], by simp [show i < l.length by omega]⟩
      have ex : mx W2 i i = x := by rw [← cl.own i (by omega)]; exact mx_eq hl hx
      rw [ex] at cd3
      walk_at "rd"
      refine r_ixL (SqL.of g3.top) (g3.ix ha) ?_
      walk_at "rd"
      refine r_ixL (SqL.of hrow) (atI_nat (by rw [List.getElem?_map, hx]; rfl)) ?_
      walk_at "rd"
      exact ⟨p4, ds, W3, x, B2, _, rfl, (e1.trans e2).trans e3, g3, cl.rect, cd3⟩
    · rintro σ H1 ⟨p2, bs, W, d, B, v, rfl, e1, g1, r1, cd⟩
      walk_at "rd"
      exact q p2 bs W B d H1 e1 g1 r1 cd
theorem sc_determinant : FnScope ["rows", "bottom", "row", "whole"] ["rows"] (defScope s_determinant) := ⟨rfl, rfl, rfl, by decide +kernel, rfl, by decide +kernel, by decide +kernel⟩
theorem ok_determinant (D : Def K mg "determinant" s_determinant ["rows"]) (T : Txt K mg Z) (h_ratio : Has P w K mg base (CXe P w) "ratio" 2 ["top", "bottom"] sp_ratio) (h_common_bottom : Has P w K mg base (CXe P w) "common_bottom" 2 ["row"] sp_bottom) (h_made_whole : Has P w K mg base (CXe P w) "made_whole" 3 ["row"] sp_made) (h_cleared : Has P w K mg base (CXe P w) "cleared" 3 ["rows"] (sp_cleared Z.NoOne)) : Has P w K mg base (CXe P w) "determinant" 4 ["rows"] sp_det := by
  refine D.hasN sc_determinant (fun vs H Q E h => ?_) (fun f cdv A outer s H vs Q E hr h => ?_)
  · obtain ⟨p, as, R, n, M, PB, rfl, _⟩ := h; rfl
  · obtain ⟨p, as, R, n, M, PB, rfl, g, rl, n0, n1, fl, sz, q⟩ := h
    have gl := g.len
    let bf : Nat → Int := fun i => lcF (R.getD i [])
    have rowAt : ∀ i, i < n → ∃ fs, R[i]? = some fs ∧ R.getD i [] = fs := fun i hi => ⟨R[i]'(by omega), by simp [show i < R.length by omega], by rw [List.getD_eq_getElem?_getD]; simp [show i < R.length by omega]⟩
    refine ⟨_, (pss_cons (ps_if (pt_cmpR op_eq (pe_callB call_len (by rfl) T.len bt_len (pa_cons (pv 0) pa_nil)) pe_int (nomark _)) (pss_one (ps_ret (pe_tup (pa_cons pe_int (pa_cons pe_int pa_nil))))) pss_nil)
      (pss_cons (ps_set (i := 1) sc_determinant.nd rfl (by first | exact Or.inl rfl | exact Or.inr rfl) pe_int)
      (pss_cons (ps_for PassesOwn.never rfl (pi_list (pv 0)) (pg_name (i := 2) sc_determinant.nd rfl (by first | exact Or.inl rfl | exact Or.inr rfl))
      (pss_one (ps_set (i := 1) sc_determinant.nd rfl (by first | exact Or.inl rfl | exact Or.inr rfl) (pe_op op_mulS (pv 1) (pe_callH h_common_bottom hr passN (pa_cons (pv 2) pa_nil))))))
      (pss_cons (ps_tryNo (i := 3) h_cleared hr (pa_cons (pe_comp (tg := ["row"]) (fr := []) (by walk_at "blk_ok") rfl (pi_list (pv 0)) (fun _ _ _ _ _ => (pg_name (i := 0) (show [("row" : Str)].Nodup by decide +kernel) rfl (by first | exact Or.inl rfl | exact Or.inr rfl))) (fun _ _ _ _ _ => pifs_nil) (fun _ _ _ _ _ => (pe_callH h_made_whole hr passN (pa_cons (pv 0) pa_nil)))) pa_nil) body_nox T.c_NoOne sc_determinant.nd rfl rfl (fun _ => (pss_one (ps_ret (pe_tup (pa_cons pe_int (pa_cons pe_int pa_nil)))))))
      (pss_one (ps_ret (pe_callH h_ratio hr passN (pa_cons (pe_ix ix_list (pe_ix ix_list (pv 3) pe_int (fun _ _ => rfl)) pe_int (fun _ _ => rfl)) (pa_cons (pv 1) pa_nil))))))))), ?_⟩
    dsimp only [cx_K]
    walk_at "rd"
    refine ⟨_, _, rfl, .inl ⟨_, SqL.of g.top, rfl⟩, ?_⟩
    rw [List.length_map]
    walk_at "rd"
    refine if2 (fun z => absurd z (by omega)) (fun _ => ?_)
    walk_at "rd"
    refine r_for ?_
    refine ⟨_, rfl, p, rfl, ⟨_, SqL.of g.top⟩, for_list (K := K) (a := p) (xs := as.map V.ref) (fun i σ H1 => ∃ v2 : Option V, σ = [some (.ref p), some (.int (pz i bf)), v2, none] ∧ H1 = H ∧ 0 < pz i bf ∧ (pz i bf).natAbs ≤ PB ^ i) ⟨none, rfl, rfl, by show (0 : Int) < 1; decide, by show (1 : Int).natAbs ≤ 1; decide⟩ (fun i σ H1 _ ⟨_, _, e, _⟩ => by rw [e]; exact SqL.of g.top) ?_ ?_⟩
    · rintro i x σ H1 hx ⟨v2, rfl, rfl, b0, bb⟩
      have il := (List.getElem?_eq_some_iff.mp hx).1
      rw [List.length_map, gl, rl] at il
      obtain ⟨a, fs, ps, ha, hf, hrow, hps⟩ := g.at (i := i) (by omega)
      obtain ⟨a2, ha2, rfl⟩ := ref_at hx
      rw [ha] at ha2
      cases ha2
      have fm := List.mem_of_getElem? hf
      have ef : bf i = lcF fs := by
        show lcF (R.getD i []) = _
        rw [List.getD_eq_getElem?_getD, hf]
        rfl
      walk_at "rd"
      refine ⟨a, ps, fs, 9000, rfl, hrow, hps, sz.fq fs fm, Nat.le_refl _, by rw [fl fs fm]; exact n1, fun l0 ld lp => ?_⟩
      have h1 : (pz i bf).natAbs ≤ PB ^ n := Nat.le_trans bb (Nat.pow_le_pow_right sz.p1 (by omega))
      have h2 : (lcF fs).natAbs ≤ PB ^ n := Nat.le_trans lp (Nat.le_trans (sz.pb fs fm) (by
        have := Nat.pow_le_pow_right sz.p1 (show 1 ≤ n by omega)
        rw [Nat.pow_one] at this
        exact this))
      have mok : IntMulOk (pz i bf) (lcF fs) := Sz.mulOk (m := 9000) (n := 9000) (Nat.lt_of_le_of_lt h1 sz.pbig) (Nat.lt_of_le_of_lt h2 sz.pbig)
      walk_at "rd"
      refine ⟨_, by rw [pz_snoc, ef]; rfl, rfl, ?_, ?_⟩
      · rw [pz_snoc, ef]; exact Int.mul_pos b0 l0
      · rw [pz_snoc, ef, Int.natAbs_mul, Nat.pow_succ]
        exact Nat.mul_le_mul bb (Nat.le_trans lp (sz.pb fs fm))
    · rintro σ H1 ⟨v2, rfl, rfl, b0, bb⟩
      rw [List.length_map, gl, rl] at b0 bb ⊢
      walk_at "rd"
      refine r_comp ?_
      refine ⟨_, rfl, p, rfl, ⟨_, SqL.of g.top⟩, fun acc hacc => ?_⟩
      refine comp_list (K := K) (a := p) (xs := as.map V.ref) (fun i σ' ys Hx => ∃ (cs : List Addr) (L : List (List Int)) (v : Option V), σ' = [v] ∧ ys = cs.map V.ref ∧ Same H1 Hx ∧ Grid Hx acc cs L ∧ acc ∉ cs ∧ L.length = i ∧ ∀ (j : Nat) (fs : List (Int × Int)) (l : List Int), R[j]? = some fs → L[j]? = some l → Wh fs (lcF fs) l ∧ (lcF fs).natAbs ≤ pd fs)
        ⟨[], [], none, rfl, rfl, Same.upd hacc, ⟨upd_same, rfl, fun i a l z => by simp at z⟩, by simp, rfl, fun j fs l _ z => by simp at z⟩ (fun i σ' ys Hx _ ⟨_, _, _, _, _, e, _⟩ => SqL.of (e _ _ g.top)) ?_ ?_
      · rintro i x σ' ys Hx hx hi ⟨cs, L, v, rfl, rfl, ex, gx, nac, hL, inv⟩
        have il := hi
        rw [List.length_map, gl, rl] at il
        obtain ⟨a, fs, ps, ha, hf, hrow, hps⟩ := g.at (i := i) (by omega)
        obtain ⟨a2, ha2, rfl⟩ := ref_at hx
        rw [ha] at ha2
        cases ha2
        have fm := List.mem_of_getElem? hf
        walk_at "rd"
        refine ⟨a, ps, fs, 9000, rfl, ex _ _ hrow, hps.same ex, sz.fq fs fm, Nat.le_refl _, by rw [fl fs fm]; exact n1, fun t l Hy ey ft ht wh lp => ?_⟩
        have gy := gx.same ey
        have nt : t ≠ acc := fun z => by rw [z] at ft; exact absurd gx.top (by rw [ft]; simp)
        have cl := gx.len
        refine ⟨gy.top, by rw [List.length_map]; exact small_line (by omega), cturn hi ⟨cs ++ [t], L ++ [l], _, rfl, by simp, Same.fresh (ex.trans ey) hacc, gy.snoc nac nt ht, ?_, by rw [List.length_append, hL]; rfl, fun k fs' l' h1 h2 => ?_⟩⟩
        · intro z
          rcases List.mem_append.mp z with z | z
          · exact nac z
          · exact nt (List.mem_singleton.mp z).symm
        · by_cases z : k < L.length
          · rw [List.getElem?_append_left z] at h2
            exact inv k fs' l' h1 h2
          · have kl := (List.getElem?_eq_some_iff.mp h2).1
            rw [List.length_append, List.length_singleton] at kl
            have ek : k = i := by omega
            subst ek
            rw [List.getElem?_append_right (by omega), hL, Nat.sub_self] at h2
            cases h2
            rw [hf] at h1
            cases h1
            exact ⟨wh, lp⟩
      · rintro σ' ys H2 ⟨cs, L, v, rfl, rfl, e2, g2, nac, hL, inv⟩
        rw [List.length_map, gl, rl] at hL
        have each : ∀ (i : Nat) (l : List Int), L[i]? = some l → ∃ fs, R[i]? = some fs ∧ l.length = n ∧ Wh fs (lcF fs) l ∧ ∀ x ∈ l, x.natAbs ≤ M := fun i l hl => by
          have il := (List.getElem?_eq_some_iff.mp hl).1
          obtain ⟨fs, hf, _⟩ := rowAt i (by omega)
          obtain ⟨wh, lp⟩ := inv i fs l hf hl
          have fm := List.mem_of_getElem? hf
          have len := wh.len
          rw [fl fs fm] at len
          refine ⟨fs, hf, len, wh, fun x hx => ?_⟩
          obtain ⟨j, hj⟩ := List.mem_iff_getElem?.mp hx
          have jl := (List.getElem?_eq_some_iff.mp hj).1
          obtain ⟨fr, hfr⟩ : ∃ fr, fs[j]? = some fr := ⟨fs[j]'(by rw [fl fs fm]; omega), by simp [show j < fs.length by rw [fl fs fm]; omega]⟩
          exact Nat.le_trans (wh_bound wh (sz.fq fs fm).pos hfr hj) (Nat.le_trans (Nat.mul_le_mul_left _ lp) (sz.en fs fm fr (List.mem_of_getElem? hfr)))
        have rc : Rect L n n := ⟨hL, fun l hl => by
          obtain ⟨i, hi⟩ := List.mem_iff_getElem?.mp hl
          obtain ⟨_, _, h, _⟩ := each i l hi
          exact h⟩
        have bnd : ∀ i j, (mx L i j).natAbs ≤ M := fun i j => by
          by_cases z : i < n ∧ j < n
          · obtain ⟨l, hl, ll⟩ := rc.at z.1
            obtain ⟨x, hx⟩ : ∃ x, l[j]? = some x := ⟨l[j]'(by omega), by simp [show j < l.length by omega]⟩
            rw [mx_eq hl hx]
            obtain ⟨_, _, _, _, h⟩ := each i l hl
            exact h x (List.mem_of_getElem? hx)
          · rw [rc.out (by omega)]
            exact Nat.zero_le _
        have dw : ((det n (mx L) : Int) : Rat) = ((pz n bf : Int) : Rat) * dq n R := dq_whole fun i j hi hj => by
          obtain ⟨l, hl, ll⟩ := rc.at hi
          obtain ⟨fs, hf, _, wh, _⟩ := each i l hl
          have fm := List.mem_of_getElem? hf
          have ef : R.getD i [] = fs := by rw [List.getD_eq_getElem?_getD, hf]; rfl
          obtain ⟨x, hx⟩ : ∃ x, l[j]? = some x := ⟨l[j]'(by omega), by simp [show j < l.length by omega]⟩
          obtain ⟨fr, hfr⟩ : ∃ fr, fs[j]? = some fr := ⟨fs[j]'(by rw [fl fs fm]; omega), by simp [show j < fs.length by rw [fl fs fm]; omega]⟩
          show _ = fa (R.getD i []) j * ((lcF (R.getD i []) : Int) : Rat)
          rw [ef, mx_eq hl hx, fa_at hfr]
          exact wh_qt wh hfr hx ((sz.fq fs fm).pos fr (List.mem_of_getElem? hfr))
        have p0 : ((pz n bf : Int) : Rat) ≠ 0 := ic_ne (by omega)
        have pzz : Sz 9000 (pz n bf) := Nat.lt_of_le_of_lt bb sz.pbig
        walk_at "rd"
        refine ⟨acc, cs, L, n, n, M, rfl, g2, rc, Nat.le_refl _, n1, n1, sz.m1, bnd, sz.big, fun q2 ds W B d H3 e3 g3 r3 cd => ?_, fun sing H3 e3 => ⟨_, rfl, T.m1, ?_⟩⟩
        · have r3l := r3.len
          obtain ⟨a, l, ha, hl, hrow⟩ := g3.at (i := 0) (by omega)
          have ll := r3.row l (List.mem_of_getElem? hl)
          obtain ⟨x, hx⟩ : ∃ x, l[0]? = some x := ⟨l[0]'(by omega), by simp [show 0 < l.length by omega]⟩
          have ex : x = det n (mx L) := by rw [← mx_eq hl hx]; exact cd.value n0
          walk_at "rd"
          refine r_ixL (SqL.of g3.top) (show atI (ds.map V.ref) ((0 : Nat) : Int) = some (V.ref a) from g3.ix ha) ?_
          walk_at "rd"
          refine r_ixL (SqL.of hrow) (show atI (l.map V.int) ((0 : Nat) : Int) = some (V.int x) from atI_nat (by rw [List.getElem?_map, hx]; rfl)) ?_
          walk_at "rd"
          refine ⟨x, pz n bf, rfl, by omega, pzz, fun t u r H4 low e4 hr4 => q t u r H4 ⟨low.pos, low.co⟩ ?_ ?_ (Nat.le_trans low.ub bb) ((e2.trans e3).trans e4) hr4⟩
          · rw [qt_low (by omega) low, ex, dw]
            grind
          · refine Nat.le_trans low.ta ?_
            rw [ex]
            exact det_bound fun i j _ _ => bnd i j
        · walk_at "rd"
          intro r hr3
          refine q 0 1 r _ ⟨by decide, by decide⟩ ?_ (Nat.zero_le _) (Nat.one_le_pow _ _ sz.p1) ((e2.trans e3).trans (Same.upd hr3)) upd_same
          obtain ⟨u, _, ku, l, hl, h0⟩ := sing
          rw [det_sing ku hl h0] at dw
          have dw2 : (0 : Rat) = ((pz n bf : Int) : Rat) * dq n R := dw
          show ((0 : Int) : Rat) / ((1 : Int) : Rat) = _
          grind
theorem sc__law_block : FnScope ["_law_script", "_law_k", "_law_cell", "_law_j"] ["_law_script", "_law_k"] (defScope s__law_block) := ⟨rfl, rfl, rfl, by decide +kernel, rfl, by decide +kernel, by decide +kernel⟩
theorem ok__law_block (D : Def K mg "_law_block" s__law_block ["_law_script", "_law_k"]) (T : Txt K mg Z) : Has P w K mg base (CXe P w) "_law_block" 1 ["_law_script", "_law_k"] (sp_mixed K) := by
  refine D.hasN sc__law_block (fun vs H Q E h => ?_) (fun f cdv A outer s H vs Q E hr h => ?_)
  · obtain ⟨a, ns, k, rfl, _⟩ := h; rfl
  · obtain ⟨a, ns, k, rfl, hS, hk0, hk1, q⟩ := h
    refine ⟨_, (pss_cons (ps_set (i := 2) sc__law_block.nd rfl (by first | exact Or.inl rfl | exact Or.inr rfl) pe_int)
      (pss_cons (ps_if (pt_cmpR op_lt (pe_op op_add pe_int (pe_op op_mod (pe_op op_fdp (pv 1) pe_int) pe_int)) (pe_callB call_len (by rfl) T.len bt_len (pa_cons (pv 0) pa_nil)) (nomark _)) (pss_one (ps_set (i := 2) sc__law_block.nd rfl (by first | exact Or.inl rfl | exact Or.inr rfl) (pe_op op_fdp (pe_ix ix_list (pv 0) (pe_op op_add pe_int (pe_op op_mod (pe_op op_fdp (pv 1) pe_int) pe_int)) (fun _ _ => rfl)) (pe_fold (v := 10000000000000000000000000000000000000000000000000000000000000000) op_pow pe_int pe_int ⟨by decide, by decide, by decide⟩ (by decide +kernel))))) pss_nil)
      (pss_cons (ps_for PassesOwn.never rfl (pi_range1 rfl T.range (pa_cons (pe_op op_mod (pv 1) pe_int) pa_nil)) (pg_name (i := 3) sc__law_block.nd rfl (by first | exact Or.inl rfl | exact Or.inr rfl))
      (pss_one (ps_set (i := 2) sc__law_block.nd rfl (by first | exact Or.inl rfl | exact Or.inr rfl) (pe_op op_fdp (pv 2) pe_int))))
      (pss_one (ps_ret (pe_op op_mod (pv 2) pe_int)))))), ?_⟩
    dsimp only [cx_K]
    walk_at "rd"
    refine ⟨_, _, rfl, .inl ⟨_, hS, rfl⟩, ?_⟩
    walk_at "rd"
    refine if2 (fun hlt => ?_) (fun hlt => ?_)
    · walk_at "rd"
      rw [List.length_map] at hlt
      obtain ⟨n0, hn0⟩ := nth_int (ns := ns) (k := 1 + k / 8 % 62) (by omega) hlt
      refine r_ixL hS hn0 ?_
      walk_at "rd"
      refine r_for ?_
      refine ⟨_, rfl, _, _, rfl, rfl, (show (0 : Int) < 8 by decide), k % 8, rfl, by omega, by omega, for_range (fun i σ H1 => ∃ (c : Int) (v : Option V), σ = [some (.ref a), some (.int k), some (.int c), v] ∧ H1 = H) ⟨_, _, rfl, rfl⟩ ?_ ?_⟩
      · rintro i σ H1 hi ⟨c, v, rfl, rfl⟩
        walk_at "rd"
        exact ⟨_, _, rfl, rfl⟩
      · rintro σ H1 ⟨c, v, rfl, rfl⟩
        walk_at "rd"
        exact q _ (Int.emod_nonneg _ (by decide)) (Int.emod_lt_of_pos _ (by decide))
    · walk_at "rd"
      refine r_for ?_
      refine ⟨_, rfl, _, _, rfl, rfl, (show (0 : Int) < 8 by decide), k % 8, rfl, by omega, by omega, for_range (fun i σ H1 => ∃ (c : Int) (v : Option V), σ = [some (.ref a), some (.int k), some (.int c), v] ∧ H1 = H) ⟨_, _, rfl, rfl⟩ ?_ ?_⟩
      · rintro i σ H1 hi ⟨c, v, rfl, rfl⟩
        walk_at "rd"
        exact ⟨_, _, rfl, rfl⟩
      · rintro σ H1 ⟨c, v, rfl, rfl⟩
        walk_at "rd"
        exact q _ (Int.emod_nonneg _ (by decide)) (Int.emod_lt_of_pos _ (by decide))
theorem sc__law_mixed : FnScope ["_law_script", "_law_k", "_law_cell", "_law_number_here"] ["_law_script", "_law_k"] (defScope s__law_mixed) := ⟨rfl, rfl, rfl, by decide +kernel, rfl, by decide +kernel, by decide +kernel⟩
theorem ok__law_mixed (D : Def K mg "_law_mixed" s__law_mixed ["_law_script", "_law_k"]) (T : Txt K mg Z) (h__law_block : Has P w K mg base (CXe P w) "_law_block" 1 ["_law_script", "_law_k"] (sp_mixed K)) : Has P w K mg base (CXe P w) "_law_mixed" 2 ["_law_script", "_law_k"] (sp_mixed K) := by
  refine D.hasN sc__law_mixed (fun vs H Q E h => ?_) (fun f cdv A outer s H vs Q E hr h => ?_)
  · obtain ⟨a, ns, k, rfl, _⟩ := h; rfl
  · obtain ⟨a, ns, k, rfl, hS, hk0, hk1, q⟩ := h
    refine ⟨_, (pss_cons (ps_set (i := 2) sc__law_mixed.nd rfl (by first | exact Or.inl rfl | exact Or.inr rfl) pe_int)
      (pss_cons (ps_if (pt_cmpR op_gt (pe_callB call_len (by rfl) T.len bt_len (pa_cons (pv 0) pa_nil)) pe_int (nomark _)) (pss_one (ps_set (i := 2) sc__law_mixed.nd rfl (by first | exact Or.inl rfl | exact Or.inr rfl) (pe_ix ix_list (pv 0) pe_int (fun _ _ => rfl)))) pss_nil)
      (pss_cons (ps_if (pt_cmpR op_eq (pe_op op_mod (pe_op op_fdp (pv 2) (pe_fold (v := 1000000) op_pow pe_int pe_int ⟨by decide, by decide, by decide⟩ (by decide +kernel))) pe_int) pe_int (nomark _)) (pss_one (ps_ret (pe_callH h__law_block hr passN (pa_cons (pv 0) (pa_cons (pv 1) pa_nil))))) pss_nil)
      (pss_cons (ps_if (pt_cmpR op_gt (pe_callB call_len (by rfl) T.len bt_len (pa_cons (pv 0) pa_nil)) pe_int (nomark _)) (pss_one (ps_set (i := 2) sc__law_mixed.nd rfl (by first | exact Or.inl rfl | exact Or.inr rfl) (pe_ix ix_list (pv 0) (pe_op op_mod (pv 1) (pe_callB (call_min2 rfl) (by rfl) T.min bt_min (pa_cons pe_int (pa_cons (pe_callB call_len (by rfl) T.len bt_len (pa_cons (pv 0) pa_nil)) pa_nil)))) (fun _ _ => rfl)))) pss_nil)
      (pss_cons (ps_set (i := 3) sc__law_mixed.nd rfl (by first | exact Or.inl rfl | exact Or.inr rfl) (pe_op op_add (pe_op op_mod (pv 2) (pe_fold (v := 1000000000000000000) op_pow pe_int pe_int ⟨by decide, by decide, by decide⟩ (by decide +kernel))) (pe_op op_mulS pe_int (pe_op op_add (pv 1) pe_int))))
      (pss_cons (ps_set (i := 3) sc__law_mixed.nd rfl (by first | exact Or.inl rfl | exact Or.inr rfl) (pe_op op_add (pe_op op_mod (pe_op op_mulS (pv 3) (pv 3)) pe_int) (pe_op op_mulS pe_int (pv 1))))
      (pss_one (ps_ret (pe_op op_mod (pe_op op_mulS (pv 3) (pv 3)) pe_int))))))))), ?_⟩
    dsimp only [cx_K]
    walk_at "rd"
    refine ⟨_, _, rfl, .inl ⟨_, hS, rfl⟩, ?_⟩
    walk_at "rd"
    refine if2 (fun hpos => ?_) (fun hpos => ?_)
    · walk_at "rd"
      rw [List.length_map] at hpos
      obtain ⟨n0, hn0⟩ := nth_int (ns := ns) (k := 0) (by omega) hpos
      refine r_ixL hS hn0 ?_
      walk_at "rd"
      refine if2 (fun _ => ?_) (fun _ => ?_)
      · walk_at "rd"
        exact ⟨a, ns, k, rfl, hS, hk0, hk1, q⟩
      · walk_at "rd"
        refine ⟨_, _, rfl, .inl ⟨_, hS, rfl⟩, ?_⟩
        walk_at "rd"
        rw [List.length_map]
        refine if2 (fun _ => ?_) (fun h => absurd hpos h)
        walk_at "rd"
        refine ⟨_, _, rfl, .inl ⟨_, hS, rfl⟩, ?_⟩
        walk_at "rd"
        rw [List.length_map]
        refine ⟨_, _, rfl, ?_⟩
        have mp : 0 < (if (ns.length : Int) < 63 then (ns.length : Int) else 63) := by split <;> omega
        have ml : (if (ns.length : Int) < 63 then (ns.length : Int) else 63) ≤ ns.length := by split <;> omega
        generalize (if (ns.length : Int) < 63 then (ns.length : Int) else 63) = mm at mp ml ⊢
        walk_at "rd"
        have i0 := Int.emod_nonneg k (show mm ≠ 0 by omega)
        have i1 := Int.emod_lt_of_pos k mp
        obtain ⟨n1, hn1⟩ := nth_int (ns := ns) (k := k % mm) i0 (by omega)
        refine r_ixL hS hn1 ?_
        walk_at "rd"
        generalize n1 = cc
        have c0 := Int.emod_nonneg cc (show (1000000000000000000 : Int) ≠ 0 by decide)
        have c1 := Int.emod_lt_of_pos cc (show (0 : Int) < 1000000000000000000 by decide)
        generalize cc % 1000000000000000000 = r at c0 c1 ⊢
        have hm : IntMulOk (r + 48271 * (k + 1)) (r + 48271 * (k + 1)) := mulL (by omega) (by omega)
        walk_at "rd"
        generalize (r + 48271 * (k + 1)) * (r + 48271 * (k + 1)) = zz
        have z0 := Int.emod_nonneg zz (show (2147483629 : Int) ≠ 0 by decide)
        have z1 := Int.emod_lt_of_pos zz (show (0 : Int) < 2147483629 by decide)
        generalize zz % 2147483629 = r2 at z0 z1 ⊢
        have hm2 : IntMulOk (r2 + 69621 * k) (r2 + 69621 * k) := mulL (by omega) (by omega)
        walk_at "rd"
        exact q _ (Int.emod_nonneg _ (by decide)) (Int.emod_lt_of_pos _ (by decide))
    · walk_at "rd"
      rw [List.length_map] at hpos
      refine if2 (fun z => absurd z (by decide)) (fun _ => ?_)
      walk_at "rd"
      refine ⟨_, _, rfl, .inl ⟨_, hS, rfl⟩, ?_⟩
      walk_at "rd"
      rw [List.length_map]
      refine if2 (fun h => absurd h hpos) (fun _ => ?_)
      walk_at "rd"
      generalize hr0 : (0 : Int) % 1000000000000000000 = r
      have c0 : 0 ≤ r := by omega
      have c1 : r < 1000000000000000000 := by omega
      have hm : IntMulOk (r + 48271 * (k + 1)) (r + 48271 * (k + 1)) := mulL (by omega) (by omega)
      walk_at "rd"
      generalize (r + 48271 * (k + 1)) * (r + 48271 * (k + 1)) = zz
      have z0 := Int.emod_nonneg zz (show (2147483629 : Int) ≠ 0 by decide)
      have z1 := Int.emod_lt_of_pos zz (show (0 : Int) < 2147483629 by decide)
      generalize zz % 2147483629 = r2 at z0 z1 ⊢
      have hm2 : IntMulOk (r2 + 69621 * k) (r2 + 69621 * k) := mulL (by omega) (by omega)
      walk_at "rd"
      exact q _ (Int.emod_nonneg _ (by decide)) (Int.emod_lt_of_pos _ (by decide))
theorem sc__law_number : FnScope ["_law_script", "_law_k", "_law_number_here", "_law_way"] ["_law_script", "_law_k"] (defScope s__law_number) := ⟨rfl, rfl, rfl, by decide +kernel, rfl, by decide +kernel, by decide +kernel⟩
theorem ok__law_number (D : Def K mg "_law_number" s__law_number ["_law_script", "_law_k"]) (T : Txt K mg Z) (h__law_cell_at : Has P w K mg base (CXe P w) "_law_cell_at" 1 ["_law_script", "_law_k"] (sp_cell K)) (h__law_mixed : Has P w K mg base (CXe P w) "_law_mixed" 2 ["_law_script", "_law_k"] (sp_mixed K)) (h__law_lowest : Has P w K mg base (CXe P w) "_law_lowest" 2 ["_law_top", "_law_bottom"] sp_ratio) : Has P w K mg base (CXe P w) "_law_number" 3 ["_law_script", "_law_k"] (sp_number K) := by
  refine D.hasN sc__law_number (fun vs H Q E h => ?_) (fun f cdv A outer s H vs Q E hr h => ?_)
  · obtain ⟨a, ns, k, rfl, _⟩ := h; rfl
  · obtain ⟨a, ns, k, rfl, hS, k0, k1, q⟩ := h
    refine ⟨_, (pss_cons (ps_set (i := 2) sc__law_number.nd rfl (by first | exact Or.inl rfl | exact Or.inr rfl) (pe_callH h__law_mixed hr passN (pa_cons (pv 0) (pa_cons (pv 1) pa_nil))))
      (pss_cons (ps_set (i := 3) sc__law_number.nd rfl (by first | exact Or.inl rfl | exact Or.inr rfl) (pe_op op_mod (pe_callH h__law_cell_at hr passN (pa_cons (pv 0) (pa_cons pe_int pa_nil))) pe_int))
      (pss_cons (ps_if (pt_cmpR op_eq (pv 3) pe_int (nomark _)) (pss_one (ps_ret (pe_callH h__law_lowest hr passN (pa_cons (pe_op op_sub (pe_op op_mod (pv 2) pe_int) pe_int) (pa_cons (pe_op op_add pe_int (pe_op op_mod (pe_op op_fdp (pv 2) pe_int) pe_int)) pa_nil))))) pss_nil)
      (pss_cons (ps_if (pt_cmpR op_eq (pv 3) pe_int (nomark _)) (pss_one (ps_ret (pe_tup (pa_cons (pe_op op_add (pe_op op_sub (pe_op op_mod (pe_callH h__law_cell_at hr passN (pa_cons (pv 0) (pa_cons (pv 1) pa_nil))) (pe_fold (v := 2000000000000000000) op_mulS pe_int (pe_fold (v := 1000000000000000000) op_pow pe_int pe_int ⟨by decide, by decide, by decide⟩ (by decide +kernel)) (mulL (by decide) (by decide)) (by decide +kernel))) (pe_fold (v := 1000000000000000000) op_pow pe_int pe_int ⟨by decide, by decide, by decide⟩ (by decide +kernel))) (pv 2)) (pa_cons pe_int pa_nil))))) pss_nil)
      (pss_one (ps_ret (pe_tup (pa_cons (pe_op op_sub (pe_op op_mod (pv 2) pe_int) pe_int) (pa_cons pe_int pa_nil))))))))), ?_⟩
    try dsimp only [cx_K]
    walk_at "rd"
    refine ⟨a, ns, k, rfl, hS, k0, by omega, fun n n0 n1 => ?_⟩
    walk_at "rd"
    refine ⟨a, ns, 1, rfl, hS, by decide, fun c => ?_⟩
    walk_at "rd"
    refine if2 (fun _ => ?_) (fun _ => ?_)
    · walk_at "rd"
      refine ⟨_, _, rfl, by omega, Sz.s64 (by omega) (by omega) (by decide), fun t u p H1 low e1 hp => ?_⟩
      refine q t u p H1 ⟨⟨low.pos, low.co⟩, by have := low.ub; have := low.pos; show u ≤ 6; omega, Sz.mono (m := 5) (by have := low.ta; show t.natAbs < 32; omega) (by decide)⟩ e1 hp
    · walk_at "rd"
      refine if2 (fun _ => ?_) (fun _ => ?_)
      · walk_at "rd"
        refine ⟨a, ns, k, rfl, hS, k0, fun c2 => ?_⟩
        walk_at "rd"
        intro p hp
        refine q _ 1 p _ ⟨⟨show (0 : Int) < 1 by decide, by simp⟩, show (1 : Int) ≤ 6 by decide, ?_⟩ (Same.upd hp) upd_same
        show (_ : Int).natAbs < 2 ^ 61
        omega
      · walk_at "rd"
        intro p hp
        refine q _ 1 p _ ⟨⟨show (0 : Int) < 1 by decide, by simp⟩, show (1 : Int) ≤ 6 by decide, ?_⟩ (Same.upd hp) upd_same
        show (_ : Int).natAbs < 2 ^ 61
        omega
theorem sc__law_rows : FnScope ["_law_script", "_law_many"] ["_law_script", "_law_many"] (defScope s__law_rows) := ⟨rfl, rfl, rfl, by decide +kernel, rfl, by decide +kernel, by decide +kernel⟩
theorem ok__law_rows (D : Def K mg "_law_rows" s__law_rows ["_law_script", "_law_many"]) (T : Txt K mg Z) (h__law_number : Has P w K mg base (CXe P w) "_law_number" 3 ["_law_script", "_law_k"] (sp_number K)) : Has P w K mg base (CXe P w) "_law_rows" 4 ["_law_script", "_law_many"] (sp_rows K) := by
  refine D.hasN sc__law_rows (fun vs H Q E h => ?_) (fun f cdv A outer s H vs Q E hr h => ?_)
  · obtain ⟨a, ns, n, rfl, _⟩ := h; rfl
  · obtain ⟨a, ns, n, rfl, hS, n8, q⟩ := h
    refine ⟨_, (pss_one (ps_ret (pe_comp1 (x0 := "_law_k") (tg := ["_law_k"]) (fr := [("_law_script", 0), ("_law_many", 1)]) (by walk_at "blk_ok1") rfl (pi_range1 rfl T.range (pa_cons (pv 1) pa_nil)) (fun _ _ _ _ _ => (pg_name (i := 0) (show [("_law_k" : Str), ("_law_script" : Str), ("_law_many" : Str)].Nodup by decide +kernel) rfl (by first | exact Or.inl rfl | exact Or.inr rfl))) (fun _ _ _ _ _ => pifs_nil) (by intro _ _ _ _ _; exact pe_comp (tg := ["_law_j"]) (fr := [("_law_script", 1), ("_law_k", 0)]) (by walk_at "blk_ok") rfl (by exact (pi_range1 rfl T.range (pa_cons (pv 2) pa_nil))) (by exact (fun _ _ _ _ _ => (pg_name (i := 0) (show [("_law_j" : Str), ("_law_script" : Str), ("_law_k" : Str)].Nodup by decide +kernel) rfl (by first | exact Or.inl rfl | exact Or.inr rfl)))) (by exact (fun _ _ _ _ _ => pifs_nil)) (by exact (fun _ _ _ _ _ => (pe_callH h__law_number hr passN (pa_cons (pv 1) (pa_cons (pe_op op_add (pe_op op_add pe_int (pe_op op_mulS pe_int (pv 2))) (pv 0)) pa_nil))))))))), ?_⟩
    try dsimp only [cx_K]
    walk_at "rd"
    refine r_comp ?_
    refine ⟨_, rfl, (n : Int), rfl, by omega, by omega, ?_⟩
    rw [Int.toNat_natCast]
    intro acc hacc
    refine comp_range (fun i σ' ys H1 => ∃ (v : Option V) (cs : List Addr) (R : List (List (Int × Int))), σ' = [v, some (.ref a), some (.int (n : Int))] ∧ ys = cs.map V.ref ∧ Same H H1 ∧ FG H1 acc cs R ∧ acc ∉ cs ∧ R.length = i ∧ ∀ fs ∈ R, fs.length = n ∧ ∀ f ∈ fs, Nb f)
      ⟨none, [], [], rfl, rfl, Same.upd hacc, ⟨upd_same, rfl, fun i a l z => by simp at z⟩, by simp, rfl, by simp⟩ ?_ ?_
    · rintro i σ' ys H1 hi ⟨v, cs, R, rfl, rfl, e1, g1, na, rl, inv⟩
      simp only [Int.zero_add]
      have cl := g1.len
      walk_at "rd"
      refine r_comp ?_
      refine ⟨_, rfl, (n : Int), rfl, by omega, by omega, ?_⟩
      rw [Int.toNat_natCast]
      intro ac2 hac2
      refine comp_range (fun j σ' zs H2 => ∃ (v : Option V) (ps : List Addr) (xs : List (Int × Int)), σ' = [v, some (.ref a), some (.int (i : Int))] ∧ zs = ps.map V.ref ∧ Same H1 H2 ∧ H2 ac2 = some (.lst zs) ∧ PR H2 ps xs ∧ xs.length = j ∧ ∀ f ∈ xs, Nb f)
        ⟨none, [], [], rfl, rfl, Same.upd hac2, upd_same, .nil, rfl, by simp⟩ ?_ ?_
      · rintro j σ' zs H2 hj ⟨v, ps, xs, rfl, rfl, e2, a2, pr2, xl, fx⟩
        simp only [Int.zero_add]
        walk_at "rd"
        refine ⟨a, ns, _, rfl, (e1.trans e2).seq hS, by omega, by omega, fun t u p H3 nb e3 hp => ?_⟩
        have psl := pr2.len
        refine ⟨e3 _ _ a2, by rw [List.length_map]; exact small_line (by omega), cturn hj ⟨_, ps ++ [p], xs ++ [(t, u)], rfl, by simp, Same.fresh (e2.trans e3) hac2, upd_same, PR.off (PR.app (pr2.same e3) (.cons hp .nil)) (.inr (e3 _ _ a2)), by rw [List.length_append, xl]; rfl, fun f hf => ?_⟩⟩
        rcases List.mem_append.mp hf with z | z
        · exact fx f z
        · rw [List.mem_singleton.mp z]; exact nb
      · rintro σ' zs H2 ⟨v, ps, xs, rfl, rfl, e2, a2, pr2, xl, fx⟩
        have g2 := g1.same e2
        have nb : ac2 ≠ acc := fun z => by rw [z] at hac2; exact absurd g1.top (by rw [hac2]; simp)
        refine ⟨g2.top, by rw [List.length_map]; exact small_line (by omega), cturn hi ⟨_, cs ++ [ac2], R ++ [xs], rfl, by simp, Same.fresh (e1.trans e2) hacc, g2.snoc na nb a2 pr2, ?_, by rw [List.length_append, rl]; rfl, fun fs hfs => ?_⟩⟩
        · intro z
          rcases List.mem_append.mp z with z | z
          · exact na z
          · exact nb (List.mem_singleton.mp z).symm
        · rcases List.mem_append.mp hfs with z | z
          · exact inv fs z
          · rw [List.mem_singleton.mp z]; exact ⟨xl, fx⟩
    · rintro σ' ys H1 ⟨v, cs, R, rfl, rfl, e1, g1, na, rl, inv⟩
      walk_at "rd"
      exact q acc cs R H1 e1 hacc g1 rl inv
theorem sc__law_plus : FnScope ["_law_one", "_law_other"] ["_law_one", "_law_other"] (defScope s__law_plus) := ⟨rfl, rfl, rfl, by decide +kernel, rfl, by decide +kernel, by decide +kernel⟩
theorem ok__law_plus (D : Def K mg "_law_plus" s__law_plus ["_law_one", "_law_other"]) (T : Txt K mg Z) (h__law_lowest : Has P w K mg base (CXe P w) "_law_lowest" 2 ["_law_top", "_law_bottom"] sp_ratio) : Has P w K mg base (CXe P w) "_law_plus" 3 ["_law_one", "_law_other"] sp_plus := by
  refine D.hasN sc__law_plus (fun vs H Q E h => ?_) (fun f cdv A outer s H vs Q E hr h => ?_)
  · obtain ⟨p, q, f, g, rfl, _⟩ := h; rfl
  · obtain ⟨p, q, f, g, rfl, hp, hq, f0, g0, ⟨z1, z2, z3, z4⟩, k⟩ := h
    have m1 := z1.mulOk z4
    have m2 := z3.mulOk z2
    have m3 := z2.mulOk z4
    refine ⟨_, (pss_one (ps_ret (pe_callH h__law_lowest hr passN (pa_cons (pe_op op_add (pe_op op_mulS (pe_ix ix_tup (pv 0) pe_int (fun _ _ => rfl)) (pe_ix ix_tup (pv 1) pe_int (fun _ _ => rfl))) (pe_op op_mulS (pe_ix ix_tup (pv 1) pe_int (fun _ _ => rfl)) (pe_ix ix_tup (pv 0) pe_int (fun _ _ => rfl)))) (pa_cons (pe_op op_mulS (pe_ix ix_tup (pv 0) pe_int (fun _ _ => rfl)) (pe_ix ix_tup (pv 1) pe_int (fun _ _ => rfl))) pa_nil))))), ?_⟩
    try dsimp only [cx_K]
    walk_at "rd"
    have := Int.mul_pos f0 g0
    refine ⟨_, _, rfl, by omega, (z2.mul z4).mono (by decide), fun t u r H1 low e1 hr1 => k t u r H1 low e1 hr1⟩
theorem sc__law_times : FnScope ["_law_one", "_law_other"] ["_law_one", "_law_other"] (defScope s__law_times) := ⟨rfl, rfl, rfl, by decide +kernel, rfl, by decide +kernel, by decide +kernel⟩
theorem ok__law_times (D : Def K mg "_law_times" s__law_times ["_law_one", "_law_other"]) (T : Txt K mg Z) (h__law_lowest : Has P w K mg base (CXe P w) "_law_lowest" 2 ["_law_top", "_law_bottom"] sp_ratio) : Has P w K mg base (CXe P w) "_law_times" 3 ["_law_one", "_law_other"] sp_times := by
  refine D.hasN sc__law_times (fun vs H Q E h => ?_) (fun f cdv A outer s H vs Q E hr h => ?_)
  · obtain ⟨p, q, f, g, rfl, _⟩ := h; rfl
  · obtain ⟨p, q, f, g, rfl, hp, hq, f0, g0, ⟨z1, z2, z3, z4⟩, k⟩ := h
    have m1 := z1.mulOk z3
    have m3 := z2.mulOk z4
    refine ⟨_, (pss_one (ps_ret (pe_callH h__law_lowest hr passN (pa_cons (pe_op op_mulS (pe_ix ix_tup (pv 0) pe_int (fun _ _ => rfl)) (pe_ix ix_tup (pv 1) pe_int (fun _ _ => rfl))) (pa_cons (pe_op op_mulS (pe_ix ix_tup (pv 0) pe_int (fun _ _ => rfl)) (pe_ix ix_tup (pv 1) pe_int (fun _ _ => rfl))) pa_nil))))), ?_⟩
    try dsimp only [cx_K]
    walk_at "rd"
    have := Int.mul_pos f0 g0
    refine ⟨_, _, rfl, by omega, (z2.mul z4).mono (by decide), fun t u r H1 low e1 hr1 => k t u r H1 low e1 hr1⟩
theorem sc__law_steep : FnScope ["_law_script", "_law_many", "_law_rows_here", "_law_total", "_law_k", "_law_row", "_law_j"] ["_law_script", "_law_many"] (defScope s__law_steep) := ⟨rfl, rfl, rfl, by decide +kernel, rfl, by decide +kernel, by decide +kernel⟩
theorem ok__law_steep (D : Def K mg "_law_steep" s__law_steep ["_law_script", "_law_many"]) (T : Txt K mg Z) (h__law_mixed : Has P w K mg base (CXe P w) "_law_mixed" 2 ["_law_script", "_law_k"] (sp_mixed K)) : Has P w K mg base (CXe P w) "_law_steep" 3 ["_law_script", "_law_many"] (sp_steep K) := by
  refine D.hasN sc__law_steep (fun vs H Q E h => ?_) (fun f cdv A outer s H vs Q E hr h => ?_)
  · obtain ⟨a, ns, n, rfl, _⟩ := h; rfl
  · obtain ⟨a, ns, n, rfl, hS, n20, q⟩ := h
    refine ⟨_, (pss_cons (ps_set (i := 2) sc__law_steep.nd rfl (by first | exact Or.inl rfl | exact Or.inr rfl) (pe_lst pa_nil))
      (pss_cons (ps_set (i := 3) sc__law_steep.nd rfl (by first | exact Or.inl rfl | exact Or.inr rfl) pe_int)
      (pss_cons (ps_for PassesOwn.never rfl (pi_range1 rfl T.range (pa_cons (pv 1) pa_nil)) (pg_name (i := 4) sc__law_steep.nd rfl (by first | exact Or.inl rfl | exact Or.inr rfl))
      (pss_cons (ps_setC (i := 5) sc__law_steep.nd rfl (by first | exact Or.inl rfl | exact Or.inr rfl) (tg := ["_law_j"]) (fr := []) (by walk_at "blk_ok") rfl (pi_range1 rfl T.range (pa_cons (pv 4) pa_nil)) (fun _ _ _ _ _ => (pg_name (i := 0) (show [("_law_j" : Str)].Nodup by decide +kernel) rfl (by first | exact Or.inl rfl | exact Or.inr rfl))) (fun _ _ _ _ _ => pifs_nil) (fun _ _ _ _ _ => pe_int))
      (pss_cons (ps_for PassesOwn.never rfl (pi_range2 rfl T.range (pa_cons (pv 4) (pa_cons (pv 1) pa_nil))) (pg_name (i := 6) sc__law_steep.nd rfl (by first | exact Or.inl rfl | exact Or.inr rfl))
      (pss_one (ps_expr (pe_bm PySem.F.plainAttrs_list PySem.F.slot_list_append PySem.F.type_list_append mt_append (pv 5) (pa_cons (pe_op op_sub (pe_op op_mod (pe_callH h__law_mixed hr passN (pa_cons (pv 0) (pa_cons (pe_op op_add (pe_op op_add pe_int (pe_op op_mulS pe_int (pv 4))) (pv 6)) pa_nil))) pe_int) pe_int) pa_nil)))))
      (pss_cons (ps_if (pt_cmpR op_eq (pe_ix ix_list (pv 5) (pv 4) (fun _ _ => rfl)) pe_int (nomark _)) (pss_one (ps_asg pe_int (pg_sub (pv 5) (pv 4) set_list))) pss_nil)
      (pss_cons (ps_set (i := 3) sc__law_steep.nd rfl (by first | exact Or.inl rfl | exact Or.inr rfl) (pe_op op_mulS (pv 3) (pe_ix ix_list (pv 5) (pv 4) (fun _ _ => rfl))))
      (pss_one (ps_expr (pe_bm PySem.F.plainAttrs_list PySem.F.slot_list_append PySem.F.type_list_append mt_append (pv 2) (pa_cons (pv 5) pa_nil)))))))))
      (pss_one (ps_ret (pe_tup (pa_cons (pv 2) (pa_cons (pv 3) pa_nil)))))))), ?_⟩
    try dsimp only [cx_K]
    walk_at "rd"
    refine ⟨Nat.zero_le _, fun rs hrs => ?_⟩
    have e0 : Same H (upd H rs (.lst [])) := Same.upd hrs
    have r0 : upd H rs (.lst []) rs = some (.lst []) := upd_same
    generalize upd H rs (.lst []) = H0 at e0 r0 ⊢
    walk_at "rd"
    refine r_for ?_
    refine ⟨_, rfl, (n : Int), rfl, by omega, by omega, ?_⟩
    rw [Int.toNat_natCast]
    refine for_range (fun i σ H1 => ∃ (v4 v5 v6 : Option V) (as : List Addr) (L : List (List Int)), σ = [some (.ref a), some (.int (n : Int)), some (.ref rs), some (.int (pz i fun i => mx L i i)), v4, v5, v6] ∧ Same H H1 ∧ Grid H1 rs as L ∧ rs ∉ as ∧ Rect L i n ∧ (∀ l ∈ L, ∀ x ∈ l, x.natAbs ≤ 3) ∧ (∀ r j, j < r → r < i → mx L r j = 0) ∧ (pz i fun i => mx L i i).natAbs ≤ 3 ^ i)
      ⟨none, none, none, [], [], rfl, e0, ⟨r0, rfl, fun i a l z => by simp at z⟩, by simp, ⟨rfl, by simp⟩, by simp, fun r j _ z => by omega, by show (1 : Int).natAbs ≤ 1; decide⟩ ?_ ?_
    · rintro k σ H1 hk ⟨v4, v5, v6, as, L, rfl, e1, g1, na, rc, l3, low, tz⟩
      simp only [Int.zero_add]
      have hS1 := e1.seq hS
      have rcl := rc.len
      walk_at "rd"
      refine r_comp ?_
      refine ⟨_, rfl, (k : Int), rfl, by omega, by omega, ?_⟩
      rw [Int.toNat_natCast]
      intro acc hacc
      refine comp_range (fun j σ' ys H2 => ∃ v : Option V, σ' = [v] ∧ ys = (List.replicate j (0 : Int)).map V.int ∧ Same H1 H2 ∧ H2 acc = some (.lst ys))
        ⟨none, rfl, rfl, Same.upd hacc, upd_same⟩ ?_ ?_
      · rintro j σ' ys H2 hj ⟨v, rfl, rfl, e2, a2⟩
        simp only [Int.zero_add]
        walk_at "rd"
        exact ⟨a2, by rw [List.length_map, List.length_replicate]; exact small_line (by omega), cturn hj ⟨_, rfl, by rw [List.replicate_succ', List.map_append]; rfl, Same.fresh e2 hacc, upd_same⟩⟩
      · rintro σ' ys H2 ⟨v, rfl, rfl, e2, a2⟩
        walk_at "rd"
        refine r_for ?_
        refine ⟨_, rfl, _, rfl, (k : Int), (n : Int), rfl, by omega, ?_⟩
        rw [show ((n : Int) - (k : Int)).toNat = n - k by omega]
        refine for_range (fun i σ H3 => ∃ (xs : List Int) (w6 : Option V), σ = [some (.ref a), some (.int (n : Int)), some (.ref rs), some (.int (pz k fun i => mx L i i)), some (.int (k : Int)), some (.ref acc), w6] ∧ Same H1 H3 ∧ H3 acc = some (.lst ((List.replicate k (0 : Int) ++ xs).map V.int)) ∧ xs.length = i ∧ ∀ x ∈ xs, x.natAbs ≤ 3)
          ⟨[], _, rfl, e2, by rw [List.append_nil]; exact a2, rfl, by simp⟩ ?_ ?_
        · rintro i σ H3 hi ⟨xs, w6, rfl, e3, a3, xl, x3⟩
          walk_at "rd"
          refine ⟨.inl ⟨rfl, _, SqL.of a3⟩, ?_⟩
          walk_at "rd"
          refine ⟨a, ns, _, rfl, e3.seq hS1, by omega, by omega, fun mm m0 m1 => ?_⟩
          walk_at "rd"
          refine r_append a3 (by rw [List.length_map, List.length_append, List.length_replicate]; exact small_line (by omega)) ?_
          refine ⟨xs ++ [mm % 7 - 3], _, rfl, Same.fresh e3 hacc, by rw [← List.append_assoc, show (List.replicate k (0 : Int) ++ xs ++ [mm % 7 - 3]).map V.int = (List.replicate k (0 : Int) ++ xs).map V.int ++ [V.int (mm % 7 - 3)] from List.map_append]; exact upd_same, by rw [List.length_append, xl]; rfl, fun x hx => ?_⟩
          rcases List.mem_append.mp hx with z | z
          · exact x3 x z
          · rw [List.mem_singleton.mp z]; omega
        · rintro σ H3 ⟨xs, w6, rfl, e3, a3, xl, x3⟩
          obtain ⟨x, xs, rfl⟩ : ∃ x ys, xs = x :: ys := by
            cases xs with
            | nil => simp at xl; omega
            | cons x ys => exact ⟨x, ys, rfl⟩
          have ixk : ∀ y : Int, atI ((List.replicate k (0 : Int) ++ y :: xs).map V.int) ((k : Nat) : Int) = some (V.int y) := fun y => atI_nat (by rw [List.getElem?_map, List.getElem?_append_right (by rw [List.length_replicate]; omega), List.length_replicate, Nat.sub_self]; rfl)
          dsimp only
          refine r_seqK (fun σ' H6 => ∃ (w6 : Option V) (y : Int), σ' = [some (.ref a), some (.int (n : Int)), some (.ref rs), some (.int (pz k fun i => mx L i i)), some (.int (k : Int)), some (.ref acc), w6] ∧ Same H1 H6 ∧ H6 acc = some (.lst ((List.replicate k (0 : Int) ++ y :: xs).map V.int)) ∧ y.natAbs ≤ 3) (fun σ' H6 hh => ?_) (fun TT hT => ?_)
          · obtain ⟨w6, y, rfl, e6, a6, y3⟩ := hh
            have mok : IntMulOk (pz k fun i => mx L i i) y := Sz.mulOk (m := 9000) (n := 9000) (Nat.lt_of_le_of_lt (Nat.le_trans tz (Nat.pow_le_pow_left (show 3 ≤ 2 ^ 2 by decide) k)) (by rw [← Nat.pow_mul]; exact Nat.pow_lt_pow_right (by decide) (by omega))) (Nat.lt_of_le_of_lt y3 (Nat.lt_of_lt_of_le (show 3 < 2 ^ 2 by decide) (Nat.pow_le_pow_right (by decide) (by decide))))
            have g6 := g1.same e6
            walk_at "rd"
            refine r_ixL (SqL.of a6) (ixk y) ?_
            walk_at "rd"
            refine ⟨.inl ⟨rfl, _, SqL.of g6.top⟩, ?_⟩
            walk_at "rd"
            have gl := g1.len
            refine r_append g6.top (by rw [List.length_map]; exact small_line (by omega)) ?_
            have nb : acc ≠ rs := fun z => by rw [z] at hacc; exact absurd g1.top (by rw [hacc]; simp)
            have row : (L ++ [List.replicate k (0 : Int) ++ y :: xs])[k]? = some (List.replicate k (0 : Int) ++ y :: xs) := by rw [List.getElem?_append_right (by omega), rcl, Nat.sub_self]; rfl
            have old : ∀ r j, r < k → mx (L ++ [List.replicate k (0 : Int) ++ y :: xs]) r j = mx L r j := fun r j hr => by
              obtain ⟨l, hl, _⟩ := rc.at hr
              rw [mx_at hl, mx_at (l := l) (by rw [List.getElem?_append_left (by omega)]; exact hl)]
            have own : mx (L ++ [List.replicate k (0 : Int) ++ y :: xs]) k k = y := mx_eq row (by rw [List.getElem?_append_right (by rw [List.length_replicate]; omega), List.length_replicate, Nat.sub_self]; rfl)
            have pzc : ∀ (m : Nat) (f g : Nat → Int), (∀ i, i < m → f i = g i) → pz m f = pz m g := fun m => by
              induction m with
              | zero => intro f g _; rfl
              | succ m ih =>
                intro f g h
                show f 0 * pz m _ = g 0 * pz m _
                rw [h 0 (by omega), ih _ (fun i => g (i + 1)) fun i hi => h (i + 1) (by omega)]
            have pzn : (pz (k + 1) fun i => mx (L ++ [List.replicate k (0 : Int) ++ y :: xs]) i i) = (pz k fun i => mx L i i) * y := by
              rw [pz_snoc, own, pzc k _ (fun i => mx L i i) fun i hi => old i i hi]
            refine ⟨_, _, _, as ++ [acc], L ++ [List.replicate k (0 : Int) ++ y :: xs], by rw [pzn]; rfl, Same.fresh (e1.trans e6) hrs, g6.snoc na nb a6, ?_, ⟨by rw [List.length_append, rcl]; rfl, fun l hl => ?_⟩, fun l hl x' hx' => ?_, fun r j hj hr => ?_, ?_⟩
            · intro z
              rcases List.mem_append.mp z with z | z
              · exact na z
              · exact nb (List.mem_singleton.mp z).symm
            · rcases List.mem_append.mp hl with z | z
              · exact rc.row l z
              · rw [List.mem_singleton.mp z, List.length_append, List.length_replicate]
                rw [List.length_cons] at xl ⊢
                omega
            · rcases List.mem_append.mp hl with z | z
              · exact l3 l z x' hx'
              · rw [List.mem_singleton.mp z] at hx'
                rcases List.mem_append.mp hx' with z2 | z2
                · rw [(List.mem_replicate.mp z2).2]; decide
                · rcases List.mem_cons.mp z2 with rfl | z2
                  · exact y3
                  · exact x3 x' (List.mem_cons_of_mem _ z2)
            · by_cases z : r < k
              · rw [old r j z]; exact low r j hj z
              · have er : r = k := by omega
                subst er
                exact mx_eq row (by rw [List.getElem?_append_left (by rw [List.length_replicate]; exact hj), List.getElem?_replicate, if_pos hj])
            · rw [pzn, Int.natAbs_mul, Nat.pow_succ]
              exact Nat.mul_le_mul tz y3
          · walk_at "rd"
            refine r_ixL (SqL.of a3) (ixk x) ?_
            walk_at "rd"
            refine if2 (fun z => ?_) (fun z => ?_)
            · walk_at "rd"
              refine ⟨_, rfl, _, rfl, acc, _, _, k, rfl, rfl, a3, ixN_of (by omega) (by rw [List.length_map, List.length_append, List.length_replicate, List.length_cons]; omega), ?_⟩
              refine hT _ _ ⟨_, 2, rfl, Same.fresh e3 hacc, ?_, by decide⟩
              rw [upd_same, show V.int 2 = V.int (2 : Int) from rfl, ← List.map_set, List.set_append_right _ _ (by rw [List.length_replicate]; omega), List.length_replicate, Nat.sub_self]
              rfl
            · walk_at "rd"
              exact hT _ _ ⟨_, x, rfl, e3, a3, x3 x List.mem_cons_self⟩
    · rintro σ H1 ⟨v4, v5, v6, as, L, rfl, e1, g1, na, rc, l3, low, tz⟩
      walk_at "rd"
      intro r hr1
      exact q r rs as L _ (e1.trans (Same.upd hr1)) hrs (g1.same (Same.upd hr1)) na rc l3 low upd_same tz
theorem szd_great {n : Nat} {R : List (List (Int × Int))} (hn : n ≤ 20) (h : ∀ fs ∈ R, ∀ f ∈ fs, f.2 = 1 ∧ f.1.natAbs ≤ 6) : SzD n R (2 ^ 10) 1 := by
  have pd1 : ∀ fs : List (Int × Int), (∀ f ∈ fs, f.2 = 1 ∧ f.1.natAbs ≤ 6) → pd fs = 1 := fun fs => by
    induction fs with
    | nil => intro _; rfl
    | cons f fs ih =>
      intro h
      show f.2.natAbs * pd fs = 1
      rw [ih fun g hg => h g (List.mem_cons_of_mem _ hg), (h f List.mem_cons_self).1]
      rfl
  refine ⟨by decide, fun fs hfs f hf => ?_, ?_, Nat.le_refl _, fun fs hfs => by rw [pd1 fs (h fs hfs)]; exact Nat.le_refl _, by rw [Nat.one_pow]; exact Nat.one_lt_two_pow (by decide), fun fs hfs => ⟨fun f hf => by rw [(h fs hfs f hf).1]; decide, fun f hf => ?_, fun f hf => ?_⟩⟩
  · rw [pd1 fs (h fs hfs)]
    have := (h fs hfs f hf).2
    have e : (2 : Nat) ^ 10 = 1024 := by decide
    omega
  · have h1 : (n + 1) * (2 * 2 ^ 10) ≤ 2 ^ 5 * (2 * 2 ^ 10) := Nat.mul_le_mul_right _ (by omega)
    have h2 : 2 ^ 5 * (2 * 2 ^ 10) = 2 ^ 16 := by decide
    rw [h2] at h1
    refine Nat.lt_of_le_of_lt (Nat.pow_le_pow_left h1 _) ?_
    rw [← Nat.pow_mul]
    exact Nat.pow_lt_pow_right (by decide) (by omega)
  · exact Sz.mono (m := 3) (by have := (h fs hfs f hf).2; show f.1.natAbs < 8; omega) (by decide)
  · rw [(h fs hfs f hf).1]
    exact Sz.mono (m := 1) (by unfold Sz; decide) (by decide)
theorem sc__law_great : FnScope ["_law_script", "_law_many", "_law_rows_here", "_law_total", "_law_k", "_law_at", "_law_handed", "_law_first"] ["_law_script"] (defScope s__law_great) := ⟨rfl, rfl, rfl, by decide +kernel, rfl, by decide +kernel, by decide +kernel⟩
theorem ok__law_great (D : Def K mg "_law_great" s__law_great ["_law_script"]) (T : Txt K mg Z) (h_determinant : Has P w K mg base (CXe P w) "determinant" 4 ["rows"] sp_det) (h__law_mixed : Has P w K mg base (CXe P w) "_law_mixed" 2 ["_law_script", "_law_k"] (sp_mixed K)) (h__law_steep : Has P w K mg base (CXe P w) "_law_steep" 3 ["_law_script", "_law_many"] (sp_steep K)) : Has P w K mg base (CXe P w) "_law_great" 5 ["_law_script"] (sp_great K) := by
  refine D.hasN sc__law_great (fun vs H Q E h => ?_) (fun f cdv A outer s H vs Q E hr h => ?_)
  · obtain ⟨a, ns, rfl, _⟩ := h; rfl
  · obtain ⟨a, ns, rfl, hS, q⟩ := h
    refine ⟨_, (pss_cons (ps_set (i := 1) sc__law_great.nd rfl (by first | exact Or.inl rfl | exact Or.inr rfl) (pe_op op_add pe_int (pe_op op_mod (pe_callH h__law_mixed hr passN (pa_cons (pv 0) (pa_cons pe_int pa_nil))) pe_int)))
      (pss_cons (ps_asg (pe_callH h__law_steep hr passN (pa_cons (pv 0) (pa_cons (pv 1) pa_nil))) (pg_tup (n := 2) rfl (pgs_cons (pg_name (i := 2) sc__law_great.nd rfl (by first | exact Or.inl rfl | exact Or.inr rfl)) (pgs_cons (pg_name (i := 3) sc__law_great.nd rfl (by first | exact Or.inl rfl | exact Or.inr rfl)) pgs_nil))))
      (pss_cons (ps_for PassesOwn.never rfl (pi_range2 rfl T.range (pa_cons pe_int (pa_cons (pv 1) pa_nil))) (pg_name (i := 4) sc__law_great.nd rfl (by first | exact Or.inl rfl | exact Or.inr rfl))
      (pss_one (ps_asg (pe_comp (tg := ["_law_one", "_law_other"]) (fr := []) (by walk_at "blk_ok") rfl (pi_zip T.zip (pa_cons (pe_ix ix_list (pv 2) pe_int (fun _ _ => rfl)) (pa_cons (pe_ix ix_list (pv 2) (pv 4) (fun _ _ => rfl)) pa_nil))) (fun _ _ _ _ _ => (pg_tupK (K := K) rfl (n := 2) rfl (pgs_cons (pg_name (i := 0) (show [("_law_one" : Str), ("_law_other" : Str)].Nodup by decide +kernel) rfl (by first | exact Or.inl rfl | exact Or.inr rfl)) (pgs_cons (pg_name (i := 1) (show [("_law_one" : Str), ("_law_other" : Str)].Nodup by decide +kernel) rfl (by first | exact Or.inl rfl | exact Or.inr rfl)) pgs_nil)))) (fun _ _ _ _ _ => pifs_nil) (fun _ _ _ _ _ => (pe_op op_add (pv 0) (pv 1)))) (pg_sub (pv 2) (pv 4) set_list))))
      (pss_cons (ps_set (i := 5) sc__law_great.nd rfl (by first | exact Or.inl rfl | exact Or.inr rfl) (pe_op op_add pe_int (pe_op op_mod (pe_callH h__law_mixed hr passN (pa_cons (pv 0) (pa_cons pe_int pa_nil))) (pe_op op_sub (pv 1) pe_int))))
      (pss_cons (ps_setC (i := 6) sc__law_great.nd rfl (by first | exact Or.inl rfl | exact Or.inr rfl) (tg := ["_law_row"]) (fr := []) (by walk_at "blk_ok") rfl (pi_list (pv 2)) (fun _ _ _ _ _ => (pg_name (i := 0) (show [("_law_row" : Str)].Nodup by decide +kernel) rfl (by first | exact Or.inl rfl | exact Or.inr rfl))) (fun _ _ _ _ _ => pifs_nil) (by intro _ _ _ _ _; exact pe_comp (tg := ["_law_number_here"]) (fr := []) (by walk_at "blk_ok") rfl (by exact (pi_listK (K := K) rfl (pv 0))) (by exact (fun _ _ _ _ _ => (pg_name (i := 0) (show [("_law_number_here" : Str)].Nodup by decide +kernel) rfl (by first | exact Or.inl rfl | exact Or.inr rfl)))) (by exact (fun _ _ _ _ _ => pifs_nil)) (by exact (fun _ _ _ _ _ => (pe_tup (pa_cons (pv 0) (pa_cons pe_int pa_nil)))))))
      (pss_cons (ps_if (pt_cmpR (op_neD hr.units) (pe_callH h_determinant hr passN (pa_cons (pv 6) pa_nil)) (pe_tup (pa_cons (pv 3) (pa_cons pe_int pa_nil))) (nomark _)) (pss_one (ps_ret pe_bl)) pss_nil)
      (pss_cons (ps_set (i := 7) sc__law_great.nd rfl (by first | exact Or.inl rfl | exact Or.inr rfl) (pe_ix ix_list (pv 6) pe_int (fun _ _ => rfl)))
      (pss_cons (ps_asg (pe_ix ix_list (pv 6) (pv 5) (fun _ _ => rfl)) (pg_sub (pv 6) pe_int set_list))
      (pss_cons (ps_asg (pv 7) (pg_sub (pv 6) (pv 5) set_list))
      (pss_one (ps_ret (pe_cmpR (op_eqD hr.units) (pe_callH h_determinant hr passN (pa_cons (pv 6) pa_nil)) (pe_tup (pa_cons (pe_op op_sub pe_int (pv 3)) (pa_cons pe_int pa_nil))) (nomark _))))))))))))), ?_⟩
    try dsimp only [cx_K]
    walk_at "rd"
    refine ⟨a, ns, 63, rfl, hS, by decide, by decide, fun m1 m10 m11 => ?_⟩
    walk_at "rd"
    obtain ⟨n, hn⟩ := Int.eq_ofNat_of_zero_le (show 0 ≤ 16 + m1 % 5 by omega)
    rw [hn]
    have n16 : 16 ≤ n := by omega
    have n20 : n ≤ 20 := by omega
    refine ⟨a, ns, n, rfl, hS, n20, fun r p as L H1 e1 fp g1 na rc l3 low hr1 tz => ?_⟩
    refine r_gtup (SqT.of hr1) rfl ?_
    walk_at "rd"
    refine r_for ?_
    refine ⟨_, rfl, 1, (n : Int), rfl, by omega, ?_⟩
    rw [show ((n : Int) - 1).toNat = n - 1 by omega]
    have rcl := rc.len
    refine for_range (fun i σ H2 => ∃ (v4 : Option V) (bs : List Addr) (M : List (List Int)), σ = [some (.ref a), some (.int (n : Int)), some (.ref p), some (.int (pz n fun i => mx L i i)), v4, none, none, none] ∧ Same H H2 ∧ Grid H2 p bs M ∧ p ∉ bs ∧ Rect M n n ∧ ∀ r j, r < n → j < n → mx M r j = if 1 ≤ r ∧ r < 1 + i then mx L r j + mx L 0 j else mx L r j)
      ⟨none, as, L, rfl, e1, g1, na, rc, fun r j _ _ => by rw [if_neg (by omega)]⟩ ?_ ?_
    · rintro i σ H2 hi ⟨v4, bs, M, rfl, e2, g2, nb, rm, mm⟩
      rw [show (1 : Int) + (i : Int) = ((1 + i : Nat) : Int) by omega]
      have ml := rm.len
      obtain ⟨a0, l0, ha0, hl0, hr0⟩ := g2.at (i := 0) (by omega)
      obtain ⟨ak, lk, hak, hlk, hrk⟩ := g2.at (i := 1 + i) (by omega)
      have ll0 := rm.row l0 (List.mem_of_getElem? hl0)
      have llk := rm.row lk (List.mem_of_getElem? hlk)
      walk_at "rd"
      refine r_comp ?_
      refine r_cons ?_
      walk_at "rd"
      refine r_ixL (SqL.of g2.top) (show atI (bs.map V.ref) ((0 : Nat) : Int) = some (V.ref a0) from g2.ix ha0) ?_
      walk_at "rd"
      refine r_ixL (SqL.of g2.top) (g2.ix hak) ?_
      walk_at "rd"
      refine ⟨a0, ak, rfl, ⟨_, SqL.of hr0⟩, ⟨_, SqL.of hrk⟩, fun acc hacc => ?_⟩
      refine comp_zip (K := K) (a := a0) (b := ak) (xs := l0.map V.int) (ys := lk.map V.int) (n := n) (by rw [List.length_map, List.length_map]; omega) (fun i σ' zs H3 => ∃ v1 v2 : Option V, σ' = [v1, v2] ∧ zs = ((List.zipWith (· + ·) l0 lk).take i).map V.int ∧ Same H2 H3 ∧ H3 acc = some (.lst zs))
        ⟨none, none, rfl, rfl, Same.upd hacc, upd_same⟩ (fun i σ' zs H3 _ ⟨_, _, _, _, e, _⟩ => ⟨SqL.of (e _ _ hr0), SqL.of (e _ _ hrk)⟩) ?_ ?_
      · rintro j x1 y1 pr σ' zs H3 hx1 hy1 hj ⟨v1, v2, rfl, rfl, e3, a3⟩ hpr
        obtain ⟨x1, hx2, rfl⟩ := int_at hx1
        obtain ⟨y1, hy2, rfl⟩ := int_at hy1
        have e4 : Same H3 (upd H3 pr (.tup [.int x1, .int y1])) := Same.upd hpr
        refine r_gtup (SqT.of upd_same) rfl ?_
        generalize upd H3 pr (.tup [.int x1, .int y1]) = H4 at e4 ⊢
        walk_at "rd"
        refine ⟨e4 _ _ a3, by rw [List.length_map, List.length_take]; exact small_line (by omega), cturn hj ⟨_, _, rfl, ?_, Same.fresh (e3.trans e4) hacc, upd_same⟩⟩
        rw [zip_take hx2 hy2, List.map_append]
        rfl
      · rintro σ' zs H3 ⟨v1, v2, rfl, rfl, e3, a3⟩
        rw [List.take_of_length_le (by rw [List.length_zipWith]; omega)] at a3
        have g3 := g2.same e3
        have nacc : acc ≠ p := fun z => by rw [z] at hacc; exact absurd g2.top (by rw [hacc]; simp)
        walk_at "rd"
        refine ⟨_, rfl, _, rfl, p, _, _, 1 + i, rfl, rfl, g3.top, ixN_of (by omega) (by rw [List.length_map, g3.len]; omega), ?_⟩
        refine ⟨_, bs.set (1 + i) acc, M.set (1 + i) (List.zipWith (· + ·) l0 lk), rfl, Same.fresh (e2.trans e3) fp, g3.setRow nb nacc a3, ?_, ⟨by rw [List.length_set]; exact ml, fun l hl => ?_⟩, fun r j hr hj => ?_⟩
        · intro z
          rcases List.mem_or_eq_of_mem_set z with z | z
          · exact nb z
          · exact nacc z.symm
        · rcases List.mem_or_eq_of_mem_set hl with z | rfl
          · exact rm.row l z
          · rw [List.length_zipWith]; omega
        · rw [mx_set (by omega)]
          by_cases z : r = 1 + i
          · subst z
            rw [rl_self, zip_add (by omega), if_pos ⟨by omega, by omega⟩, ← mx_at hl0, ← mx_at hlk, mm 0 j (by omega) hj, mm (1 + i) j hr hj, if_neg (by omega), if_neg (by omega)]
            omega
          · rw [rl_ne _ _ z, mm r j hr hj]
            by_cases y : 1 ≤ r ∧ r < 1 + i
            · rw [if_pos y, if_pos ⟨y.1, by omega⟩]
            · rw [if_neg y, if_neg (by omega)]
    · rintro σ H2 ⟨v4, bs, M, rfl, e2, g2, nb, rm, mm⟩
      have ml := rm.len
      have mm2 : ∀ i j, i < n → j < n → mx M i j = if 1 ≤ i then mx L i j + mx L 0 j else mx L i j := fun i j hi hj => by
        rw [mm i j hi hj]
        by_cases z : 1 ≤ i
        · rw [if_pos z, if_pos ⟨z, by omega⟩]
        · rw [if_neg z, if_neg (by omega)]
      have m6 : ∀ l ∈ M, ∀ x ∈ l, x.natAbs ≤ 6 := fun l hl x hx => by
        obtain ⟨i, hi⟩ := List.mem_iff_getElem?.mp hl
        obtain ⟨j, hj⟩ := List.mem_iff_getElem?.mp hx
        have il := (List.getElem?_eq_some_iff.mp hi).1
        have jl := (List.getElem?_eq_some_iff.mp hj).1
        have ll := rm.row l hl
        have bd : ∀ r, r < n → (mx L r j).natAbs ≤ 3 := fun r hr => by
          obtain ⟨l', hl', ll'⟩ := rc.at hr
          obtain ⟨y, hy⟩ : ∃ y, l'[j]? = some y := ⟨l'[j]'(by omega), by simp [show j < l'.length by omega]⟩
          rw [mx_eq hl' hy]
          exact l3 l' (List.mem_of_getElem? hl') y (List.mem_of_getElem? hy)
        have h1 := bd i (by omega)
        have h2 := bd 0 (by omega)
        rw [← mx_eq hi hj, mm2 i j (by omega) (by omega)]
        split <;> omega
      have hpn : (0 : Int) < (n : Int) - 1 := by omega
      walk_at "rd"
      refine ⟨a, ns, 64, rfl, e2.seq hS, by decide, by decide, fun m2 m20 m21 => ?_⟩
      walk_at "rd"
      have d0 := Int.emod_nonneg m2 (show (n : Int) - 1 ≠ 0 by omega)
      have d1 := Int.emod_lt_of_pos m2 hpn
      obtain ⟨at_, hat⟩ := Int.eq_ofNat_of_zero_le (show 0 ≤ 1 + m2 % ((n : Int) - 1) by omega)
      rw [hat]
      have at1 : 1 ≤ at_ := by omega
      have atn : at_ < n := by omega
      walk_at "rd"
      refine r_comp ?_
      refine ⟨_, rfl, p, rfl, ⟨_, SqL.of g2.top⟩, fun acc hacc => ?_⟩
      refine comp_list (K := K) (a := p) (xs := bs.map V.ref) (fun i σ' zs Hx => ∃ (cs : List Addr) (v : Option V), σ' = [v] ∧ zs = cs.map V.ref ∧ Same H2 Hx ∧ cs.length = i ∧ FG Hx acc cs (frL (M.take i)) ∧ acc ∉ cs)
        ⟨[], none, rfl, rfl, Same.upd hacc, rfl, ⟨upd_same, rfl, fun i a l z => by simp at z⟩, by simp⟩ (fun i σ' ys Hx _ ⟨_, _, _, _, e, _⟩ => SqL.of (e _ _ g2.top)) ?_ ?_
      · rintro i x σ' zs Hx hx hi ⟨cs, v, rfl, rfl, ex, csl, gx, nac⟩
        have hi2 := hi
        rw [List.length_map, g2.len] at hi2
        obtain ⟨ra, l, hra, hl, hrow⟩ := g2.at hi2
        obtain ⟨ra2, hra2, rfl⟩ := ref_at hx
        rw [hra] at hra2
        cases hra2
        have hrowx := ex _ _ hrow
        walk_at "rd"
        refine r_comp ?_
        refine ⟨_, rfl, ra, rfl, ⟨_, SqL.of hrowx⟩, fun ac2 hac2 => ?_⟩
        refine comp_list (K := K) (a := ra) (xs := l.map V.int) (fun j σ' zs Hy => ∃ (ps : List Addr) (v : Option V), σ' = [v] ∧ zs = ps.map V.ref ∧ Same Hx Hy ∧ Hy ac2 = some (.lst zs) ∧ PR Hy ps ((l.take j).map fun x => (x, 1)))
          ⟨[], none, rfl, rfl, Same.upd hac2, upd_same, .nil⟩ (fun j σ' ys Hy _ ⟨_, _, _, _, e, _⟩ => SqL.of (e _ _ hrowx)) ?_ ?_
        · rintro j y σ' zs Hy hy hj ⟨ps, v, rfl, rfl, ey, ay, pry⟩
          obtain ⟨y, hy2, rfl⟩ := int_at hy
          have jl := hj
          rw [List.length_map] at jl
          have ll := rm.row l (List.mem_of_getElem? hl)
          walk_at "rd"
          intro tp htp
          have et : Same Hy (upd Hy tp (.tup [.int y, .int 1])) := Same.upd htp
          have psl := pry.len
          rw [List.length_map, List.length_take] at psl
          refine ⟨et _ _ ay, by rw [List.length_map]; exact small_line (by omega), cturn hj ⟨ps ++ [tp], _, rfl, by simp, Same.fresh (ey.trans et) hac2, upd_same, ?_⟩⟩
          refine PR.off ?_ (.inr (et _ _ ay))
          rw [List.take_succ, hy2, Option.toList_some, List.map_append]
          exact PR.app (pry.same et) (.cons upd_same .nil)
        · rintro σ' zs Hy ⟨ps, v, rfl, rfl, ey, ay, pry⟩
          rw [List.length_map, List.take_length] at pry
          have gy := gx.same ey
          have nb2 : ac2 ≠ acc := fun z => by rw [z] at hac2; exact absurd gx.top (by rw [hac2]; simp)
          refine ⟨gy.top, by rw [List.length_map]; exact small_line (by omega), cturn hi ⟨cs ++ [ac2], _, rfl, by simp, Same.fresh (ex.trans ey) hacc, by simp [csl], ?_, ?_⟩⟩
          · have e : frL (M.take (i + 1)) = frL (M.take i) ++ [l.map fun x => (x, 1)] := by
              unfold frL
              rw [take_snoc hl, List.map_append]
              rfl
            rw [e]
            exact gy.snoc nac nb2 ay pry
          · intro z
            rcases List.mem_append.mp z with z | z
            · exact nac z
            · exact nb2 (List.mem_singleton.mp z).symm
      · rintro σ' zs H3 ⟨cs, v, rfl, rfl, e3, csl, g3, nac⟩
        rw [List.length_map, g2.len, List.take_length] at g3
        have Rl : (frL M).length = n := by unfold frL; rw [List.length_map]; exact ml
        have Rr : ∀ fs ∈ frL M, fs.length = n ∧ ∀ f ∈ fs, f.2 = 1 ∧ f.1.natAbs ≤ 6 := fun fs hfs => by
          unfold frL at hfs
          obtain ⟨l, hl, rfl⟩ := List.mem_map.mp hfs
          refine ⟨by rw [List.length_map]; exact rm.row l hl, fun f hf => ?_⟩
          obtain ⟨x, hx, rfl⟩ := List.mem_map.mp hf
          exact ⟨rfl, m6 l hl x hx⟩
        have val : dq n (frL M) = ((pz n fun i => mx L i i : Int) : Rat) := dq_steep (by omega) rm low mm2
        have e03 := e2.trans e3
        walk_at "rd"
        refine ⟨acc, cs, frL M, n, 2 ^ 10, 1, rfl, g3, Rl, by omega, by omega, fun fs hfs => (Rr fs hfs).1, szd_great n20 fun fs hfs => (Rr fs hfs).2, fun t u r1 H4 lw qv _ _ e4 hr4 => ?_⟩
        walk_at "rd"
        intro t1 ht1
        have e5 : Same H4 (upd H4 t1 (.tup [.int (pz n fun i => mx L i i), .int 1])) := Same.upd ht1
        have same1 : (t, u) = ((pz n fun i => mx L i i), (1 : Int)) := qt_inj lw (lw_one _) (by rw [qv, val, qt_one])
        refine ⟨dPair (t, u), dPair ((pz n fun i => mx L i i), 1), rds_pair (e5 _ _ hr4), rds_pair upd_same, shaped_pair _, shaped_pair _, ?_⟩
        rw [if_pos rfl, eqv_pair, decide_eq_true same1]
        generalize upd H4 t1 (.tup [.int (pz n fun i => mx L i i), .int 1]) = H5 at e5 ⊢
        have e35 := e4.trans e5
        have g5 := g3.same e35
        obtain ⟨a0, f0, p0, ha0, hf0, hr0, hp0⟩ := g5.at (i := 0) (by omega)
        obtain ⟨ak, fk, pk, hak, hfk, hrk, hpk⟩ := g5.at (i := at_) (by omega)
        walk_at "rd"
        refine r_ixL (SqL.of g5.top) (show atI (cs.map V.ref) ((0 : Nat) : Int) = some (V.ref a0) from g5.ix ha0) ?_
        walk_at "rd"
        refine r_ixL (SqL.of g5.top) (g5.ix hak) ?_
        walk_at "rd"
        have nk : ak ≠ acc := fun z => by rw [z] at hak; exact nac (List.mem_of_getElem? hak)
        have n0 : a0 ≠ acc := fun z => by rw [z] at ha0; exact nac (List.mem_of_getElem? ha0)
        have gl5 := g5.len
        refine ⟨_, rfl, acc, _, _, 0, rfl, rfl, g5.top, ixN_of (by omega) (by rw [List.length_map]; omega), ?_⟩
        have g6 := g5.setRow (k := 0) nac nk hrk hpk
        have e6 : Same H2 (upd H5 acc (.lst ((cs.map V.ref).set 0 (.ref ak)))) := Same.fresh (e3.trans e35) hacc
        have x6 : upd H5 acc (.lst ((cs.map V.ref).set 0 (.ref ak))) a0 = some (.lst (p0.map V.ref)) := by rw [upd_ne n0]; exact hr0
        have y6 : PR (upd H5 acc (.lst ((cs.map V.ref).set 0 (.ref ak)))) p0 f0 := PR.off hp0 (.inr g5.top)
        dsimp only
        generalize upd H5 acc (.lst ((cs.map V.ref).set 0 (.ref ak))) = H6 at g6 e6 x6 y6 ⊢
        have na6 : acc ∉ cs.set 0 ak := fun z => by
          rcases List.mem_or_eq_of_mem_set z with z | z
          · exact nac z
          · exact nk z.symm
        walk_at "rd"
        refine ⟨_, rfl, _, rfl, acc, _, _, at_, rfl, rfl, g6.top, ixN_of (by omega) (by rw [List.length_map, List.length_set]; omega), ?_⟩
        have g7 := g6.setRow (k := at_) na6 n0 x6 y6
        have e7 : Same H2 (upd H6 acc (.lst (((cs.set 0 ak).map V.ref).set at_ (.ref a0)))) := Same.fresh e6 hacc
        dsimp only
        generalize upd H6 acc (.lst (((cs.set 0 ak).map V.ref).set at_ (.ref a0))) = H7 at g7 e7 ⊢
        have Rr2 : ∀ fs ∈ ((frL M).set 0 fk).set at_ f0, fs ∈ frL M := fun fs hfs => by
          rcases List.mem_or_eq_of_mem_set hfs with z | rfl
          · rcases List.mem_or_eq_of_mem_set z with z | rfl
            · exact z
            · exact List.mem_of_getElem? hfk
          · exact List.mem_of_getElem? hf0
        have val2 := dq_swap (c := 0) (d := at_) Rl (by omega) atn (by omega) hf0 hfk
        walk_at "rd"
        refine ⟨acc, _, _, n, 2 ^ 10, 1, rfl, g7, by rw [List.length_set, List.length_set]; exact Rl, by omega, by omega, fun fs hfs => (Rr fs (Rr2 fs hfs)).1, szd_great n20 fun fs hfs => (Rr fs (Rr2 fs hfs)).2, fun t9 u9 r9 H8 lw9 qv9 _ _ e8 hr8 => ?_⟩
        walk_at "rd"
        intro t2 ht2
        have e9 : Same H8 (upd H8 t2 (.tup [.int (0 - pz n fun i => mx L i i), .int 1])) := Same.upd ht2
        have same2 : (t9, u9) = ((0 - pz n fun i => mx L i i), (1 : Int)) := qt_inj lw9 (lw_one _) (by rw [qv9, val2, val, qt_one, Rat.intCast_sub]; show _ = (0 : Rat) - _; grind)
        refine ⟨dPair (t9, u9), dPair ((0 - pz n fun i => mx L i i), 1), rds_pair (e9 _ _ hr8), rds_pair upd_same, shaped_pair _, shaped_pair _, ?_⟩
        rw [if_neg Bool.false_ne_true, eqv_pair, decide_eq_true same2]
        exact q _ (((e2.trans e7).trans e8).trans e9)
theorem rep_flat (tp : Addr) : ∀ k : Nat, (List.replicate k [V.ref tp]).flatten = (List.replicate k tp).map V.ref
  | 0 => rfl
  | k + 1 => by rw [List.replicate_succ, List.flatten_cons, rep_flat tp k, List.replicate_succ]; rfl
theorem pr_snoc : ∀ (n : Nat) (f : Nat → Rat), Dq.pr (n + 1) f = Dq.pr n f * f n
  | 0, f => by show f 0 * 1 = 1 * f 0; grind
  | n + 1, f => by
    show f 0 * Dq.pr (n + 1) (fun i => f (i + 1)) = f 0 * Dq.pr n (fun i => f (i + 1)) * f (n + 1)
    rw [pr_snoc n (fun i => f (i + 1))]
    grind
theorem ifAn {c : Prop} [Decidable c] {ta tb : TS} {D : Ends} {σ : St} {H : Hp} (S : St → Hp → Prop) (key : ∀ σ' H', S σ' H' → D.nx σ' H') (h1 : ¬ c → ∀ T : St → Hp → Prop, (∀ σ' H', S σ' H' → T σ' H') → ta { D with nx := T } σ H) (h2 : c → ∀ T : St → Hp → Prop, (∀ σ' H', S σ' H' → T σ' H') → tb { D with nx := T } σ H) :
    if (!decide c) = true then ta D σ H else tb D σ H := if2n (fun z => h1 z D.nx key) fun z => h2 z D.nx key
theorem r_copyF {σ : St} {H : Hp} {Q : VK} {i : Nat} {p : Addr} {as : List Addr} {R : List (List (Int × Int))} (hv : σ[i]? = some (some (.ref p))) (g : FG H p as R) (hn : R.length ≤ 1000)
    (q : ∀ acc cs H', Same H H' → H acc = none → FG H' acc cs R → acc ∉ cs → Q (.ref acc) H') :
    tComp (iList K (tVar i)) (gName 0) tTrue (tCB (fun xs H Q => ∃ p ys, xs = [V.ref p] ∧ (SqL K H p ys ∨ SqT K H p ys) ∧ ∀ (l : Addr), H l = none → Q (V.ref l) (upd H l (HO.lst ys))) (tCons (tVar 0) tNil)) 1 [] σ H Q := by
  have gl := g.len
  refine r_comp ?_
  refine ⟨_, hv, p, rfl, ⟨_, SqL.of g.top⟩, fun acc hacc => ?_⟩
  refine comp_list (K := K) (a := p) (xs := as.map V.ref) (fun i σ' zs Hx => ∃ (cs : List Addr) (v : Option V), σ' = [v] ∧ zs = cs.map V.ref ∧ Same H Hx ∧ cs.length = i ∧ FG Hx acc cs (R.take i) ∧ acc ∉ cs)
    ⟨[], none, rfl, rfl, Same.upd hacc, rfl, ⟨upd_same, rfl, fun i a l z => by simp at z⟩, by simp⟩ (fun i σ' ys Hx _ ⟨_, _, _, _, e, _⟩ => SqL.of (e _ _ g.top)) ?_ ?_
  · rintro i x σ' zs Hx hx hi ⟨cs, v, rfl, rfl, ex, csl, gx, nac⟩
    have hi2 := hi
    rw [List.length_map, gl] at hi2
    obtain ⟨ra, fs, ps, hra, hfs, hrow, hps⟩ := g.at hi2
    obtain ⟨ra2, hra2, rfl⟩ := ref_at hx
    rw [hra] at hra2
    cases hra2
    walk_at "rd"
    refine ⟨ra, _, rfl, .inl (SqL.of (ex _ _ hrow)), fun c hc => ?_⟩
    have ey : Same Hx (upd Hx c (.lst (ps.map V.ref))) := Same.upd hc
    have cy : upd Hx c (.lst (ps.map V.ref)) c = some (.lst (ps.map V.ref)) := upd_same
    generalize upd Hx c (.lst (ps.map V.ref)) = Hy at ey cy ⊢
    have gy := gx.same ey
    have nca : c ≠ acc := fun z => by rw [z] at hc; exact absurd gx.top (by rw [hc]; simp)
    refine ⟨gy.top, by rw [List.length_map]; exact small_line (by omega), cturn hi ⟨cs ++ [c], _, rfl, by simp, Same.fresh (ex.trans ey) hacc, by simp [csl], ?_, ?_⟩⟩
    · rw [take_snoc hfs]; exact gy.snoc nac nca cy ((hps.same ex).same ey)
    · intro z
      rcases List.mem_append.mp z with z | z
      · exact nac z
      · exact nca (List.mem_singleton.mp z).symm
  · rintro σ' zs H11 ⟨cs, v, rfl, rfl, e11, csl, gh, nac⟩
    rw [List.length_map, gl, List.take_length] at gh
    exact q acc cs H11 e11 hacc gh nac
theorem dq_set {R : List (List (Int × Int))} {n c : Nat} {fs : List (Int × Int)} (hc : c < R.length) : dq n (R.set c fs) = Dq.det n (Dq.rl (fun i j => fa (R.getD i []) j) c (fa fs)) := by
  unfold dq
  refine congrArg (Dq.det n) ?_
  funext i j
  unfold Dq.rl
  by_cases z : i = c
  · subst z
    have : (R.set i fs).getD i [] = fs := by rw [List.getD_eq_getElem?_getD, List.getElem?_set_self hc]; rfl
    rw [if_pos rfl, this]
  · have : (R.set c fs).getD i [] = R.getD i [] := by rw [List.getD_eq_getElem?_getD, List.getD_eq_getElem?_getD, List.getElem?_set_ne (by omega)]
    rw [if_neg z, this]
theorem fa_snoc {xs : List (Int × Int)} {f : Int × Int} {l : Nat} (h : l < xs.length) : fa (xs ++ [f]) l = fa xs l := by
  unfold fa
  rw [List.getD_eq_getElem?_getD, List.getElem?_append_left h, ← List.getD_eq_getElem?_getD]
theorem fa_end (xs : List (Int × Int)) (f : Int × Int) : fa (xs ++ [f]) xs.length = qt f := fa_at (by rw [List.getElem?_append_right (Nat.le_refl _), Nat.sub_self]; rfl)
theorem sc_law : FnScope ["_law_script", "_law_many", "_law_rows_here", "_law_due", "_law_one", "_law_other", "_law_by", "_law_greater", "_law_added", "_law_changed", "_law_steps", "_law_total", "_law_k"] ["_law_script"] (defScope s_law) := ⟨rfl, rfl, rfl, by decide +kernel, rfl, by decide +kernel, by decide +kernel⟩
theorem ok_law {fa0 : Addr} {fd : FuncData} (F : Fun K "law" "law" s_law fa0 fd) (T : Txt K mg Z)
    (h_determinant : Has P w K mg base (CXe P w) "determinant" 4 ["rows"] sp_det) (h__law_cell_at : Has P w K mg base (CXe P w) "_law_cell_at" 1 ["_law_script", "_law_k"] (sp_cell K)) (h__law_mixed : Has P w K mg base (CXe P w) "_law_mixed" 2 ["_law_script", "_law_k"] (sp_mixed K)) (h__law_number : Has P w K mg base (CXe P w) "_law_number" 3 ["_law_script", "_law_k"] (sp_number K)) (h__law_rows : Has P w K mg base (CXe P w) "_law_rows" 4 ["_law_script", "_law_many"] (sp_rows K))
    (h__law_plus : Has P w K mg base (CXe P w) "_law_plus" 3 ["_law_one", "_law_other"] sp_plus) (h__law_times : Has P w K mg base (CXe P w) "_law_times" 3 ["_law_one", "_law_other"] sp_times) (h__law_great : Has P w K mg base (CXe P w) "_law_great" 5 ["_law_script"] (sp_great K)) : FnOk P w K mg base (CXe P w) 10 fa0 fd ["_law_script"] (sp_law K) := by
  refine F.okN sc_law (fun vs H Q E h => ?_) (fun cdv A outer s H vs Q E hr h => ?_)
  · obtain ⟨a, ns, rfl, _⟩ := h; rfl
  · obtain ⟨a, ns, rfl, hS, hlen, kk⟩ := h
    refine ⟨_, (pss_cons (ps_if (PW.pt (pw_and (pt_cmpR op_eq (pe_op op_mod (pe_callH h__law_cell_at hr passN (pa_cons (pv 0) (pa_cons pe_int pa_nil))) pe_int) pe_int (nomark _)) (pw_and1 (pt_not (pt_val (pe_callH h__law_great hr passN (pa_cons (pv 0) pa_nil))))))) (pss_one (ps_ret pe_bl)) pss_nil)
      (pss_cons (ps_set (i := 1) sc_law.nd rfl (by first | exact Or.inl rfl | exact Or.inr rfl) (pe_op op_add pe_int (pe_op op_mod (pe_callH h__law_cell_at hr passN (pa_cons (pv 0) (pa_cons pe_int pa_nil))) pe_int)))
      (pss_cons (ps_set (i := 2) sc_law.nd rfl (by first | exact Or.inl rfl | exact Or.inr rfl) (pe_callH h__law_rows hr passN (pa_cons (pv 0) (pa_cons (pv 1) pa_nil))))
      (pss_cons (ps_set (i := 3) sc_law.nd rfl (by first | exact Or.inl rfl | exact Or.inr rfl) (pe_callH h_determinant hr passN (pa_cons (pv 2) pa_nil)))
      (pss_cons (ps_if (pt_cmpR (op_neD hr.units) (pe_callH h_determinant hr passN (pa_cons (pe_comp1 (x0 := "_law_k") (tg := ["_law_k"]) (fr := [("_law_rows_here", 2)]) (by walk_at "blk_ok1") rfl (pi_range1 rfl T.range (pa_cons (pv 1) pa_nil)) (fun _ _ _ _ _ => (pg_name (i := 0) (show [("_law_k" : Str), ("_law_rows_here" : Str)].Nodup by decide +kernel) rfl (by first | exact Or.inl rfl | exact Or.inr rfl))) (fun _ _ _ _ _ => pifs_nil) (by intro _ _ _ _ _; exact pe_comp (tg := ["_law_row"]) (fr := [("_law_k", 0)]) (by walk_at "blk_ok") rfl (by exact (pi_listK (K := K) rfl (pv 1))) (by exact (fun _ _ _ _ _ => (pg_name (i := 0) (show [("_law_row" : Str), ("_law_k" : Str)].Nodup by decide +kernel) rfl (by first | exact Or.inl rfl | exact Or.inr rfl)))) (by exact (fun _ _ _ _ _ => pifs_nil)) (by exact (fun _ _ _ _ _ => (pe_ix (ix_listK (K := K) rfl) (pv 0) (pv 1) (fun _ _ => rfl)))))) pa_nil)) (pv 3) (nomark _)) (pss_one (ps_ret pe_bl)) pss_nil)
      (pss_cons (ps_set (i := 4) sc_law.nd rfl (by first | exact Or.inl rfl | exact Or.inr rfl) (pe_op op_mod (pe_callH h__law_mixed hr passN (pa_cons (pv 0) (pa_cons pe_int pa_nil))) (pv 1)))
      (pss_cons (ps_set (i := 5) sc_law.nd rfl (by first | exact Or.inl rfl | exact Or.inr rfl) (pe_op op_mod (pe_callH h__law_mixed hr passN (pa_cons (pv 0) (pa_cons pe_int pa_nil))) (pv 1)))
      (pss_cons (ps_set (i := 6) sc_law.nd rfl (by first | exact Or.inl rfl | exact Or.inr rfl) (pe_callH h__law_number hr passN (pa_cons (pv 0) (pa_cons pe_int pa_nil))))
      (pss_cons (ps_setC (i := 7) sc_law.nd rfl (by first | exact Or.inl rfl | exact Or.inr rfl) (tg := ["_law_row"]) (fr := []) (by walk_at "blk_ok") rfl (pi_list (pv 2)) (fun _ _ _ _ _ => (pg_name (i := 0) (show [("_law_row" : Str)].Nodup by decide +kernel) rfl (by first | exact Or.inl rfl | exact Or.inr rfl))) (fun _ _ _ _ _ => pifs_nil) (fun _ _ _ _ _ => (pe_callTy (call_list_ofK (K := K) rfl) (by rfl) T.list bt_list (pa_cons (pv 0) pa_nil))))
      (pss_cons (ps_asg (pe_comp (tg := ["_law_number_here"]) (fr := [("_law_by", 6)]) (by walk_at "blk_ok") rfl (pi_list (pe_ix ix_list (pv 2) (pv 4) (fun _ _ => rfl))) (fun _ _ _ _ _ => (pg_name (i := 0) (show [("_law_number_here" : Str), ("_law_by" : Str)].Nodup by decide +kernel) rfl (by first | exact Or.inl rfl | exact Or.inr rfl))) (fun _ _ _ _ _ => pifs_nil) (fun _ _ _ _ _ => (pe_callH h__law_times hr passN (pa_cons (pv 1) (pa_cons (pv 0) pa_nil))))) (pg_sub (pv 7) (pv 4) set_list))
      (pss_cons (ps_if (pt_cmpR (op_neD hr.units) (pe_callH h_determinant hr passN (pa_cons (pv 7) pa_nil)) (pe_callH h__law_times hr passN (pa_cons (pv 6) (pa_cons (pv 3) pa_nil))) (nomark _)) (pss_one (ps_ret pe_bl)) pss_nil)
      (pss_cons (ps_if (pt_cmpR op_ne (pv 4) (pv 5) (nomark _)) (pss_cons (ps_setC (i := 8) sc_law.nd rfl (by first | exact Or.inl rfl | exact Or.inr rfl) (tg := ["_law_row"]) (fr := []) (by walk_at "blk_ok") rfl (pi_list (pv 2)) (fun _ _ _ _ _ => (pg_name (i := 0) (show [("_law_row" : Str)].Nodup by decide +kernel) rfl (by first | exact Or.inl rfl | exact Or.inr rfl))) (fun _ _ _ _ _ => pifs_nil) (fun _ _ _ _ _ => (pe_callTy (call_list_ofK (K := K) rfl) (by rfl) T.list bt_list (pa_cons (pv 0) pa_nil))))
      (pss_cons (ps_asg (pe_comp (tg := ["_law_x", "_law_y"]) (fr := [("_law_by", 6)]) (by walk_at "blk_ok") rfl (pi_zip T.zip (pa_cons (pe_ix ix_list (pv 2) (pv 4) (fun _ _ => rfl)) (pa_cons (pe_ix ix_list (pv 2) (pv 5) (fun _ _ => rfl)) pa_nil))) (fun _ _ _ _ _ => (pg_tupK (K := K) rfl (n := 2) rfl (pgs_cons (pg_name (i := 0) (show [("_law_x" : Str), ("_law_y" : Str), ("_law_by" : Str)].Nodup by decide +kernel) rfl (by first | exact Or.inl rfl | exact Or.inr rfl)) (pgs_cons (pg_name (i := 1) (show [("_law_x" : Str), ("_law_y" : Str), ("_law_by" : Str)].Nodup by decide +kernel) rfl (by first | exact Or.inl rfl | exact Or.inr rfl)) pgs_nil)))) (fun _ _ _ _ _ => pifs_nil) (fun _ _ _ _ _ => (pe_callH h__law_plus hr passN (pa_cons (pv 0) (pa_cons (pe_callH h__law_times hr passN (pa_cons (pv 2) (pa_cons (pv 1) pa_nil))) pa_nil))))) (pg_sub (pv 8) (pv 4) set_list))
      (pss_cons (ps_setC (i := 9) sc_law.nd rfl (by first | exact Or.inl rfl | exact Or.inr rfl) (tg := ["_law_row"]) (fr := []) (by walk_at "blk_ok") rfl (pi_list (pv 2)) (fun _ _ _ _ _ => (pg_name (i := 0) (show [("_law_row" : Str)].Nodup by decide +kernel) rfl (by first | exact Or.inl rfl | exact Or.inr rfl))) (fun _ _ _ _ _ => pifs_nil) (fun _ _ _ _ _ => (pe_callTy (call_list_ofK (K := K) rfl) (by rfl) T.list bt_list (pa_cons (pv 0) pa_nil))))
      (pss_cons (ps_asg (pe_callTy call_list_of (by rfl) T.list bt_list (pa_cons (pe_ix ix_list (pv 2) (pv 5) (fun _ _ => rfl)) pa_nil)) (pg_sub (pv 9) (pv 4) set_list))
      (pss_cons (ps_asg (pe_callTy call_list_of (by rfl) T.list bt_list (pa_cons (pe_ix ix_list (pv 2) (pv 4) (fun _ _ => rfl)) pa_nil)) (pg_sub (pv 9) (pv 5) set_list))
      (pss_one (ps_if (PW.pt (pw_or (pt_cmpR (op_neD hr.units) (pe_callH h_determinant hr passN (pa_cons (pv 8) pa_nil)) (pv 3) (nomark _)) (pw_or1 (pt_cmpR (op_neD hr.units) (pe_callH h_determinant hr passN (pa_cons (pv 9) pa_nil)) (pe_tup (pa_cons (pe_op op_sub pe_int (pe_ix ix_tup (pv 3) pe_int (fun _ _ => rfl))) (pa_cons (pe_ix ix_tup (pv 3) pe_int (fun _ _ => rfl)) pa_nil))) (nomark _))))) (pss_one (ps_ret pe_bl)) pss_nil))))))) pss_nil)
      (pss_cons (ps_set (i := 10) sc_law.nd rfl (by first | exact Or.inl rfl | exact Or.inr rfl) (pe_lst pa_nil))
      (pss_cons (ps_set (i := 11) sc_law.nd rfl (by first | exact Or.inl rfl | exact Or.inr rfl) (pe_tup (pa_cons pe_int (pa_cons pe_int pa_nil))))
      (pss_cons (ps_for PassesOwn.never rfl (pi_range1 rfl T.range (pa_cons (pv 1) pa_nil)) (pg_name (i := 12) sc_law.nd rfl (by first | exact Or.inl rfl | exact Or.inr rfl))
      (pss_cons (ps_expr (pe_bm PySem.F.plainAttrs_list PySem.F.slot_list_append PySem.F.type_list_append mt_append (pv 10) (pa_cons (pe_op op_cat (pe_op op_rep (pe_lst (pa_cons (pe_tup (pa_cons pe_int (pa_cons pe_int pa_nil))) pa_nil)) (pv 12)) (pe_slice sl_list (pe_ix ix_list (pv 2) (pv 12) (fun _ _ => rfl)) (po_some (pv 12)) po_none)) pa_nil)))
      (pss_one (ps_set (i := 11) sc_law.nd rfl (by first | exact Or.inl rfl | exact Or.inr rfl) (pe_callH h__law_times hr passN (pa_cons (pv 11) (pa_cons (pe_ix ix_list (pe_ix ix_list (pv 2) (pv 12) (fun _ _ => rfl)) (pv 12) (fun _ _ => rfl)) pa_nil)))))))
      (pss_one (ps_ret (pe_cmpR (op_eqD hr.units) (pe_callH h_determinant hr passN (pa_cons (pv 10) pa_nil)) (pv 11) (nomark _))))))))))))))))))), ?_⟩
    try dsimp only [cx_K]
    refine r_seqK (fun σ' H' => σ' = [some (.ref a), none, none, none, none, none, none, none, none, none, none, none, none] ∧ Same H H') (fun σ' H1 hh => ?_) (fun TT hT => ?_)
    case refine_2 =>
      walk_at "rd"
      refine ⟨a, ns, 2, rfl, hS, by decide, fun c2 => ?_⟩
      walk_at "rd"
      refine if2 (fun _ => ?_) (fun _ => ?_)
      · walk_at "rd"
        refine ⟨a, ns, rfl, hS, fun H1 e1 => ?_⟩
        walk_at "rd"
        exact hT _ _ ⟨rfl, e1⟩
      · walk_at "rd"
        exact hT _ _ ⟨rfl, fun _ _ e => e⟩
    obtain ⟨rfl, e1⟩ := hh
    walk_at "rd"
    refine ⟨a, ns, 0, rfl, e1.seq hS, by decide, fun n0 => ?_⟩
    walk_at "rd"
    obtain ⟨n, hn⟩ := Int.eq_ofNat_of_zero_le (show 0 ≤ 1 + n0 % 6 by omega)
    rw [hn]
    have np : 0 < n := by omega
    have n6 : n ≤ 6 := by omega
    refine ⟨a, ns, n, rfl, e1.seq hS, by omega, fun p as R H2 e2 fp g2 rl inv => ?_⟩
    have gl := g2.len
    have mdR : ∀ fs ∈ R, fs.length = n ∧ ∀ f ∈ fs, Md f := fun fs hfs => ⟨(inv fs hfs).1, fun f hf => ((inv fs hfs).2 f hf).md⟩
    have e02 := e1.trans e2
    walk_at "rd"
    refine ⟨p, as, R, n, 2 ^ 600, 2 ^ 200, rfl, g2, rl, np, by omega, fun fs hfs => (inv fs hfs).1, szd_of n6 mdR, fun t u r H3 lw qv tz uz e3 hr3 => ?_⟩
    obtain ⟨dz1, dz2⟩ := due_sz n6 tz uz
    have g3 := g2.same e3
    have e03 := e02.trans e3
    have rowAt : ∀ i, i < n → ∃ fs, R[i]? = some fs ∧ R.getD i [] = fs ∧ fs.length = n := fun i hi => by
      have il : i < R.length := by omega
      exact ⟨R[i], by simp [il], by rw [List.getD_eq_getElem?_getD]; simp [il], (inv _ (List.getElem_mem il)).1⟩
    walk_at "rd"
    refine r_comp ?_
    refine ⟨_, rfl, (n : Int), rfl, by omega, by omega, ?_⟩
    rw [Int.toNat_natCast]
    intro acc hacc
    refine comp_range (fun i σ' ys H4 => ∃ (v : Option V) (cs : List Addr) (S : List (List (Int × Int))), σ' = [v, some (.ref p)] ∧ ys = cs.map V.ref ∧ Same H3 H4 ∧ FG H4 acc cs S ∧ acc ∉ cs ∧ S.length = i ∧ ∀ (k : Nat) (fs : List (Int × Int)), S[k]? = some fs → fs.length = n ∧ (∀ f ∈ fs, Nb f) ∧ ∀ j, j < n → fa fs j = fa (R.getD j []) k)
      ⟨none, [], [], rfl, rfl, Same.upd hacc, ⟨upd_same, rfl, fun i a l z => by simp at z⟩, by simp, rfl, fun k fs z => by simp at z⟩ ?_ ?_
    · rintro i σ' ys H4 hi ⟨v, cs, S, rfl, rfl, e4, g4, na, sl, si⟩
      simp only [Int.zero_add]
      have cl := g4.len
      have gp := g3.same e4
      walk_at "rd"
      refine r_comp ?_
      refine ⟨_, rfl, p, rfl, ⟨_, SqL.of gp.top⟩, fun ac2 hac2 => ?_⟩
      refine comp_list (K := K) (a := p) (xs := as.map V.ref) (fun j σ' zs H5 => ∃ (v : Option V) (ps : List Addr) (xs : List (Int × Int)), σ' = [v, some (.int (i : Int))] ∧ zs = ps.map V.ref ∧ Same H4 H5 ∧ H5 ac2 = some (.lst zs) ∧ PR H5 ps xs ∧ xs.length = j ∧ (∀ f ∈ xs, Nb f) ∧ ∀ l, l < j → fa xs l = fa (R.getD l []) i)
        ⟨none, [], [], rfl, rfl, Same.upd hac2, upd_same, .nil, rfl, by simp, fun l z => by omega⟩ (fun j σ' ys H5 _ ⟨_, _, _, _, _, e, _⟩ => SqL.of (e _ _ gp.top)) ?_ ?_
      · rintro j x σ' zs H5 hx hj ⟨v, ps, xs, rfl, rfl, e5, a5, pr5, xl, fx, fe⟩
        have jl := hj
        rw [List.length_map, gl, rl] at jl
        obtain ⟨ra, fs, qs, hra, hf, hrow, hqs⟩ := gp.at (i := j) (by omega)
        obtain ⟨ra2, hra2, rfl⟩ := ref_at hx
        rw [hra] at hra2
        cases hra2
        obtain ⟨fl, fnb⟩ := inv fs (List.mem_of_getElem? hf)
        have ql := hqs.len
        obtain ⟨qa, hqa⟩ : ∃ qa, qs[i]? = some qa := ⟨qs[i]'(by omega), by simp [show i < qs.length by omega]⟩
        obtain ⟨ff, hff, hqq⟩ := hqs.at hqa
        walk_at "rd"
        refine r_ixL (SqL.of (e5 _ _ hrow)) (atI_nat (by rw [List.getElem?_map, hqa]; rfl)) ?_
        have psl := pr5.len
        refine ⟨a5, by rw [List.length_map]; exact small_line (by omega), cturn hj ⟨_, ps ++ [qa], xs ++ [ff], rfl, by simp, Same.fresh e5 hac2, upd_same, PR.off (PR.app pr5 (.cons (e5 _ _ hqq) .nil)) (.inr a5), by rw [List.length_append, xl]; rfl, fun f hf => ?_, fun l hl => ?_⟩⟩
        · rcases List.mem_append.mp hf with z | z
          · exact fx f z
          · rw [List.mem_singleton.mp z]; exact fnb ff (List.mem_of_getElem? hff)
        · by_cases z : l < j
          · have : fa (xs ++ [ff]) l = fa xs l := by
              unfold fa
              rw [List.getD_eq_getElem?_getD, List.getElem?_append_left (by omega), ← List.getD_eq_getElem?_getD]
            rw [this]
            exact fe l z
          · have el : l = j := by omega
            subst el
            rw [fa_at (f := ff) (by rw [List.getElem?_append_right (by omega), xl, Nat.sub_self]; rfl)]
            have : R.getD l [] = fs := by rw [List.getD_eq_getElem?_getD, hf]; rfl
            rw [this, fa_at hff]
      · rintro σ' zs H5 ⟨v, ps, xs, rfl, rfl, e5, a5, pr5, xl, fx, fe⟩
        rw [List.length_map, gl, rl] at xl fe
        have g5 := g4.same e5
        have nb : ac2 ≠ acc := fun z => by rw [z] at hac2; exact absurd g4.top (by rw [hac2]; simp)
        refine ⟨g5.top, by rw [List.length_map]; exact small_line (by omega), cturn hi ⟨_, cs ++ [ac2], S ++ [xs], rfl, by simp, Same.fresh (e4.trans e5) hacc, g5.snoc na nb a5 pr5, ?_, by rw [List.length_append, sl]; rfl, fun k fs hk => ?_⟩⟩
        · intro z
          rcases List.mem_append.mp z with z | z
          · exact na z
          · exact nb (List.mem_singleton.mp z).symm
        · by_cases z : k < S.length
          · rw [List.getElem?_append_left z] at hk
            exact si k fs hk
          · have kl := (List.getElem?_eq_some_iff.mp hk).1
            rw [List.length_append, List.length_singleton] at kl
            have ek : k = i := by omega
            subst ek
            rw [List.getElem?_append_right (by omega), sl, Nat.sub_self] at hk
            cases hk
            exact ⟨xl, fx, fe⟩
    · rintro σ' ys H4 ⟨v, cs, S, rfl, rfl, e4, g4, na, sl, si⟩
      have sAt : ∀ fs ∈ S, fs.length = n ∧ ∀ f ∈ fs, Md f := fun fs hfs => by
        obtain ⟨i, hi⟩ := List.mem_iff_getElem?.mp hfs
        exact ⟨(si i fs hi).1, fun f hf => ((si i fs hi).2.1 f hf).md⟩
      have vS : dq n S = dq n R := by
        unfold dq
        rw [← Dq.det_tr n (fun i j => fa (R.getD i []) j)]
        refine Dq.det_congr fun i j hi hj => ?_
        have il : i < S.length := by omega
        have e : S.getD i [] = S[i] := by rw [List.getD_eq_getElem?_getD]; simp [il]
        rw [e]
        exact (si i S[i] (by simp [il])).2.2 j hj
      walk_at "rd"
      refine ⟨acc, cs, S, n, 2 ^ 600, 2 ^ 200, rfl, g4, sl, np, by omega, fun fs hfs => (sAt fs hfs).1, szd_of n6 sAt, fun t1 u1 r1 H5 lw1 qv1 _ _ e5 hr5 => ?_⟩
      have s1 : (t1, u1) = (t, u) := qt_inj lw1 lw (by rw [qv1, qv, vS])
      walk_at "rd"
      refine ⟨dPair (t1, u1), dPair (t, u), rds_pair hr5, rds_pair ((e4.trans e5) _ _ hr3), shaped_pair _, shaped_pair _, ?_⟩
      rw [if_pos rfl, eqv_pair, decide_eq_true s1]
      walk_at "rd"
      have e05 := (e03.trans e4).trans e5
      have e25 := (e3.trans e4).trans e5
      have e35 := e4.trans e5
      refine ⟨a, ns, 60, rfl, e05.seq hS, by decide, by decide, fun m1 m10 m11 => ?_⟩
      have hpn : (0 : Int) < (n : Int) := by omega
      walk_at "rd"
      obtain ⟨c, hc⟩ := Int.eq_ofNat_of_zero_le (Int.emod_nonneg m1 (show (n : Int) ≠ 0 by omega))
      have c1 := Int.emod_lt_of_pos m1 hpn
      rw [hc] at c1 ⊢
      have cn : c < n := by omega
      refine ⟨a, ns, 61, rfl, e05.seq hS, by decide, by decide, fun m2 m20 m21 => ?_⟩
      walk_at "rd"
      obtain ⟨d, hd⟩ := Int.eq_ofNat_of_zero_le (Int.emod_nonneg m2 (show (n : Int) ≠ 0 by omega))
      have d1 := Int.emod_lt_of_pos m2 hpn
      rw [hd] at d1 ⊢
      have dn : d < n := by omega
      refine ⟨a, ns, 62, rfl, e05.seq hS, by decide, by decide, fun bt bu rb H6 nbb e6 hrb => ?_⟩
      have mdb := nbb.md
      have g6 := (g2.same e25).same e6
      have e36 := e35.trans e6
      walk_at "rd"
      refine r_copyF (i := 2) rfl g6 (by omega) fun q1 cs1 H7 e7 fq1 g7 nq1 => ?_
      obtain ⟨ra, fs, ps, hra, hfs, hrow, hps⟩ := g6.at (i := c) (by omega)
      obtain ⟨fl, fnb⟩ := inv fs (List.mem_of_getElem? hfs)
      have g67 := g6.same e7
      walk_at "rd"
      refine r_comp ?_
      refine r_iList ?_
      walk_at "rd"
      refine r_ixL (SqL.of g67.top) (g67.ix hra) ?_
      have hrow7 := e7 _ _ hrow
      have hps7 := hps.same e7
      have ql := hps.len
      refine ⟨ra, rfl, ⟨_, SqL.of hrow7⟩, fun ac2 hac2 => ?_⟩
      refine comp_list (K := K) (a := ra) (xs := ps.map V.ref) (fun j σ' zs H8 => ∃ (v : Option V) (xp : List Addr) (xs : List (Int × Int)), σ' = [v, some (.ref rb)] ∧ zs = xp.map V.ref ∧ Same H7 H8 ∧ H8 ac2 = some (.lst zs) ∧ PR H8 xp xs ∧ xs.length = j ∧ (∀ f ∈ xs, Md f) ∧ ∀ l, l < j → fa xs l = qt (bt, bu) * fa fs l)
        ⟨none, [], [], rfl, rfl, Same.upd hac2, upd_same, .nil, rfl, by simp, fun l z => by omega⟩ (fun j σ' ys H8 _ ⟨_, _, _, _, _, e, _⟩ => SqL.of (e _ _ hrow7)) ?_ ?_
      · rintro j x σ' zs H8 hx hj ⟨v, xp, xs, rfl, rfl, e8, a8, pr8, xl, fx, fe⟩
        have jl := hj
        rw [List.length_map] at jl
        obtain ⟨xa, hxa, rfl⟩ := ref_at hx
        obtain ⟨ff, hff, hqq⟩ := hps7.at hxa
        have nf := fnb ff (List.mem_of_getElem? hff)
        have mdf := nf.md
        have zb2 : Sz 3 bu := by have h1 : 0 < bu := nbb.1.1; have h2 : bu ≤ 6 := nbb.2.1; show bu.natAbs < 8; omega
        have zf2 : Sz 3 ff.2 := by have h1 := nf.1.1; have h2 := nf.2.1; show ff.2.natAbs < 8; omega
        have zb1 : Sz 61 bt := nbb.2.2
        have zf1 : Sz 61 ff.1 := nf.2.2
        walk_at "rd"
        refine ⟨rb, xa, (bt, bu), ff, rfl, (e7.trans e8) _ _ hrb, e8 _ _ hqq, mdb.pos, mdf.pos, ⟨zb1.mono (by decide), zb2.mono (by decide), zf1.mono (by decide), zf2.mono (by decide)⟩, fun t2 u2 r2 H9 low e9 hr2 => ?_⟩
        have xpl := pr8.len
        refine ⟨e9 _ _ a8, by rw [List.length_map]; exact small_line (by omega), cturn hj ⟨_, xp ++ [r2], xs ++ [(t2, u2)], rfl, by simp, Same.fresh (e8.trans e9) hac2, upd_same, PR.off (PR.app (pr8.same e9) (.cons hr2 .nil)) (.inr (e9 _ _ a8)), by rw [List.length_append, xl]; rfl, fun f hf => ?_, fun l hl => ?_⟩⟩
        · rcases List.mem_append.mp hf with z | z
          · exact fx f z
          · rw [List.mem_singleton.mp z]
            exact ⟨low.pos, Sz.mono (Sz.le (zb2.mul zf2) low.ub) (by decide), Sz.mono (Sz.le (zb1.mul zf1) low.ta) (by decide)⟩
        · by_cases z : l < j
          · rw [fa_snoc (by omega)]; exact fe l z
          · have el : l = xs.length := by omega
            rw [el, fa_end, qt_times (by have := mdb.pos; show bu ≠ 0; have h : 0 < bu := mdb.pos; omega) (by have := mdf.pos; omega) low, fa_at (f := ff) (by rw [xl]; exact hff)]
      · rintro σ' zs H8 ⟨v, xp, xs, rfl, rfl, e8, a8, pr8, xl, fx, fe⟩
        rw [List.length_map, ql, fl] at xl fe
        have g78 := g7.same e8
        have nac2 : ac2 ≠ q1 := fun z => by rw [z] at hac2; exact absurd g7.top (by rw [hac2]; simp)
        have cs1l := g7.len
        walk_at "rd"
        refine ⟨_, rfl, _, rfl, q1, _, _, c, rfl, rfl, g78.top, ixN_of (by omega) (by rw [List.length_map]; omega), ?_⟩
        have g9 := g78.setRow (k := c) nq1 nac2 a8 pr8
        have e69 : Same H6 (upd H8 q1 (.lst ((cs1.map V.ref).set c (.ref ac2)))) := Same.fresh (e7.trans e8) fq1
        dsimp only
        generalize upd H8 q1 (.lst ((cs1.map V.ref).set c (.ref ac2))) = H9 at g9 e69 ⊢
        have mdS : ∀ fs' ∈ R.set c xs, fs'.length = n ∧ ∀ f ∈ fs', Md f := fun fs' h => by
          rcases List.mem_or_eq_of_mem_set h with z | rfl
          · exact mdR fs' z
          · exact ⟨xl, fx⟩
        have rc0 : R.getD c [] = fs := by rw [List.getD_eq_getElem?_getD, hfs]; rfl
        have v2 : dq n (R.set c xs) = qt (bt, bu) * dq n R := by
          rw [dq_set (by omega)]
          unfold dq
          rw [← Dq.row_scale (fun i j => fa (R.getD i []) j) (qt (bt, bu)) cn]
          refine Dq.det_congr fun i j hi hj => ?_
          unfold Dq.rl
          by_cases z : i = c
          · rw [if_pos z, if_pos z, fe j hj, rc0]
          · rw [if_neg z, if_neg z]
        walk_at "rd"
        refine ⟨q1, _, R.set c xs, n, 2 ^ 600, 2 ^ 200, rfl, g9, by rw [List.length_set]; exact rl, np, by omega, fun fs' h => (mdS fs' h).1, szd_of n6 mdS, fun t2 u2 r2 H10 lw2 qv2 _ _ e10 hr2 => ?_⟩
        have e610 := e69.trans e10
        walk_at "rd"
        refine ⟨rb, r, (bt, bu), (t, u), rfl, e610 _ _ hrb, (e36.trans e610) _ _ hr3, mdb.pos, lw.1, ⟨mdb.top.mono (by decide), mdb.bot.mono (by decide), dz1.mono (by decide), dz2.mono (by decide)⟩, fun t3 u3 r3 H11 low3 e11 hr311 => ?_⟩
        have bu0 : bu ≠ 0 := by have h : 0 < bu := mdb.pos; omega
        have u0 : u ≠ 0 := by have h : 0 < u := lw.1; omega
        have s2 : (t2, u2) = (t3, u3) := qt_inj lw2 ⟨low3.pos, low3.co⟩ (by rw [qv2, v2, qt_times bu0 u0 low3, qv])
        walk_at "rd"
        refine ⟨dPair (t2, u2), dPair (t3, u3), rds_pair (e11 _ _ hr2), rds_pair hr311, shaped_pair _, shaped_pair _, ?_⟩
        rw [if_pos rfl, eqv_pair, decide_eq_true s2]
        have e611 := e610.trans e11
        walk_at "rd"
        refine ifAn (fun σ' H' => ∃ v8 v9 : Option V, σ' = [some (.ref a), some (.int (n : Int)), some (.ref p), some (.ref r), some (.int (c : Int)), some (.int (d : Int)), some (.ref rb), some (.ref q1), v8, v9, none, none, none] ∧ Same H6 H') (fun σ' H12 hh => ?_) (fun ne TT hT => ?_) (fun _ TT hT => ?_)
        · obtain ⟨v8, v9, rfl, e612⟩ := hh
          walk_at "rd"
          refine ⟨Nat.zero_le _, fun st hst => ?_⟩
          have e13 : Same H12 (upd H12 st (.lst [])) := Same.upd hst
          have x13 : upd H12 st (.lst []) st = some (.lst []) := upd_same
          generalize upd H12 st (.lst []) = H13 at e13 x13 ⊢
          walk_at "rd"
          intro pt0 hpt0
          have e14 : Same H13 (upd H13 pt0 (.tup [.int 1, .int 1])) := Same.upd hpt0
          have t14 : upd H13 pt0 (.tup [.int 1, .int 1]) pt0 = some (.tup [.int ((1, 1) : Int × Int).1, .int ((1, 1) : Int × Int).2]) := upd_same
          generalize upd H13 pt0 (.tup [.int 1, .int 1]) = H14 at e14 t14 ⊢
          have x14 := e14 _ _ x13
          walk_at "rd"
          refine r_for ?_
          refine ⟨_, rfl, (n : Int), rfl, by omega, by omega, ?_⟩
          rw [Int.toNat_natCast]
          refine for_range (fun i σ H15 => ∃ (cs5 : List Addr) (S5 : List (List (Int × Int))) (pt : Addr) (W : Int × Int) (v12 : Option V), σ = [some (.ref a), some (.int (n : Int)), some (.ref p), some (.ref r), some (.int (c : Int)), some (.int (d : Int)), some (.ref rb), some (.ref q1), v8, v9, some (.ref st), some (.ref pt), v12] ∧ Same H12 H15 ∧ FG H15 st cs5 S5 ∧ st ∉ cs5 ∧ S5.length = i ∧ (∀ (k : Nat) (fs' : List (Int × Int)), S5[k]? = some fs' → fs'.length = n ∧ (∀ f ∈ fs', Md f) ∧ ∀ j, j < n → fa fs' j = if j < k then 0 else fa (R.getD k []) j) ∧ H15 pt = some (.tup [.int W.1, .int W.2]) ∧ Lw W ∧ qt W = Dq.pr i (fun k => fa (R.getD k []) k) ∧ Sz (62 * i + 2) W.1 ∧ Sz (3 * i + 2) W.2)
            ⟨[], [], pt0, (1, 1), _, rfl, e13.trans e14, ⟨x14, rfl, fun i a l z => by simp at z⟩, by simp, rfl, fun k fs' z => by simp at z, t14, lw_one 1, by rw [qt_one]; rfl, by unfold Sz; decide, by unfold Sz; decide⟩ ?_ ?_
          · rintro k σ H15 hk ⟨cs5, S5, pt, W, v12, rfl, e15, g15, n15, sl5, si5, t15, lwW, qW, z1, z2⟩
            simp only [Int.zero_add]
            have e615 := e612.trans e15
            have gp15 := g6.same e615
            obtain ⟨ra5, fs5, qs5, hra5, hfs5, hrow5, hqs5⟩ := gp15.at (i := k) (by omega)
            obtain ⟨fl5, fnb5⟩ := inv fs5 (List.mem_of_getElem? hfs5)
            have ql5 := hqs5.len
            have rk0 : R.getD k [] = fs5 := by rw [List.getD_eq_getElem?_getD, hfs5]; rfl
            have cl5 := g15.len
            walk_at "rd"
            refine ⟨.inl ⟨rfl, _, SqL.of g15.top⟩, ?_⟩
            walk_at "rd"
            intro tp htp
            have e16 : Same H15 (upd H15 tp (.tup [.int 0, .int 1])) := Same.upd htp
            have t16 : upd H15 tp (.tup [.int 0, .int 1]) tp = some (.tup [.int ((0, 1) : Int × Int).1, .int ((0, 1) : Int × Int).2]) := upd_same
            generalize upd H15 tp (.tup [.int 0, .int 1]) = H16 at e16 t16 ⊢
            walk_at "rd"
            refine ⟨by rw [PySem.sizeLine_eq]; simp, fun l1 hl1 => ?_⟩
            have e17 : Same H16 (upd H16 l1 (.lst [.ref tp])) := Same.upd hl1
            have x17 : upd H16 l1 (.lst [.ref tp]) l1 = some (.lst [.ref tp]) := upd_same
            generalize upd H16 l1 (.lst [.ref tp]) = H17 at e17 x17 ⊢
            walk_at "rd"
            refine ⟨l1, _, _, rfl, rfl, x17, by omega, by omega, by rw [Int.toNat_natCast, List.length_singleton, PySem.sizeLine_eq]; omega, fun l2 hl2 => ?_⟩
            rw [Int.toNat_natCast, rep_flat]
            have e18 : Same H17 (upd H17 l2 (.lst ((List.replicate k tp).map V.ref))) := Same.upd hl2
            have x18 : upd H17 l2 (.lst ((List.replicate k tp).map V.ref)) l2 = some (.lst ((List.replicate k tp).map V.ref)) := upd_same
            generalize upd H17 l2 (.lst ((List.replicate k tp).map V.ref)) = H18 at e18 x18 ⊢
            have e1518 := (e16.trans e17).trans e18
            have gp18 := gp15.same e1518
            refine r_slice ?_
            walk_at "rd"
            refine r_ixL (SqL.of gp18.top) (gp18.ix hra5) ?_
            refine ⟨_, rfl, ⟨_, rfl, ⟨ra5, _, rfl, SqL.of (e1518 _ _ hrow5), fun l3 hl3 => ?_⟩⟩⟩
            rw [cutg_drop (by rw [List.length_map]; omega), ← List.map_drop]
            have e19 : Same H18 (upd H18 l3 (.lst ((qs5.drop k).map V.ref))) := Same.upd hl3
            have x19 : upd H18 l3 (.lst ((qs5.drop k).map V.ref)) l3 = some (.lst ((qs5.drop k).map V.ref)) := upd_same
            generalize upd H18 l3 (.lst ((qs5.drop k).map V.ref)) = H19 at e19 x19 ⊢
            refine ⟨l2, l3, _, _, rfl, rfl, e19 _ _ x18, x19, by rw [List.length_map, List.length_map, List.length_replicate, List.length_drop, PySem.sizeLine_eq]; omega, fun l4 hl4 => ?_⟩
            rw [← List.map_append]
            have e20 : Same H19 (upd H19 l4 (.lst ((List.replicate k tp ++ qs5.drop k).map V.ref))) := Same.upd hl4
            have x20 : upd H19 l4 (.lst ((List.replicate k tp ++ qs5.drop k).map V.ref)) l4 = some (.lst ((List.replicate k tp ++ qs5.drop k).map V.ref)) := upd_same
            generalize upd H19 l4 (.lst ((List.replicate k tp ++ qs5.drop k).map V.ref)) = H20 at e20 x20 ⊢
            have e1520 := (e1518.trans e19).trans e20
            have t20 := e20 _ _ (e19 _ _ (e18 _ _ (e17 _ _ t16)))
            have prr : ∀ m : Nat, PR H20 (List.replicate m tp) (List.replicate m ((0, 1) : Int × Int)) := fun m => by
              induction m with
              | zero => exact .nil
              | succ m ih => exact .cons t20 ih
            have pr20 : PR H20 (List.replicate k tp ++ qs5.drop k) (List.replicate k ((0, 1) : Int × Int) ++ fs5.drop k) := PR.app (prr k) (PR.drop k (hqs5.same e1520))
            have g20 := g15.same e1520
            have n4 : l4 ≠ st := fun z => by rw [z] at hl4; exact absurd ((e1518.trans e19) _ _ g15.top) (by rw [hl4]; simp)
            walk_at "rd"
            refine r_append g20.top (by rw [List.length_map]; exact small_line (by omega)) ?_
            have g21 := g20.snoc n15 n4 x20 pr20
            have e1221 : Same H12 (upd H20 st (.lst (cs5.map V.ref ++ [.ref l4]))) := Same.fresh (e15.trans e1520) hst
            have t21 : upd H20 st (.lst (cs5.map V.ref ++ [.ref l4])) pt = some (.tup [.int W.1, .int W.2]) := by rw [upd_ne (fun z => by rw [z, g15.top] at t15; cases t15)]; exact e1520 _ _ t15
            try dsimp only
            generalize upd H20 st (.lst (cs5.map V.ref ++ [.ref l4])) = H21 at g21 e1221 t21 ⊢
            have e621 := e612.trans e1221
            have gp21 := g6.same e621
            obtain ⟨qk, hqk⟩ : ∃ qk, qs5[k]? = some qk := ⟨qs5[k]'(by omega), by simp [show k < qs5.length by omega]⟩
            obtain ⟨ff, hff, hqq⟩ := hqs5.at hqk
            have nf := fnb5 ff (List.mem_of_getElem? hff)
            have zf2 : Sz 3 ff.2 := by have h1 := nf.1.1; have h2 := nf.2.1; show ff.2.natAbs < 8; omega
            have zf1 : Sz 61 ff.1 := nf.2.2
            obtain ⟨ra6, fs6, qs6, hra6, hfs6, hrow6, hqs6⟩ := gp21.at (i := k) (by omega)
            rw [hra5] at hra6
            cases hra6
            rw [hfs5] at hfs6
            cases hfs6
            obtain ⟨qk6, hqk6⟩ : ∃ qk, qs6[k]? = some qk := ⟨qs6[k]'(by have := hqs6.len; omega), by simp [show k < qs6.length by have := hqs6.len; omega]⟩
            obtain ⟨ff6, hff6, hqq6⟩ := hqs6.at hqk6
            rw [hff] at hff6
            cases hff6
            walk_at "rd"
            refine r_ixL (SqL.of gp21.top) (gp21.ix hra5) ?_
            walk_at "rd"
            refine r_ixL (SqL.of hrow6) (atI_nat (by rw [List.getElem?_map, hqk6]; rfl)) ?_
            walk_at "rd"
            refine ⟨pt, qk6, W, ff, rfl, t21, hqq6, lwW.1, nf.1.1, ⟨z1.mono (by omega), z2.mono (by omega), zf1.mono (by decide), zf2.mono (by decide)⟩, fun t9 u9 r9 H22 low9 e22 hr9 => ?_⟩
            have p1 : W.2 ≠ 0 := by have := lwW.1; omega
            have p2 : ff.2 ≠ 0 := by have := nf.1.1; omega
            refine ⟨cs5 ++ [l4], S5 ++ [List.replicate k ((0, 1) : Int × Int) ++ fs5.drop k], r9, (t9, u9), _, rfl, e1221.trans e22, g21.same e22, ?_, by rw [List.length_append, sl5]; rfl, fun m fs' hm => ?_, hr9, ⟨low9.pos, low9.co⟩, ?_, ?_, ?_⟩
            · intro z
              rcases List.mem_append.mp z with z | z
              · exact n15 z
              · exact n4 (List.mem_singleton.mp z).symm
            · by_cases z : m < S5.length
              · rw [List.getElem?_append_left z] at hm
                exact si5 m fs' hm
              · have ml := (List.getElem?_eq_some_iff.mp hm).1
                rw [List.length_append, List.length_singleton] at ml
                have em : m = k := by omega
                subst em
                rw [List.getElem?_append_right (by omega), sl5, Nat.sub_self] at hm
                cases hm
                refine ⟨by rw [List.length_append, List.length_replicate, List.length_drop]; omega, fun f hf => ?_, fun j hj => ?_⟩
                · rcases List.mem_append.mp hf with z | z
                  · rw [(List.mem_replicate.mp z).2]
                    exact ⟨show (0 : Int) < 1 by decide, Sz.mono (m := 1) (by unfold Sz; decide) (by decide), Sz.mono (m := 1) (by unfold Sz; decide) (by decide)⟩
                  · exact (fnb5 f (List.mem_of_mem_drop z)).md
                · by_cases z : j < m
                  · rw [if_pos z, fa_at (f := (0, 1)) (by rw [List.getElem?_append_left (by rw [List.length_replicate]; exact z), List.getElem?_replicate, if_pos z]), qt_one]
                    rfl
                  · rw [if_neg z, rk0]
                    unfold fa
                    rw [List.getD_eq_getElem?_getD, List.getD_eq_getElem?_getD, List.getElem?_append_right (by rw [List.length_replicate]; omega), List.length_replicate, List.getElem?_drop, show m + (j - m) = j by omega]
            · rw [pr_snoc, qt_times p1 p2 low9, qW, rk0, fa_at hff]
            · exact Sz.mono (Sz.le (z1.mul zf1) low9.ta) (by omega)
            · exact Sz.mono (Sz.le (z2.mul zf2) low9.ub) (by omega)
          · rintro σ H15 ⟨cs5, S5, pt, W, v12, rfl, e15, g15, n15, sl5, si5, t15, lwW, qW, z1, z2⟩
            have mdS5 : ∀ fs' ∈ S5, fs'.length = n ∧ ∀ f ∈ fs', Md f := fun fs' h => by
              obtain ⟨i, hi⟩ := List.mem_iff_getElem?.mp h
              exact ⟨(si5 i fs' hi).1, (si5 i fs' hi).2.1⟩
            have v5 : dq n S5 = qt W := by
              have at5 : ∀ i, i < n → ∀ j, j < n → fa (S5.getD i []) j = if j < i then 0 else fa (R.getD i []) j := fun i hi j hj => by
                have il : i < S5.length := by omega
                have e : S5.getD i [] = S5[i] := by rw [List.getD_eq_getElem?_getD]; simp [il]
                rw [e]
                exact (si5 i S5[i] (by simp [il])).2.2 j hj
              unfold dq
              rw [qW, Dq.det_congr (B := fun i j => if j < i then 0 else fa (R.getD i []) j) fun i j hi hj => at5 i hi j hj, Dq.det_steps n _ fun i j hj hi => if_pos hj]
              have : (fun i => (if i < i then (0 : Rat) else fa (R.getD i []) i)) = fun k => fa (R.getD k []) k := by funext i; rw [if_neg (Nat.lt_irrefl i)]
              rw [this]
            walk_at "rd"
            refine ⟨st, cs5, S5, n, 2 ^ 600, 2 ^ 200, rfl, g15, sl5, np, by omega, fun fs' h => (mdS5 fs' h).1, szd_of n6 mdS5, fun t8 u8 r8 H16 lw8 qv8 _ _ e16 hr8 => ?_⟩
            have s8 : (t8, u8) = W := qt_inj lw8 lwW (by rw [qv8, v5])
            walk_at "rd"
            refine ⟨dPair (t8, u8), dPair W, rds_pair hr8, rds_pair (e16 _ _ t15), shaped_pair _, shaped_pair _, ?_⟩
            rw [if_neg Bool.false_ne_true, eqv_pair, decide_eq_true s8]
            exact kk _
        · have cd : c ≠ d := fun z => ne (by rw [z])
          have g11 := g6.same e611
          walk_at "rd"
          refine r_copyF (i := 2) rfl g11 (by omega) fun q2 cs2 H12 e12 fq2 g12 nq2 => ?_
          obtain ⟨rd, fd', pd2, hrd, hfd, hrowd, hpsd⟩ := g6.at (i := d) (by omega)
          obtain ⟨fdl, fdnb⟩ := inv fd' (List.mem_of_getElem? hfd)
          have rd0 : R.getD d [] = fd' := by rw [List.getD_eq_getElem?_getD, hfd]; rfl
          have qdl := hpsd.len
          have g1112 := g11.same e12
          have e612 := e611.trans e12
          have hrc12 := e612 _ _ hrow
          have hrd12 := e612 _ _ hrowd
          have psc := hps.same e612
          have psd := hpsd.same e612
          walk_at "rd"
          refine r_comp ?_
          refine r_cons ?_
          walk_at "rd"
          refine r_ixL (SqL.of g1112.top) (g1112.ix hra) ?_
          walk_at "rd"
          refine r_ixL (SqL.of g1112.top) (g1112.ix hrd) ?_
          walk_at "rd"
          refine ⟨ra, rd, rfl, ⟨_, SqL.of hrc12⟩, ⟨_, SqL.of hrd12⟩, fun ac3 hac3 => ?_⟩
          refine comp_zip (K := K) (a := ra) (b := rd) (xs := ps.map V.ref) (ys := pd2.map V.ref) (n := n) (by rw [List.length_map, List.length_map]; omega) (fun j σ' zs H13 => ∃ (v1 v2 : Option V) (xp : List Addr) (ws : List (Int × Int)), σ' = [v1, v2, some (.ref rb)] ∧ zs = xp.map V.ref ∧ Same H12 H13 ∧ H13 ac3 = some (.lst zs) ∧ PR H13 xp ws ∧ ws.length = j ∧ (∀ f ∈ ws, Md f) ∧ ∀ l, l < j → fa ws l = fa fs l + qt (bt, bu) * fa fd' l)
            ⟨none, none, [], [], rfl, rfl, Same.upd hac3, upd_same, .nil, rfl, by simp, fun l z => by omega⟩ (fun j σ' zs H13 _ ⟨_, _, _, _, _, _, e, _⟩ => ⟨SqL.of (e _ _ hrc12), SqL.of (e _ _ hrd12)⟩) ?_ ?_
          · rintro j x y prr σ' zs H13 hx hy hj ⟨v1, v2, xp, ws, rfl, rfl, e13, a13, pr13, wl, wx, we⟩ hprr
            obtain ⟨xa, hxa, rfl⟩ := ref_at hx
            obtain ⟨ya, hya, rfl⟩ := ref_at hy
            obtain ⟨fx1, hfx, hxx⟩ := psc.at hxa
            obtain ⟨fy1, hfy, hyy⟩ := psd.at hya
            have nx := fnb fx1 (List.mem_of_getElem? hfx)
            have ny := fdnb fy1 (List.mem_of_getElem? hfy)
            have zb2 : Sz 3 bu := by have h1 : 0 < bu := nbb.1.1; have h2 : bu ≤ 6 := nbb.2.1; show bu.natAbs < 8; omega
            have zx2 : Sz 3 fx1.2 := by have h1 := nx.1.1; have h2 := nx.2.1; show fx1.2.natAbs < 8; omega
            have zy2 : Sz 3 fy1.2 := by have h1 := ny.1.1; have h2 := ny.2.1; show fy1.2.natAbs < 8; omega
            have zb1 : Sz 61 bt := nbb.2.2
            have zx1 : Sz 61 fx1.1 := nx.2.2
            have zy1 : Sz 61 fy1.1 := ny.2.2
            have e14 : Same H13 (upd H13 prr (.tup [.ref xa, .ref ya])) := Same.upd hprr
            refine r_gtup (SqT.of upd_same) rfl ?_
            generalize upd H13 prr (.tup [.ref xa, .ref ya]) = H14 at e14 ⊢
            have e1214 := e13.trans e14
            walk_at "rd"
            refine ⟨rb, ya, (bt, bu), fy1, rfl, (e612.trans e1214) _ _ hrb, e1214 _ _ hyy, mdb.pos, ny.1.1, ⟨zb1.mono (by decide), zb2.mono (by decide), zy1.mono (by decide), zy2.mono (by decide)⟩, fun t4 u4 r4 H15 low4 e15 hr4 => ?_⟩
            have z41 : Sz 122 t4 := Sz.le (zb1.mul zy1) low4.ta
            have z42 : Sz 6 u4 := Sz.le (zb2.mul zy2) low4.ub
            walk_at "rd"
            refine ⟨xa, r4, fx1, (t4, u4), rfl, e15 _ _ (e1214 _ _ hxx), hr4, nx.1.1, low4.pos, ⟨zx1.mono (by decide), zx2.mono (by decide), z41.mono (by decide), z42.mono (by decide)⟩, fun t5 u5 r5 H16 low5 e16 hr5 => ?_⟩
            have e1416 := e15.trans e16
            have a16 := e1416 _ _ (e14 _ _ a13)
            have xpl := pr13.len
            have h1 : Sz 125 (fx1.1 * u4) := (zx1.mul z42).mono (by decide)
            have h2 : Sz 125 (t4 * fx1.2) := (z41.mul zx2).mono (by decide)
            refine ⟨a16, by rw [List.length_map]; exact small_line (by omega), cturn hj ⟨_, _, xp ++ [r5], ws ++ [(t5, u5)], rfl, by simp, Same.fresh ((e13.trans e14).trans e1416) hac3, upd_same, PR.off (PR.app ((pr13.same e14).same e1416) (.cons hr5 .nil)) (.inr a16), by rw [List.length_append, wl]; rfl, fun f hf => ?_, fun l hl => ?_⟩⟩
            · rcases List.mem_append.mp hf with z | z
              · exact wx f z
              · rw [List.mem_singleton.mp z]
                exact ⟨low5.pos, Sz.mono (Sz.le (zx2.mul z42) low5.ub) (by decide), Sz.mono (Sz.le (Sz.add h1 h2) low5.ta) (by decide)⟩
            · by_cases z : l < j
              · rw [fa_snoc (by omega)]; exact we l z
              · have el : l = ws.length := by omega
                have p4 : u4 ≠ 0 := by have := low4.pos; omega
                have p1 : fx1.2 ≠ 0 := by have := nx.1.1; omega
                have p2 : fy1.2 ≠ 0 := by have := ny.1.1; omega
                rw [el, fa_end, qt_plus p1 p4 low5, qt_times bu0 p2 low4, fa_at (f := fx1) (by rw [wl]; exact hfx), fa_at (f := fy1) (by rw [wl]; exact hfy)]
          · rintro σ' zs H13 ⟨v1, v2, xp, ws, rfl, rfl, e13, a13, pr13, wl, wx, we⟩
            have g13 := g12.same e13
            have nac3 : ac3 ≠ q2 := fun z => by rw [z] at hac3; exact absurd g12.top (by rw [hac3]; simp)
            have cs2l := g12.len
            walk_at "rd"
            refine ⟨_, rfl, _, rfl, q2, _, _, c, rfl, rfl, g13.top, ixN_of (by omega) (by rw [List.length_map]; omega), ?_⟩
            have g14 := g13.setRow (k := c) nq2 nac3 a13 pr13
            have e1114 : Same H11 (upd H13 q2 (.lst ((cs2.map V.ref).set c (.ref ac3)))) := Same.fresh (e12.trans e13) fq2
            dsimp only
            generalize upd H13 q2 (.lst ((cs2.map V.ref).set c (.ref ac3))) = H14 at g14 e1114 ⊢
            have e614 := e611.trans e1114
            have gp14 := g6.same e614
            walk_at "rd"
            refine r_copyF (i := 2) rfl gp14 (by omega) fun q3 cs3 H15 e15 fq3 g15 nq3 => ?_
            have e615 := e614.trans e15
            have gp15 := g6.same e615
            have cs3l := g15.len
            walk_at "rd"
            refine r_ixL (SqL.of gp15.top) (gp15.ix hrd) ?_
            walk_at "rd"
            refine ⟨rd, _, rfl, .inl (SqL.of (e615 _ _ hrowd)), fun y1 hy1 => ?_⟩
            have e16 : Same H15 (upd H15 y1 (.lst (pd2.map V.ref))) := Same.upd hy1
            have x16 : upd H15 y1 (.lst (pd2.map V.ref)) y1 = some (.lst (pd2.map V.ref)) := upd_same
            generalize upd H15 y1 (.lst (pd2.map V.ref)) = H16 at e16 x16 ⊢
            have ny1 : y1 ≠ q3 := fun z => by rw [z] at hy1; exact absurd g15.top (by rw [hy1]; simp)
            have g16 := g15.same e16
            have e616 := e615.trans e16
            walk_at "rd"
            refine ⟨_, rfl, _, rfl, q3, _, _, c, rfl, rfl, g16.top, ixN_of (by omega) (by rw [List.length_map]; omega), ?_⟩
            have g17 := g16.setRow (k := c) nq3 ny1 x16 (hpsd.same e616)
            have e1417 : Same H14 (upd H16 q3 (.lst ((cs3.map V.ref).set c (.ref y1)))) := Same.fresh (e15.trans e16) fq3
            dsimp only
            generalize upd H16 q3 (.lst ((cs3.map V.ref).set c (.ref y1))) = H17 at g17 e1417 ⊢
            have nq17 : q3 ∉ cs3.set c y1 := fun z => by
              rcases List.mem_or_eq_of_mem_set z with z | z
              · exact nq3 z
              · exact ny1 z.symm
            have e617 := e614.trans e1417
            have gp17 := g6.same e617
            walk_at "rd"
            refine r_ixL (SqL.of gp17.top) (gp17.ix hra) ?_
            walk_at "rd"
            refine ⟨ra, _, rfl, .inl (SqL.of (e617 _ _ hrow)), fun y2 hy2 => ?_⟩
            have e18 : Same H17 (upd H17 y2 (.lst (ps.map V.ref))) := Same.upd hy2
            have x18 : upd H17 y2 (.lst (ps.map V.ref)) y2 = some (.lst (ps.map V.ref)) := upd_same
            generalize upd H17 y2 (.lst (ps.map V.ref)) = H18 at e18 x18 ⊢
            have ny2 : y2 ≠ q3 := fun z => by rw [z] at hy2; exact absurd g17.top (by rw [hy2]; simp)
            have g18 := g17.same e18
            have e618 := e617.trans e18
            walk_at "rd"
            refine ⟨_, rfl, _, rfl, q3, _, _, d, rfl, rfl, g18.top, ixN_of (by omega) (by rw [List.length_map, List.length_set]; omega), ?_⟩
            have g19 := g18.setRow (k := d) nq17 ny2 x18 (hps.same e618)
            have e1419 : Same H14 (upd H18 q3 (.lst (((cs3.set c y1).map V.ref).set d (.ref y2)))) := Same.fresh (e1417.trans e18) fq3
            dsimp only
            generalize upd H18 q3 (.lst (((cs3.set c y1).map V.ref).set d (.ref y2))) = H19 at g19 e1419 ⊢
            have e619 := e614.trans e1419
            have gA := g14.same e1419
            have mdA : ∀ fs' ∈ R.set c ws, fs'.length = n ∧ ∀ f ∈ fs', Md f := fun fs' h => by
              rcases List.mem_or_eq_of_mem_set h with z | rfl
              · exact mdR fs' z
              · exact ⟨wl, wx⟩
            have mdC : ∀ fs' ∈ (R.set c fd').set d fs, fs'.length = n ∧ ∀ f ∈ fs', Md f := fun fs' h => by
              rcases List.mem_or_eq_of_mem_set h with z | rfl
              · rcases List.mem_or_eq_of_mem_set z with z | rfl
                · exact mdR fs' z
                · exact mdR _ (List.mem_of_getElem? hfd)
              · exact mdR _ (List.mem_of_getElem? hfs)
            have vA : dq n (R.set c ws) = dq n R := by
              rw [dq_set (by omega)]
              unfold dq
              rw [← Dq.row_add (fun i j => fa (R.getD i []) j) (qt (bt, bu)) cn dn cd]
              refine Dq.det_congr fun i j hi hj => ?_
              unfold Dq.rl
              by_cases z : i = c
              · rw [if_pos z, if_pos z, we j hj, rc0, rd0]
              · rw [if_neg z, if_neg z]
            have vC := dq_swap (c := c) (d := d) rl cn dn cd hfs hfd
            walk_at "rd"
            refine ⟨q2, _, R.set c ws, n, 2 ^ 600, 2 ^ 200, rfl, gA, by rw [List.length_set]; exact rl, np, by omega, fun fs' h => (mdA fs' h).1, szd_of n6 mdA, fun t6 u6 r6 H20 lw6 qv6 _ _ e20 hr6 => ?_⟩
            have s6 : (t6, u6) = (t, u) := qt_inj lw6 lw (by rw [qv6, vA, qv])
            have e620 := e619.trans e20
            walk_at "rd"
            refine ⟨dPair (t6, u6), dPair (t, u), rds_pair hr6, rds_pair ((e36.trans e620) _ _ hr3), shaped_pair _, shaped_pair _, ?_⟩
            rw [if_pos rfl, eqv_pair, decide_eq_true s6]
            walk_at "rd"
            refine ⟨q3, _, (R.set c fd').set d fs, n, 2 ^ 600, 2 ^ 200, rfl, g19.same e20, by rw [List.length_set, List.length_set]; exact rl, np, by omega, fun fs' h => (mdC fs' h).1, szd_of n6 mdC, fun t7 u7 r7 H21 lw7 qv7 _ _ e21 hr7 => ?_⟩
            have e621 := e620.trans e21
            have due21 := (e36.trans e621) _ _ hr3
            walk_at "rd"
            intro tt htt
            have e22 : Same H21 (upd H21 tt (.tup [.int (0 - t), .int u])) := Same.upd htt
            have lwn : Lw (0 - t, u) := ⟨lw.1, by have := lw.2; show Int.gcd (0 - t) u = 1; rw [Int.zero_sub, Int.neg_gcd]; exact this⟩
            have qn : qt (0 - t, u) = - qt (t, u) := by
              show ((0 - t : Int) : Rat) / (u : Rat) = - ((t : Rat) / (u : Rat))
              rw [Int.zero_sub, Rat.intCast_neg]
              have := ic_ne u0
              grind
            have s7 : (t7, u7) = (0 - t, u) := qt_inj lw7 lwn (by rw [qv7, vC, qn, qv])
            refine ⟨dPair (t7, u7), dPair (0 - t, u), rds_pair (e22 _ _ hr7), rds_pair upd_same, shaped_pair _, shaped_pair _, ?_⟩
            rw [if_pos rfl, eqv_pair, decide_eq_true s7]
            walk_at "rd"
            exact hT _ _ ⟨_, _, rfl, e621.trans e22⟩
        · walk_at "rd"
          exact hT _ _ ⟨_, _, rfl, e611⟩
end
end Toy
end
set_option Elab.async false
set_option linter.all false
set_option maxRecDepth 100000
set_option maxHeartbeats 4000000
namespace Toy
open PySem L2 Fr Gm Dt
local macro_rules | `(tactic| walk_at "rd1") => `(tactic| first
  | with_reducible refine r_seq ?_ | with_reducible refine r_asg ?_ | with_reducible refine r_gname ?_ | with_reducible refine r_op ?_ | with_reducible refine r_c ?_
  | ((with_reducible refine' r_var ?hv ?_); case' hv => exact rfl)
  | with_reducible refine r_rI0 ?_ | with_reducible refine r_un ?_ | with_reducible refine r_rU ?_ | with_reducible refine r_eqI ?_ | with_reducible refine r_neI ?_
  | with_reducible refine r_ret ?_ | with_reducible refine r_retN ?_ | with_reducible refine r_drop ?_ | with_reducible refine r_ifS ?_ | with_reducible refine r_test ?_ | with_reducible refine r_B ?_ | with_reducible refine r_bl ?_
  | with_reducible refine r_not ?_ | with_reducible refine r_and ?_ | with_reducible refine r_or ?_ | with_reducible refine r_andV ?_ | with_reducible refine r_orV ?_ | with_reducible refine r_notV ?_ | with_reducible refine r_ifE ?_
  | with_reducible refine r_nil ?_ | with_reducible refine r_cons ?_ | with_reducible refine r_call ?_ | with_reducible refine r_cb ?_ | with_reducible refine r_tup ?_ | with_reducible refine r_lst ?_ | with_reducible refine r_next ?_
  | with_reducible refine r_gcons ?_ | with_reducible refine r_gnil ?_ | with_reducible refine r_par ?_ | with_reducible refine ifT ?_ | with_reducible refine ifF ?_ | with_reducible refine ifNT ?_ | with_reducible refine ifNF ?_
  | ((with_reducible refine r_rI ?hc ?_); case' hc => walk_at "side")
  | ((with_reducible refine' r_ixT ?hp ?hi ?_); (case' hp => walk_at "seq"); (case' hi => exact rfl))
  | ((with_reducible refine' r_ixL ?hp ?hi ?_); (case' hp => walk_at "seq"); (case' hi => exact rfl))
  | ((with_reducible refine' r_gtup ?hp ?hi ?_); (case' hp => walk_at "seq"); (case' hi => exact rfl))
  | ((with_reducible refine And.intro ?hl ?_); case' hl => (first | exact sl2 | exact sl3))
  | with_reducible refine r_bm ?_ | with_reducible refine r_bm0 ?_ | with_reducible refine r_true ?_ | with_reducible refine r_isN ?_ | with_reducible refine r_notN ?_ | with_reducible refine r_raise ?_ | with_reducible refine r_tryAs ?_ | with_reducible refine r_dnotin ?_ | with_reducible refine r_din ?_ | with_reducible refine r_dput ?_ | with_reducible refine r_dget1 ?_ | with_reducible refine r_tryNo ?_
  | dsimp only)
local macro_rules | `(tactic| walk_at "rd") => `(tactic| repeat walk_at "rd1")
local macro_rules | `(tactic| walk_at "blk_vis") => `(tactic| first | exact Or.inl rfl | exact Or.inr (Or.inl rfl) | exact Or.inr (Or.inr rfl))
local macro_rules | `(tactic| walk_at "blk_ok") => `(tactic| exact ⟨rfl, by decide +kernel, by decide +kernel, rfl, by (first | exact trivial | exact ⟨rfl, trivial⟩ | exact ⟨rfl, rfl, trivial⟩ | exact ⟨rfl, rfl, rfl, trivial⟩ | exact ⟨rfl, rfl, rfl, rfl, trivial⟩), rfl,
  by (first | exact fm_nil | exact fm_cons ⟨rfl, by walk_at "blk_vis", rfl, rfl⟩ fm_nil | exact fm_cons ⟨rfl, by walk_at "blk_vis", rfl, rfl⟩ (fm_cons ⟨rfl, by walk_at "blk_vis", rfl, rfl⟩ fm_nil) | exact fm_cons ⟨rfl, by walk_at "blk_vis", rfl, rfl⟩ (fm_cons ⟨rfl, by walk_at "blk_vis", rfl, rfl⟩ (fm_cons ⟨rfl, by walk_at "blk_vis", rfl, rfl⟩ fm_nil))),
  by (first | exact fm_nil | exact fm_cons rfl fm_nil | exact fm_cons rfl (fm_cons rfl fm_nil) | exact fm_cons rfl (fm_cons rfl (fm_cons rfl fm_nil)))⟩)
local macro_rules | `(tactic| walk_at "blk_ok1") => `(tactic| exact ⟨rfl, fun _ => rfl, fun _ => rfl, by decide +kernel, rfl, by (first | exact trivial | exact ⟨rfl, trivial⟩ | exact ⟨rfl, rfl, trivial⟩ | exact ⟨rfl, rfl, rfl, trivial⟩ | exact ⟨rfl, rfl, rfl, rfl, trivial⟩), rfl,
  by (first | exact fm_nil | exact fm_cons ⟨rfl, by walk_at "blk_vis", ⟨rfl, rfl⟩, rfl⟩ fm_nil | exact fm_cons ⟨rfl, by walk_at "blk_vis", ⟨rfl, rfl⟩, rfl⟩ (fm_cons ⟨rfl, by walk_at "blk_vis", ⟨rfl, rfl⟩, rfl⟩ fm_nil) | exact fm_cons ⟨rfl, by walk_at "blk_vis", ⟨rfl, rfl⟩, rfl⟩ (fm_cons ⟨rfl, by walk_at "blk_vis", ⟨rfl, rfl⟩, rfl⟩ (fm_cons ⟨rfl, by walk_at "blk_vis", ⟨rfl, rfl⟩, rfl⟩ fm_nil))),
  by (first | exact fm_nil | exact fm_cons rfl fm_nil | exact fm_cons rfl (fm_cons rfl fm_nil) | exact fm_cons rfl (fm_cons rfl (fm_cons rfl fm_nil)))⟩)
local macro_rules | `(tactic| walk_at "side") => `(tactic| first | assumption | exact (show (0 : Int) < _ by decide) | exact cfp_lit (by decide) (by decide) | exact cfp_big (by decide) (by decide) | exact mulL (by decide) (by decide))
local macro_rules | `(tactic| walk_at "seq") => `(tactic| first | assumption | exact SqT.of (by assumption))
theorem all_mk {l : PySem.W.OpenLaw} {w : World} {K : PySem.W.Frag} {h : Heap} {mg : Str → Option Value} {fa : Addr} (X : K.In h) (G : h.Ns mainGlobals mg) (hfa : mg "law" = some (.ref fa))
    {cl_NoOne : Addr}
    (e_NoOne : PySem.W.nsIn K mainGlobals "NoOne" = some (some (.ref cl_NoOne)))
    {f0 : Addr} {od0 an0 : Option Addr} {sl0 : Array (Option Value)} {oc0 kV0 dc0 pm0 cd0 ct0 : Value}
    (a0 : PySem.W.nsIn K mainGlobals "common_divisor" = some (some (.ref f0))) (l0 : K.lookup f0 = some ⟨oc0, od0, .func (PySem.W.fnOf "common_divisor" "common_divisor" (defArgs s_common_divisor) (defBody s_common_divisor) (defScope s_common_divisor) .none kV0 dc0 pm0 an0 cd0 ct0), sl0⟩) (c0 : PySem.W.codeIn K cd0 "common_divisor" = true) (k0 : PySem.W.keepIn K (.ref f0) = true)
    {f1 : Addr} {od1 an1 : Option Addr} {sl1 : Array (Option Value)} {oc1 kV1 dc1 pm1 cd1 ct1 : Value}
    (a1 : PySem.W.nsIn K mainGlobals "ratio" = some (some (.ref f1))) (l1 : K.lookup f1 = some ⟨oc1, od1, .func (PySem.W.fnOf "ratio" "ratio" (defArgs s_ratio) (defBody s_ratio) (defScope s_ratio) .none kV1 dc1 pm1 an1 cd1 ct1), sl1⟩) (c1 : PySem.W.codeIn K cd1 "ratio" = true) (k1 : PySem.W.keepIn K (.ref f1) = true)
    {f2 : Addr} {od2 an2 : Option Addr} {sl2 : Array (Option Value)} {oc2 kV2 dc2 pm2 cd2 ct2 : Value}
    (a2 : PySem.W.nsIn K mainGlobals "common_bottom" = some (some (.ref f2))) (l2 : K.lookup f2 = some ⟨oc2, od2, .func (PySem.W.fnOf "common_bottom" "common_bottom" (defArgs s_common_bottom) (defBody s_common_bottom) (defScope s_common_bottom) .none kV2 dc2 pm2 an2 cd2 ct2), sl2⟩) (c2 : PySem.W.codeIn K cd2 "common_bottom" = true) (k2 : PySem.W.keepIn K (.ref f2) = true)
    {f3 : Addr} {od3 an3 : Option Addr} {sl3 : Array (Option Value)} {oc3 kV3 dc3 pm3 cd3 ct3 : Value}
    (a3 : PySem.W.nsIn K mainGlobals "made_whole" = some (some (.ref f3))) (l3 : K.lookup f3 = some ⟨oc3, od3, .func (PySem.W.fnOf "made_whole" "made_whole" (defArgs s_made_whole) (defBody s_made_whole) (defScope s_made_whole) .none kV3 dc3 pm3 an3 cd3 ct3), sl3⟩) (c3 : PySem.W.codeIn K cd3 "made_whole" = true) (k3 : PySem.W.keepIn K (.ref f3) = true)
    {f4 : Addr} {od4 an4 : Option Addr} {sl4 : Array (Option Value)} {oc4 kV4 dc4 pm4 cd4 ct4 : Value}
    (a4 : PySem.W.nsIn K mainGlobals "led" = some (some (.ref f4))) (l4 : K.lookup f4 = some ⟨oc4, od4, .func (PySem.W.fnOf "led" "led" (defArgs s_led) (defBody s_led) (defScope s_led) .none kV4 dc4 pm4 an4 cd4 ct4), sl4⟩) (c4 : PySem.W.codeIn K cd4 "led" = true) (k4 : PySem.W.keepIn K (.ref f4) = true)
    {f5 : Addr} {od5 an5 : Option Addr} {sl5 : Array (Option Value)} {oc5 kV5 dc5 pm5 cd5 ct5 : Value}
    (a5 : PySem.W.nsIn K mainGlobals "row_cleared" = some (some (.ref f5))) (l5 : K.lookup f5 = some ⟨oc5, od5, .func (PySem.W.fnOf "row_cleared" "row_cleared" (defArgs s_row_cleared) (defBody s_row_cleared) (defScope s_row_cleared) .none kV5 dc5 pm5 an5 cd5 ct5), sl5⟩) (c5 : PySem.W.codeIn K cd5 "row_cleared" = true) (k5 : PySem.W.keepIn K (.ref f5) = true)
    {f6 : Addr} {od6 an6 : Option Addr} {sl6 : Array (Option Value)} {oc6 kV6 dc6 pm6 cd6 ct6 : Value}
    (a6 : PySem.W.nsIn K mainGlobals "column_cleared" = some (some (.ref f6))) (l6 : K.lookup f6 = some ⟨oc6, od6, .func (PySem.W.fnOf "column_cleared" "column_cleared" (defArgs s_column_cleared) (defBody s_column_cleared) (defScope s_column_cleared) .none kV6 dc6 pm6 an6 cd6 ct6), sl6⟩) (c6 : PySem.W.codeIn K cd6 "column_cleared" = true) (k6 : PySem.W.keepIn K (.ref f6) = true)
    {f7 : Addr} {od7 an7 : Option Addr} {sl7 : Array (Option Value)} {oc7 kV7 dc7 pm7 cd7 ct7 : Value}
    (a7 : PySem.W.nsIn K mainGlobals "cleared" = some (some (.ref f7))) (l7 : K.lookup f7 = some ⟨oc7, od7, .func (PySem.W.fnOf "cleared" "cleared" (defArgs s_cleared) (defBody s_cleared) (defScope s_cleared) .none kV7 dc7 pm7 an7 cd7 ct7), sl7⟩) (c7 : PySem.W.codeIn K cd7 "cleared" = true) (k7 : PySem.W.keepIn K (.ref f7) = true)
    {f8 : Addr} {od8 an8 : Option Addr} {sl8 : Array (Option Value)} {oc8 kV8 dc8 pm8 cd8 ct8 : Value}
    (a8 : PySem.W.nsIn K mainGlobals "determinant" = some (some (.ref f8))) (l8 : K.lookup f8 = some ⟨oc8, od8, .func (PySem.W.fnOf "determinant" "determinant" (defArgs s_determinant) (defBody s_determinant) (defScope s_determinant) .none kV8 dc8 pm8 an8 cd8 ct8), sl8⟩) (c8 : PySem.W.codeIn K cd8 "determinant" = true) (k8 : PySem.W.keepIn K (.ref f8) = true)
    {f9 : Addr} {od9 an9 : Option Addr} {sl9 : Array (Option Value)} {oc9 kV9 dc9 pm9 cd9 ct9 : Value}
    (a9 : PySem.W.nsIn K mainGlobals "_law_cell_at" = some (some (.ref f9))) (l9 : K.lookup f9 = some ⟨oc9, od9, .func (PySem.W.fnOf "_law_cell_at" "_law_cell_at" (defArgs s__law_cell_at) (defBody s__law_cell_at) (defScope s__law_cell_at) .none kV9 dc9 pm9 an9 cd9 ct9), sl9⟩) (c9 : PySem.W.codeIn K cd9 "_law_cell_at" = true) (k9 : PySem.W.keepIn K (.ref f9) = true)
    {f10 : Addr} {od10 an10 : Option Addr} {sl10 : Array (Option Value)} {oc10 kV10 dc10 pm10 cd10 ct10 : Value}
    (a10 : PySem.W.nsIn K mainGlobals "_law_block" = some (some (.ref f10))) (l10 : K.lookup f10 = some ⟨oc10, od10, .func (PySem.W.fnOf "_law_block" "_law_block" (defArgs s__law_block) (defBody s__law_block) (defScope s__law_block) .none kV10 dc10 pm10 an10 cd10 ct10), sl10⟩) (c10 : PySem.W.codeIn K cd10 "_law_block" = true) (k10 : PySem.W.keepIn K (.ref f10) = true)
    {f11 : Addr} {od11 an11 : Option Addr} {sl11 : Array (Option Value)} {oc11 kV11 dc11 pm11 cd11 ct11 : Value}
    (a11 : PySem.W.nsIn K mainGlobals "_law_mixed" = some (some (.ref f11))) (l11 : K.lookup f11 = some ⟨oc11, od11, .func (PySem.W.fnOf "_law_mixed" "_law_mixed" (defArgs s__law_mixed) (defBody s__law_mixed) (defScope s__law_mixed) .none kV11 dc11 pm11 an11 cd11 ct11), sl11⟩) (c11 : PySem.W.codeIn K cd11 "_law_mixed" = true) (k11 : PySem.W.keepIn K (.ref f11) = true)
    {f12 : Addr} {od12 an12 : Option Addr} {sl12 : Array (Option Value)} {oc12 kV12 dc12 pm12 cd12 ct12 : Value}
    (a12 : PySem.W.nsIn K mainGlobals "_law_divisor" = some (some (.ref f12))) (l12 : K.lookup f12 = some ⟨oc12, od12, .func (PySem.W.fnOf "_law_divisor" "_law_divisor" (defArgs s__law_divisor) (defBody s__law_divisor) (defScope s__law_divisor) .none kV12 dc12 pm12 an12 cd12 ct12), sl12⟩) (c12 : PySem.W.codeIn K cd12 "_law_divisor" = true) (k12 : PySem.W.keepIn K (.ref f12) = true)
    {f13 : Addr} {od13 an13 : Option Addr} {sl13 : Array (Option Value)} {oc13 kV13 dc13 pm13 cd13 ct13 : Value}
    (a13 : PySem.W.nsIn K mainGlobals "_law_lowest" = some (some (.ref f13))) (l13 : K.lookup f13 = some ⟨oc13, od13, .func (PySem.W.fnOf "_law_lowest" "_law_lowest" (defArgs s__law_lowest) (defBody s__law_lowest) (defScope s__law_lowest) .none kV13 dc13 pm13 an13 cd13 ct13), sl13⟩) (c13 : PySem.W.codeIn K cd13 "_law_lowest" = true) (k13 : PySem.W.keepIn K (.ref f13) = true)
    {f14 : Addr} {od14 an14 : Option Addr} {sl14 : Array (Option Value)} {oc14 kV14 dc14 pm14 cd14 ct14 : Value}
    (a14 : PySem.W.nsIn K mainGlobals "_law_number" = some (some (.ref f14))) (l14 : K.lookup f14 = some ⟨oc14, od14, .func (PySem.W.fnOf "_law_number" "_law_number" (defArgs s__law_number) (defBody s__law_number) (defScope s__law_number) .none kV14 dc14 pm14 an14 cd14 ct14), sl14⟩) (c14 : PySem.W.codeIn K cd14 "_law_number" = true) (k14 : PySem.W.keepIn K (.ref f14) = true)
    {f15 : Addr} {od15 an15 : Option Addr} {sl15 : Array (Option Value)} {oc15 kV15 dc15 pm15 cd15 ct15 : Value}
    (a15 : PySem.W.nsIn K mainGlobals "_law_rows" = some (some (.ref f15))) (l15 : K.lookup f15 = some ⟨oc15, od15, .func (PySem.W.fnOf "_law_rows" "_law_rows" (defArgs s__law_rows) (defBody s__law_rows) (defScope s__law_rows) .none kV15 dc15 pm15 an15 cd15 ct15), sl15⟩) (c15 : PySem.W.codeIn K cd15 "_law_rows" = true) (k15 : PySem.W.keepIn K (.ref f15) = true)
    {f16 : Addr} {od16 an16 : Option Addr} {sl16 : Array (Option Value)} {oc16 kV16 dc16 pm16 cd16 ct16 : Value}
    (a16 : PySem.W.nsIn K mainGlobals "_law_plus" = some (some (.ref f16))) (l16 : K.lookup f16 = some ⟨oc16, od16, .func (PySem.W.fnOf "_law_plus" "_law_plus" (defArgs s__law_plus) (defBody s__law_plus) (defScope s__law_plus) .none kV16 dc16 pm16 an16 cd16 ct16), sl16⟩) (c16 : PySem.W.codeIn K cd16 "_law_plus" = true) (k16 : PySem.W.keepIn K (.ref f16) = true)
    {f17 : Addr} {od17 an17 : Option Addr} {sl17 : Array (Option Value)} {oc17 kV17 dc17 pm17 cd17 ct17 : Value}
    (a17 : PySem.W.nsIn K mainGlobals "_law_times" = some (some (.ref f17))) (l17 : K.lookup f17 = some ⟨oc17, od17, .func (PySem.W.fnOf "_law_times" "_law_times" (defArgs s__law_times) (defBody s__law_times) (defScope s__law_times) .none kV17 dc17 pm17 an17 cd17 ct17), sl17⟩) (c17 : PySem.W.codeIn K cd17 "_law_times" = true) (k17 : PySem.W.keepIn K (.ref f17) = true)
    {f18 : Addr} {od18 an18 : Option Addr} {sl18 : Array (Option Value)} {oc18 kV18 dc18 pm18 cd18 ct18 : Value}
    (a18 : PySem.W.nsIn K mainGlobals "_law_steep" = some (some (.ref f18))) (l18 : K.lookup f18 = some ⟨oc18, od18, .func (PySem.W.fnOf "_law_steep" "_law_steep" (defArgs s__law_steep) (defBody s__law_steep) (defScope s__law_steep) .none kV18 dc18 pm18 an18 cd18 ct18), sl18⟩) (c18 : PySem.W.codeIn K cd18 "_law_steep" = true) (k18 : PySem.W.keepIn K (.ref f18) = true)
    {f19 : Addr} {od19 an19 : Option Addr} {sl19 : Array (Option Value)} {oc19 kV19 dc19 pm19 cd19 ct19 : Value}
    (a19 : PySem.W.nsIn K mainGlobals "_law_great" = some (some (.ref f19))) (l19 : K.lookup f19 = some ⟨oc19, od19, .func (PySem.W.fnOf "_law_great" "_law_great" (defArgs s__law_great) (defBody s__law_great) (defScope s__law_great) .none kV19 dc19 pm19 an19 cd19 ct19), sl19⟩) (c19 : PySem.W.codeIn K cd19 "_law_great" = true) (k19 : PySem.W.keepIn K (.ref f19) = true)
    {f20 : Addr} {od20 an20 : Option Addr} {sl20 : Array (Option Value)} {oc20 kV20 dc20 pm20 cd20 ct20 : Value}
    (a20 : PySem.W.nsIn K mainGlobals "law" = some (some (.ref f20))) (l20 : K.lookup f20 = some ⟨oc20, od20, .func (PySem.W.fnOf "law" "law" (defArgs s_law) (defBody s_law) (defScope s_law) .none kV20 dc20 pm20 an20 cd20 ct20), sl20⟩) (c20 : PySem.W.codeIn K cd20 "law" = true) (k20 : PySem.W.keepIn K (.ref f20) = true)
    (z0 : PySem.W.nsIn K mainGlobals "abs" = some none)
    (z1 : PySem.W.nsIn K mainGlobals "len" = some none)
    (z2 : PySem.W.nsIn K mainGlobals "isinstance" = some none)
    (z3 : PySem.W.nsIn K mainGlobals "int" = some none)
    (z4 : PySem.W.nsIn K mainGlobals "bool" = some none)
    (z5 : PySem.W.nsIn K mainGlobals "tuple" = some none)
    (z6 : PySem.W.nsIn K mainGlobals "enumerate" = some none)
    (z7 : PySem.W.nsIn K mainGlobals "range" = some none)
    (z8 : PySem.W.nsIn K mainGlobals "min" = some none)
    (z9 : PySem.W.nsIn K mainGlobals "list" = some none)
    (z10 : PySem.W.nsIn K mainGlobals "zip" = some none)
    (x_NoOne : PySem.W.excIn K cl_NoOne [.type "ValueError", .type "Exception", .type "BaseException", .type "object"] "ValueError.__new__" = true)
    (f_m1 : PySem.W.exmOne K (.ref cl_NoOne) (.ref cl_NoOne) = some true)
    : ∃ fd : FuncData, (∀ (s : Shared) (v : Value), BindsTo s fd ⟨[v], []⟩ [("_law_script", v)]) ∧ ∀ base : Heap, K.In base → base.Ns mainGlobals mg → FnOk l.prog w K mg base (CXe l.prog w) 10 fa fd ["_law_script"] (sp_law K) := by
  have e := hfa.symm.trans (PySem.W.mg_of X G a20)
  cases e
  have T : Txt K mg ⟨cl_NoOne⟩ := ⟨PySem.W.mg_none_of X G z0, PySem.W.mg_none_of X G z1, PySem.W.mg_none_of X G z2, PySem.W.mg_none_of X G z3, PySem.W.mg_none_of X G z4, PySem.W.mg_none_of X G z5, PySem.W.mg_none_of X G z6, PySem.W.mg_none_of X G z7, PySem.W.mg_none_of X G z8, PySem.W.mg_none_of X G z9, PySem.W.mg_none_of X G z10, PySem.W.mg_of X G e_NoOne, x_NoOne, f_m1⟩
  have D0 : Def K mg "common_divisor" s_common_divisor ["one", "other"] := ⟨⟨f0, _, fun_mk (st := s_common_divisor) l0 c0 k0, PySem.W.mg_of X G a0, (fun_mk (st := s_common_divisor) l0 c0 k0).binds (ps := ["one", "other"]) fun _ _ _ _ _ _ us hl => match us, hl with | [_, _], _ => rfl⟩⟩
  have D1 : Def K mg "ratio" s_ratio ["top", "bottom"] := ⟨⟨f1, _, fun_mk (st := s_ratio) l1 c1 k1, PySem.W.mg_of X G a1, (fun_mk (st := s_ratio) l1 c1 k1).binds (ps := ["top", "bottom"]) fun _ _ _ _ _ _ us hl => match us, hl with | [_, _], _ => rfl⟩⟩
  have D2 : Def K mg "common_bottom" s_common_bottom ["row"] := ⟨⟨f2, _, fun_mk (st := s_common_bottom) l2 c2 k2, PySem.W.mg_of X G a2, (fun_mk (st := s_common_bottom) l2 c2 k2).binds (ps := ["row"]) fun _ _ _ _ _ _ us hl => match us, hl with | [_], _ => rfl⟩⟩
  have D3 : Def K mg "made_whole" s_made_whole ["row"] := ⟨⟨f3, _, fun_mk (st := s_made_whole) l3 c3 k3, PySem.W.mg_of X G a3, (fun_mk (st := s_made_whole) l3 c3 k3).binds (ps := ["row"]) fun _ _ _ _ _ _ us hl => match us, hl with | [_], _ => rfl⟩⟩
  have D4 : Def K mg "led" s_led ["rows", "column"] := ⟨⟨f4, _, fun_mk (st := s_led) l4 c4 k4, PySem.W.mg_of X G a4, (fun_mk (st := s_led) l4 c4 k4).binds (ps := ["rows", "column"]) fun _ _ _ _ _ _ us hl => match us, hl with | [_, _], _ => rfl⟩⟩
  have D5 : Def K mg "row_cleared" s_row_cleared ["row", "leader", "column", "last"] := ⟨⟨f5, _, fun_mk (st := s_row_cleared) l5 c5 k5, PySem.W.mg_of X G a5, (fun_mk (st := s_row_cleared) l5 c5 k5).binds (ps := ["row", "leader", "column", "last"]) fun _ _ _ _ _ _ us hl => match us, hl with | [_, _, _, _], _ => rfl⟩⟩
  have D6 : Def K mg "column_cleared" s_column_cleared ["rows", "column", "last"] := ⟨⟨f6, _, fun_mk (st := s_column_cleared) l6 c6 k6, PySem.W.mg_of X G a6, (fun_mk (st := s_column_cleared) l6 c6 k6).binds (ps := ["rows", "column", "last"]) fun _ _ _ _ _ _ us hl => match us, hl with | [_, _, _], _ => rfl⟩⟩
  have D7 : Def K mg "cleared" s_cleared ["rows"] := ⟨⟨f7, _, fun_mk (st := s_cleared) l7 c7 k7, PySem.W.mg_of X G a7, (fun_mk (st := s_cleared) l7 c7 k7).binds (ps := ["rows"]) fun _ _ _ _ _ _ us hl => match us, hl with | [_], _ => rfl⟩⟩
  have D8 : Def K mg "determinant" s_determinant ["rows"] := ⟨⟨f8, _, fun_mk (st := s_determinant) l8 c8 k8, PySem.W.mg_of X G a8, (fun_mk (st := s_determinant) l8 c8 k8).binds (ps := ["rows"]) fun _ _ _ _ _ _ us hl => match us, hl with | [_], _ => rfl⟩⟩
  have D9 : Def K mg "_law_cell_at" s__law_cell_at ["_law_script", "_law_k"] := ⟨⟨f9, _, fun_mk (st := s__law_cell_at) l9 c9 k9, PySem.W.mg_of X G a9, (fun_mk (st := s__law_cell_at) l9 c9 k9).binds (ps := ["_law_script", "_law_k"]) fun _ _ _ _ _ _ us hl => match us, hl with | [_, _], _ => rfl⟩⟩
  have D10 : Def K mg "_law_block" s__law_block ["_law_script", "_law_k"] := ⟨⟨f10, _, fun_mk (st := s__law_block) l10 c10 k10, PySem.W.mg_of X G a10, (fun_mk (st := s__law_block) l10 c10 k10).binds (ps := ["_law_script", "_law_k"]) fun _ _ _ _ _ _ us hl => match us, hl with | [_, _], _ => rfl⟩⟩
  have D11 : Def K mg "_law_mixed" s__law_mixed ["_law_script", "_law_k"] := ⟨⟨f11, _, fun_mk (st := s__law_mixed) l11 c11 k11, PySem.W.mg_of X G a11, (fun_mk (st := s__law_mixed) l11 c11 k11).binds (ps := ["_law_script", "_law_k"]) fun _ _ _ _ _ _ us hl => match us, hl with | [_, _], _ => rfl⟩⟩
  have D12 : Def K mg "_law_divisor" s__law_divisor ["_law_one", "_law_other"] := ⟨⟨f12, _, fun_mk (st := s__law_divisor) l12 c12 k12, PySem.W.mg_of X G a12, (fun_mk (st := s__law_divisor) l12 c12 k12).binds (ps := ["_law_one", "_law_other"]) fun _ _ _ _ _ _ us hl => match us, hl with | [_, _], _ => rfl⟩⟩
  have D13 : Def K mg "_law_lowest" s__law_lowest ["_law_top", "_law_bottom"] := ⟨⟨f13, _, fun_mk (st := s__law_lowest) l13 c13 k13, PySem.W.mg_of X G a13, (fun_mk (st := s__law_lowest) l13 c13 k13).binds (ps := ["_law_top", "_law_bottom"]) fun _ _ _ _ _ _ us hl => match us, hl with | [_, _], _ => rfl⟩⟩
  have D14 : Def K mg "_law_number" s__law_number ["_law_script", "_law_k"] := ⟨⟨f14, _, fun_mk (st := s__law_number) l14 c14 k14, PySem.W.mg_of X G a14, (fun_mk (st := s__law_number) l14 c14 k14).binds (ps := ["_law_script", "_law_k"]) fun _ _ _ _ _ _ us hl => match us, hl with | [_, _], _ => rfl⟩⟩
  have D15 : Def K mg "_law_rows" s__law_rows ["_law_script", "_law_many"] := ⟨⟨f15, _, fun_mk (st := s__law_rows) l15 c15 k15, PySem.W.mg_of X G a15, (fun_mk (st := s__law_rows) l15 c15 k15).binds (ps := ["_law_script", "_law_many"]) fun _ _ _ _ _ _ us hl => match us, hl with | [_, _], _ => rfl⟩⟩
  have D16 : Def K mg "_law_plus" s__law_plus ["_law_one", "_law_other"] := ⟨⟨f16, _, fun_mk (st := s__law_plus) l16 c16 k16, PySem.W.mg_of X G a16, (fun_mk (st := s__law_plus) l16 c16 k16).binds (ps := ["_law_one", "_law_other"]) fun _ _ _ _ _ _ us hl => match us, hl with | [_, _], _ => rfl⟩⟩
  have D17 : Def K mg "_law_times" s__law_times ["_law_one", "_law_other"] := ⟨⟨f17, _, fun_mk (st := s__law_times) l17 c17 k17, PySem.W.mg_of X G a17, (fun_mk (st := s__law_times) l17 c17 k17).binds (ps := ["_law_one", "_law_other"]) fun _ _ _ _ _ _ us hl => match us, hl with | [_, _], _ => rfl⟩⟩
  have D18 : Def K mg "_law_steep" s__law_steep ["_law_script", "_law_many"] := ⟨⟨f18, _, fun_mk (st := s__law_steep) l18 c18 k18, PySem.W.mg_of X G a18, (fun_mk (st := s__law_steep) l18 c18 k18).binds (ps := ["_law_script", "_law_many"]) fun _ _ _ _ _ _ us hl => match us, hl with | [_, _], _ => rfl⟩⟩
  have D19 : Def K mg "_law_great" s__law_great ["_law_script"] := ⟨⟨f19, _, fun_mk (st := s__law_great) l19 c19 k19, PySem.W.mg_of X G a19, (fun_mk (st := s__law_great) l19 c19 k19).binds (ps := ["_law_script"]) fun _ _ _ _ _ _ us hl => match us, hl with | [_], _ => rfl⟩⟩
  refine ⟨PySem.W.fnOf "law" "law" (defArgs s_law) (defBody s_law) (defScope s_law) .none kV20 dc20 pm20 an20 cd20 ct20, fun s v => .of_eq rfl, fun base hK hG => ?_⟩
  have H_common_divisor := ok_common_divisor (P := l.prog) (w := w) (base := base) D0 T 
  have H_ratio := ok_ratio (P := l.prog) (w := w) (base := base) D1 T H_common_divisor
  have H_common_bottom := ok_common_bottom (P := l.prog) (w := w) (base := base) D2 T H_common_divisor
  have H_made_whole := ok_made_whole (P := l.prog) (w := w) (base := base) D3 T H_common_bottom
  have H_led := ok_led (P := l.prog) (w := w) (base := base) D4 T 
  have H_row_cleared := ok_row_cleared (P := l.prog) (w := w) (base := base) D5 T 
  have H_column_cleared := ok_column_cleared (P := l.prog) (w := w) (base := base) D6 T H_row_cleared
  have H_cleared := ok_cleared (P := l.prog) (w := w) (base := base) D7 T H_led H_column_cleared
  have H_determinant := ok_determinant (P := l.prog) (w := w) (base := base) D8 T H_ratio H_common_bottom H_made_whole H_cleared
  have H__law_cell_at := ok__law_cell_at (P := l.prog) (w := w) (base := base) D9 T 
  have H__law_block := ok__law_block (P := l.prog) (w := w) (base := base) D10 T 
  have H__law_mixed := ok__law_mixed (P := l.prog) (w := w) (base := base) D11 T H__law_block
  have H__law_divisor := ok__law_divisor (P := l.prog) (w := w) (base := base) D12 T 
  have H__law_lowest := ok__law_lowest (P := l.prog) (w := w) (base := base) D13 T H__law_divisor
  have H__law_number := ok__law_number (P := l.prog) (w := w) (base := base) D14 T H__law_cell_at H__law_mixed H__law_lowest
  have H__law_rows := ok__law_rows (P := l.prog) (w := w) (base := base) D15 T H__law_number
  have H__law_plus := ok__law_plus (P := l.prog) (w := w) (base := base) D16 T H__law_lowest
  have H__law_times := ok__law_times (P := l.prog) (w := w) (base := base) D17 T H__law_lowest
  have H__law_steep := ok__law_steep (P := l.prog) (w := w) (base := base) D18 T H__law_mixed
  have H__law_great := ok__law_great (P := l.prog) (w := w) (base := base) D19 T H_determinant H__law_mixed H__law_steep
  exact ok_law (fun_mk (st := s_law) l20 c20 k20) T H_determinant H__law_cell_at H__law_mixed H__law_number H__law_rows H__law_plus H__law_times H__law_great
theorem walk {l : PySem.W.OpenLaw} {q : Program} {loose : List Str} {XP : (Str → Option Value) → Heap → Prop} {YP : World → Heap → Prop} {d : DefRec} {K : Params → PySem.W.Frag} (hn : l.most = some 63) (hdf : d.params.defaults = [])
    (hY : ∀ (w : World) (h : Heap), YP w h → (K w.params).In h)
    (F : ∀ (w : World) (mg : Str → Option Value) (fa : Addr) (h : Heap), (K w.params).In h → h.Ns mainGlobals mg → mg d.name = some (.ref fa) →
      ∃ fd : FuncData, (∀ (s : Shared) (u : Value), BindsTo s fd ⟨[u], []⟩ [("_law_script", u)]) ∧ ∀ base : Heap, (K w.params).In base → base.Ns mainGlobals mg → FnOk l.prog w (K w.params) mg base (CXe l.prog w) 10 fa fd ["_law_script"] (sp_law (K w.params))) :
    PySem.W.WalkO q loose XP YP l.row.toRowW d [] (fun f vs => PySem.call f vs) :=
  L2.walk_of (n := 63) (k := 10) (x := "_law_script") (CX := fun w => CXe l.prog w) (sp := fun w => sp_law (K w.params)) hn (by decide) hdf ⟨rfl, by decide, by decide⟩ hY F (fun _ _ a ns hl _ hS => ⟨a, ns, rfl, hS, hl, fun _ => rfl⟩) fun _ _ _ _ _ z => cxe_false z
end Toy
open PySem PySem.W PyProof.Rows
set_option maxRecDepth 100000 in
set_option maxHeartbeats 0 in
theorem PySem.Challenge.cw_standup_k05_determinants_holds : PySem.Challenge.rw_standup_k05_determinants.Holds := by
  w_on; o_law; k_head; (case hw => w_witness2)
  k_fill
  refine Toy.walk (l := PySem.Challenge.rw_standup_k05_determinants) rfl rfl (fun w h Y => PySem.W.kIn_of Y) ?F
  case F =>
    intro w mg fa h KX G hmg
    refine' Toy.all_mk KX G hmg ?e_NoOne ?a0 ?l0 ?c0 ?k0 ?a1 ?l1 ?c1 ?k1 ?a2 ?l2 ?c2 ?k2 ?a3 ?l3 ?c3 ?k3 ?a4 ?l4 ?c4 ?k4 ?a5 ?l5 ?c5 ?k5 ?a6 ?l6 ?c6 ?k6 ?a7 ?l7 ?c7 ?k7 ?a8 ?l8 ?c8 ?k8 ?a9 ?l9 ?c9 ?k9 ?a10 ?l10 ?c10 ?k10 ?a11 ?l11 ?c11 ?k11 ?a12 ?l12 ?c12 ?k12 ?a13 ?l13 ?c13 ?k13 ?a14 ?l14 ?c14 ?k14 ?a15 ?l15 ?c15 ?k15 ?a16 ?l16 ?c16 ?k16 ?a17 ?l17 ?c17 ?k17 ?a18 ?l18 ?c18 ?k18 ?a19 ?l19 ?c19 ?k19 ?a20 ?l20 ?c20 ?k20 ?z0 ?z1 ?z2 ?z3 ?z4 ?z5 ?z6 ?z7 ?z8 ?z9 ?z10 ?x_NoOne ?f_m1
    (case e_NoOne => k_is)
    (case a0 => k_is)
    (case l0 => k_is)
    (case c0 => k_is)
    (case k0 => k_is)
    (case a1 => k_is)
    (case l1 => k_is)
    (case c1 => k_is)
    (case k1 => k_is)
    (case a2 => k_is)
    (case l2 => k_is)
    (case c2 => k_is)
    (case k2 => k_is)
    (case a3 => k_is)
    (case l3 => k_is)
    (case c3 => k_is)
    (case k3 => k_is)
    (case a4 => k_is)
    (case l4 => k_is)
    (case c4 => k_is)
    (case k4 => k_is)
    (case a5 => k_is)
    (case l5 => k_is)
    (case c5 => k_is)
    (case k5 => k_is)
    (case a6 => k_is)
    (case l6 => k_is)
    (case c6 => k_is)
    (case k6 => k_is)
    (case a7 => k_is)
    (case l7 => k_is)
    (case c7 => k_is)
    (case k7 => k_is)
    (case a8 => k_is)
    (case l8 => k_is)
    (case c8 => k_is)
    (case k8 => k_is)
    (case a9 => k_is)
    (case l9 => k_is)
    (case c9 => k_is)
    (case k9 => k_is)
    (case a10 => k_is)
    (case l10 => k_is)
    (case c10 => k_is)
    (case k10 => k_is)
    (case a11 => k_is)
    (case l11 => k_is)
    (case c11 => k_is)
    (case k11 => k_is)
    (case a12 => k_is)
    (case l12 => k_is)
    (case c12 => k_is)
    (case k12 => k_is)
    (case a13 => k_is)
    (case l13 => k_is)
    (case c13 => k_is)
    (case k13 => k_is)
    (case a14 => k_is)
    (case l14 => k_is)
    (case c14 => k_is)
    (case k14 => k_is)
    (case a15 => k_is)
    (case l15 => k_is)
    (case c15 => k_is)
    (case k15 => k_is)
    (case a16 => k_is)
    (case l16 => k_is)
    (case c16 => k_is)
    (case k16 => k_is)
    (case a17 => k_is)
    (case l17 => k_is)
    (case c17 => k_is)
    (case k17 => k_is)
    (case a18 => k_is)
    (case l18 => k_is)
    (case c18 => k_is)
    (case k18 => k_is)
    (case a19 => k_is)
    (case l19 => k_is)
    (case c19 => k_is)
    (case k19 => k_is)
    (case a20 => k_is)
    (case l20 => k_is)
    (case c20 => k_is)
    (case k20 => k_is)
    (case z0 => k_is)
    (case z1 => k_is)
    (case z2 => k_is)
    (case z3 => k_is)
    (case z4 => k_is)
    (case z5 => k_is)
    (case z6 => k_is)
    (case z7 => k_is)
    (case z8 => k_is)
    (case z9 => k_is)
    (case z10 => k_is)
    (case x_NoOne => k_exc)
    (case f_m1 => kts_exm)
