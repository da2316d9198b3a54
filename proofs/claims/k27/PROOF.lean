import PyProof.Rows.All
import Wide.All
import OpenK.AllK
import Wide.FinOn
import Lean
import PyProof.EqAt
import PyProof.EqKinds
import PyProof.TupleCall
import KE.KRevIter
import KE.KIntText
import PySem.Challenge.RW_standup_k27_names
set_option Elab.async false
set_option linter.all false
set_option maxRecDepth 100000
namespace L2
open PySem PySem.Spec PyProof.Rows
abbrev Key := Sum Int Str
def keyIs : Key → Value → Bool
  | .inl k, v => Value.isInt k v
  | .inr x, v => Value.isStrOf x v
def keyH (w : World) : Key → Int
  | .inl k => hashInt k
  | .inr x => hashStr w x
theorem keyIs_shape : ∀ {k : Key} {v : Value}, keyIs k v = true → (∃ i t, k = Sum.inl i ∧ v = Value.int i t) ∨ (∃ x t, k = Sum.inr x ∧ v = Value.str x t)
  | .inl i, v, h => by
    obtain ⟨t, e⟩ := Value.isInt_shape (k := i) (v := v) h
    exact .inl ⟨i, t, rfl, e⟩
  | .inr x, v, h => by
    obtain ⟨t, e⟩ := Value.isStrOf_shape (x := x) (v := v) h
    exact .inr ⟨x, t, rfl, e⟩
theorem keyIs_int (i : Int) (t : Tok) : keyIs (.inl i) (.int i t) = true := by simp [keyIs, Value.isInt]
theorem keyIs_str (x : Str) (t : Tok) : keyIs (.inr x) (.str x t) = true := by simp [keyIs, Value.isStrOf]
theorem key_ll (a b : Int) : decide ((Sum.inl a : Key) = Sum.inl b) = (a == b) := by
  by_cases e : a = b
  · subst e; simp
  · have h : ¬ (Sum.inl a : Key) = Sum.inl b := fun q => e (Sum.inl.inj q)
    rw [decide_eq_false h]
    exact (beq_eq_false_iff_ne.mpr e).symm
theorem key_rr (a b : Str) : decide ((Sum.inr a : Key) = Sum.inr b) = decide (a = b) := by
  by_cases e : a = b
  · subst e; simp
  · have h : ¬ (Sum.inr a : Key) = Sum.inr b := fun q => e (Sum.inr.inj q)
    rw [decide_eq_false h, decide_eq_false e]
theorem key_lr (a : Int) (b : Str) : decide ((Sum.inl a : Key) = Sum.inr b) = false := decide_eq_false (fun q => nomatch q)
theorem key_rl (a : Str) (b : Int) : decide ((Sum.inr a : Key) = Sum.inl b) = false := decide_eq_false (fun q => nomatch q)
def mixKind (prog : Program) (w : World) : PySem.KeyKind prog w Key where
  is := keyIs
  hash := keyH w
  inj := fun v a b ha hb => by
    rcases keyIs_shape ha with ⟨i, t, rfl, rfl⟩ | ⟨x, t, rfl, rfl⟩
    · rcases keyIs_shape hb with ⟨j, u, rfl, e⟩ | ⟨y, u, rfl, e⟩
      · injection e with e1 _; rw [e1]
      · exact nomatch e
    · rcases keyIs_shape hb with ⟨j, u, rfl, e⟩ | ⟨y, u, rfl, e⟩
      · exact nomatch e
      · injection e with e1 _; rw [e1]
  byValue := fun k v h => by
    rcases keyIs_shape h with ⟨i, t, rfl, rfl⟩ | ⟨x, t, rfl, rfl⟩ <;> rfl
  pyHash := fun hv h => by
    rcases keyIs_shape hv with ⟨i, t, rfl, rfl⟩ | ⟨x, t, rfl, rfl⟩
    · exact wpAny_pyHash_int h
    · exact wpAny_pyHash_str h
  eqBool := fun hu hv h => by
    rcases keyIs_shape hu with ⟨i, t, rfl, rfl⟩ | ⟨x, t, rfl, rfl⟩
    · rcases keyIs_shape hv with ⟨j, u, rfl, rfl⟩ | ⟨y, u, rfl, rfl⟩
      · rw [key_ll] at h; exact wpAny_eqBool_int h
      · rw [key_lr] at h; exact SeqAt.EqAt.int_str i t y u _ _ _ _ h
    · rcases keyIs_shape hv with ⟨j, u, rfl, rfl⟩ | ⟨y, u, rfl, rfl⟩
      · rw [key_rl] at h; exact SeqAt.EqAt.str_int x t j u _ _ _ _ h
      · rw [key_rr] at h; exact wpAny_eqBool_str h
  «strs» := fun k x t v h => by
    rcases keyIs_shape h with ⟨i, u, rfl, e⟩ | ⟨y, u, rfl, e⟩
    · exact nomatch e
    · injection e with e1 _
      subst e1
      cases v <;> rfl
theorem mixKind_int (prog : Program) (w : World) (i : Int) (t : Tok) : (mixKind prog w).is (.inl i) (.int i t) = true := keyIs_int i t
theorem mixKind_str (prog : Program) (w : World) (x : Str) (t : Tok) : (mixKind prog w).is (.inr x) (.str x t) = true := keyIs_str x t
end L2
namespace L2
open PySem PySem.Spec PyProof.Rows
inductive V where
  | non | bl (b : Bool) | int (i : Int) | str (x : Str) | byt (b : Array UInt8) | flt (b : UInt64) | ref (a : Addr) | ty (n : String)
  deriving DecidableEq
def RelV : V → Value → Prop
  | .non, u => u = Value.none
  | .bl b, u => u = Value.bool b
  | .int i, u => ∃ t, u = Value.int i t
  | .str x, u => ∃ t, u = Value.str x t
  | .byt b, u => ∃ t, u = Value.bytes b t
  | .flt b, u => ∃ t, u = Value.float b t
  | .ref a, u => u = Value.ref a
  | .ty n, u => u = Value.type n
abbrev Vals : List V → List Value → Prop := Paired RelV
theorem Vals.length {xs : List V} {us : List Value} (r : Vals xs us) : xs.length = us.length := Paired.length r
theorem Vals.get : ∀ {xs : List V} {us : List Value} {i : Nat} {x : V}, Vals xs us → xs[i]? = some x → ∃ u, us[i]? = some u ∧ RelV x u
  | _, _, _, _, .nil, e => by simp at e
  | _, _, 0, _, .cons r _, e => by simp at e; subst e; exact ⟨_, rfl, r⟩
  | _, _, i + 1, x, .cons _ t, e => by
    obtain ⟨u, h1, h2⟩ := Vals.get (i := i) (x := x) t (by simpa using e)
    exact ⟨u, by simpa using h1, h2⟩
theorem Vals.set {x : V} {u : Value} (r : RelV x u) : ∀ {xs : List V} {us : List Value} (i : Nat), Vals xs us → Vals (xs.set i x) (us.set i u)
  | _, _, _, .nil => .nil
  | _, _, 0, .cons _ t => .cons r t
  | _, _, i + 1, .cons q t => .cons q (Vals.set r i t)
theorem Vals.append : ∀ {xs ys : List V} {us ws : List Value}, Vals xs us → Vals ys ws → Vals (xs ++ ys) (us ++ ws)
  | _, _, _, _, .nil, s => s
  | _, _, _, _, .cons r t, s => .cons r (Vals.append t s)
theorem Vals.take : ∀ {xs : List V} {us : List Value} (n : Nat), Vals xs us → Vals (xs.take n) (us.take n)
  | _, _, 0, _ => .nil
  | _, _, _ + 1, .nil => .nil
  | _, _, n + 1, .cons r t => .cons r (Vals.take n t)
theorem Vals.drop : ∀ {xs : List V} {us : List Value} (n : Nat), Vals xs us → Vals (xs.drop n) (us.drop n)
  | _, _, 0, r => r
  | _, _, _ + 1, .nil => .nil
  | _, _, n + 1, .cons _ t => Vals.drop n t
theorem Vals.none_of : ∀ {xs : List V} {us : List Value} {i : Nat}, Vals xs us → xs[i]? = none → us[i]? = none := fun {xs us i} r e => by
  have h1 := r.length
  have h2 : xs.length ≤ i := List.getElem?_eq_none_iff.mp e
  exact List.getElem?_eq_none_iff.mpr (by omega)
def RelO : Option V → Option Value → Prop
  | some v, some u => RelV v u
  | none, none => True
  | _, _ => False
def KV {κ : Type} : List (κ × V) → List (κ × Value) → Prop := Paired fun (p : κ × V) (q : κ × Value) => p.1 = q.1 ∧ RelV p.2 q.2
def kV : Key → V
  | .inl i => .int i
  | .inr x => .str x
inductive HO where
  /-- a list -/
  | lst (xs : List V)
  /-- a tuple (never changes) -/
  | tup (xs : List V)
  /-- a dict whose keys are ints and texts; one whose keys are tuples of ints and texts (the empty one is both) -/
  | dK (kvs : List (Key × V)) | dT (kvs : List (List Key × V))
  /-- a set of ints: its members, its size -/
  | set (S : Int → Bool) (n : Nat)
  /-- an instance of the class at C, its dict at dx, its attributes -/
  | ins (C dx : Addr) (fs : List (Str × V))
  /-- the dict of the instance at x -/
  | own (x : Addr)
  /-- the dict of an exception -/
  | xd (fs : List (Str × V))
  /-- a bound method, f of x -/
  | met (f x : Addr)
  /-- a range object lo, lo + 1, .. below hi -/
  | rng (lo hi : Int)
  /-- a thing that is known to the object (the script; a dict while a loop walks it): read, never written while it is so -/
  | frz (o : Obj) (u : HO)
  /-- a code object's table -/
  | tbl (ps : Array Value)
  /-- any other thing, by what is true of its one object (a def of one's own: SetO a S n := HO.ext fun h => ..) -/
  | ext (φ : Heap → Prop)
abbrev Hp := Addr → Option HO
def upd (H : Hp) (a : Addr) (o : HO) : Hp := fun b => if b = a then some o else H b
theorem upd_same {H : Hp} {a : Addr} {o : HO} : upd H a o a = some o := by unfold upd; rw [if_pos rfl]
theorem upd_ne {H : Hp} {a b : Addr} {o : HO} (h : b ≠ a) : upd H a o b = H b := by unfold upd; rw [if_neg h]
theorem ne_of {H : Hp} {a b : Addr} {o u : HO} (h : H a = some o) (h' : H b = some u) (d : o ≠ u) : a ≠ b := by
  intro e; subst e; rw [h] at h'; exact d (Option.some.inj h')
theorem ne_of_none {H : Hp} {a b : Addr} {o : HO} (h : H a = some o) (h' : H b = none) : a ≠ b := by
  intro e; subst e; rw [h] at h'; cases h'
section
variable (P : Program) (w : World)
def ObjOk (H : Hp) (h : Heap) (a : Addr) : HO → Prop
  | .lst xs => xs.length ≤ sizeLine ∧ ∃ (its : List Value) (n : Nat), Vals xs its ∧ h.get? a = some { cls := .type "list", data := .seq its.toArray n }
  | .tup xs => xs.length ≤ sizeLine ∧ ∃ its : List Value, Vals xs its ∧ IsTup h a its.toArray
  | .dK kvs => kvs.length ≤ sizeLine ∧ (a == sysModules) = false ∧ ∃ vs, KV kvs vs ∧ h.DictOf (mixKind P w) a vs
  | .dT kvs => kvs.length ≤ sizeLine ∧ (a == sysModules) = false ∧ ∃ xs : List (List Key × Addr × Value),
      Paired (fun (p : List Key × V) (q : List Key × Addr × Value) => p.1 = q.1 ∧ H q.2.1 = some (.tup (p.1.map kV)) ∧ RelV p.2 q.2.2) kvs xs ∧
      ∃ o es ep, h.get? a = some o ∧ o.ExactDict ∧ o.data = .dict es ep ∧ es.toList = xs.map (entryOfKey (tupleKind (mixKind P w))) ∧ (xs.map (·.1)).Nodup
  | .set S n => h.SetOf (intKind P w) a S n
  | .ins C dx fs => H dx = some (.own a) ∧ fs.length ≤ 1000 ∧ dx ≠ a ∧ h.get? a = some (PySem.W.instObj C dx) ∧
      ∃ mA, h.Ns1 dx mA ∧ (∀ f, RelO (fs.lookup f) (mA f)) ∧ PySem.Within mA (fs.map (·.1))
  | .own _ => ∃ o, h.get? a = some o
  | .xd fs => ∃ mA, h.Ns1 a mA ∧ ∀ f, RelO (fs.lookup f) (mA f)
  | .rng lo hi => ∃ t u v, h.get? a = some { cls := .type "range", data := .fields #[.int lo t, .int hi u, .int 1 v] }
  | .frz o u => h.get? a = some o ∧ ObjOk H h a u
  | .tbl ps => h.get? a = some { cls := .none, data := .fields ps }
  | .met f x => h.get? a = some (PySem.W.methodObj (.ref f) (.ref x))
  | .ext φ => φ h ∧ (∃ o, h.get? a = some o) ∧ ∀ h1 h2 : Heap, φ h1 → (∀ o, h1.get? a = some o → h2.get? a = some o) → φ h2
def HOk (H : Hp) (h : Heap) : Prop := ∀ a o, H a = some o → ObjOk P w H h a o
end
section
variable {P : Program} {w : World} {H H' : Hp} {h h' : Heap} {a : Addr} {o : HO}
theorem ObjOk.lt (x : ObjOk P w H h a o) : a < h.objs.size := by
  cases o with
  | lst xs => obtain ⟨_, _, _, _, e⟩ := x; exact Heap.lt_size e
  | tup xs => obtain ⟨_, _, _, p⟩ := x; exact p.lt
  | dK kvs => obtain ⟨_, _, _, _, o, _, _, e, _⟩ := x; exact Heap.lt_size e
  | dT kvs => obtain ⟨_, _, _, _, o, _, _, e, _⟩ := x; exact Heap.lt_size e
  | set S n => obtain ⟨o, _, _, _, e, _⟩ := x; exact Heap.lt_size e
  | ins C dx fs => obtain ⟨_, _, _, e, _⟩ := x; exact Heap.lt_size e
  | own y => obtain ⟨_, e⟩ := x; exact Heap.lt_size e
  | xd fs => obtain ⟨_, ⟨_, _, _, e, _⟩, _⟩ := x; exact Heap.lt_size e
  | rng lo hi => obtain ⟨_, _, _, e⟩ := x; exact Heap.lt_size e
  | frz ob u => obtain ⟨e, _⟩ := x; exact Heap.lt_size e
  | tbl ps => exact Heap.lt_size (show h.get? a = some _ from x)
  | met f y => exact Heap.lt_size (show h.get? a = some _ from x)
  | ext φ => obtain ⟨_, ⟨_, e⟩, _⟩ := x; exact Heap.lt_size e
theorem Paired.mapP {α β : Type} {F G : α → β → Prop} : ∀ {l₁ : List α} {l₂ : List β}, Paired F l₁ l₂ → (∀ a b, F a b → G a b) → Paired G l₁ l₂
  | _, _, .nil, _ => .nil
  | _, _, .cons r t, f => .cons (f _ _ r) (Paired.mapP t f)
theorem ObjOk.stay (x : ObjOk P w H h a o) (k : ∀ b u, (b = a ∨ H b = some (.own a)) → h.get? b = some u → h'.get? b = some u)
    (ho : ∀ b, H b = some (.own a) → H' b = some (.own a)) (ht : ∀ b xs, H b = some (.tup xs) → H' b = some (.tup xs)) : ObjOk P w H' h' a o := by
  induction o with
  | lst xs => obtain ⟨z, its, n, r, e⟩ := x; exact ⟨z, its, n, r, k _ _ (.inl rfl) e⟩
  | tup xs => obtain ⟨z, its, r, ob, e, c⟩ := x; exact ⟨z, its, r, ob, k _ _ (.inl rfl) e, c⟩
  | dK kvs => obtain ⟨z, y, vs, r, ob, es, ep, e, c⟩ := x; exact ⟨z, y, vs, r, ob, es, ep, k _ _ (.inl rfl) e, c⟩
  | dT kvs =>
    obtain ⟨z, y, xs, r, ob, es, ep, e, c⟩ := x
    exact ⟨z, y, xs, Paired.mapP r fun p q z => ⟨z.1, ht _ _ z.2.1, z.2.2⟩, ob, es, ep, k _ _ (.inl rfl) e, c⟩
  | set S n => obtain ⟨ob, es, ep, t, e, c⟩ := x; exact ⟨ob, es, ep, t, k _ _ (.inl rfl) e, c⟩
  | ins C dx fs =>
    obtain ⟨d, z, ne, e, mA, ⟨od, es, ep, e2, c⟩, r⟩ := x
    exact ⟨ho _ d, z, ne, k _ _ (.inl rfl) e, mA, ⟨od, es, ep, k _ _ (.inr d) e2, c⟩, r⟩
  | own y => obtain ⟨ob, e⟩ := x; exact ⟨ob, k _ _ (.inl rfl) e⟩
  | xd fs => obtain ⟨mA, ⟨od, es, ep, e, c⟩, r⟩ := x; exact ⟨mA, ⟨od, es, ep, k _ _ (.inl rfl) e, c⟩, r⟩
  | rng lo hi => obtain ⟨t, u, v, e⟩ := x; exact ⟨t, u, v, k _ _ (.inl rfl) e⟩
  | frz ob u ih => obtain ⟨e, q⟩ := x; exact ⟨k _ _ (.inl rfl) e, ih q⟩
  | tbl ps =>
    have e : h.get? a = some { cls := .none, data := .fields ps } := x
    show h'.get? a = some { cls := .none, data := .fields ps }
    exact k a _ (.inl rfl) e
  | met f y =>
    have e : h.get? a = some (PySem.W.methodObj (.ref f) (.ref y)) := x
    show h'.get? a = some (PySem.W.methodObj (.ref f) (.ref y))
    exact k a _ (.inl rfl) e
  | ext φ => obtain ⟨p, ⟨o, e⟩, st⟩ := x; exact ⟨st _ _ p fun o q => k _ _ (.inl rfl) q, ⟨o, k _ _ (.inl rfl) e⟩, st⟩
theorem HOk.lt (x : HOk P w H h) (e : H a = some o) : a < h.objs.size := (x a o e).lt
theorem HOk.fresh (x : HOk P w H h) (e : h.objs.size ≤ a) : H a = none := by
  cases q : H a with
  | none => rfl
  | some u => exact absurd (Nat.lt_of_lt_of_le (x.lt q) e) (Nat.lt_irrefl _)
theorem HOk.kept (x : HOk P w H h) (k : ∀ b u, h.get? b = some u → h'.get? b = some u) : HOk P w H h' := fun a o e =>
  (x a o e).stay (fun b u _ q => k b u q) (fun _ q => q) fun _ _ q => q
theorem HOk.laid (x : HOk P w H h) (k : ∀ b u, h.get? b = some u → h'.get? b = some u) (hp : h.objs.size ≤ a) (new : ObjOk P w (upd H a o) h' a o) : HOk P w (upd H a o) h' := fun b u e => by
  have hn := x.fresh hp
  by_cases hb : b = a
  · subst hb; rw [upd_same] at e; cases e; exact new
  · rw [upd_ne hb] at e
    exact (x b u e).stay (fun c v _ q => k c v q) (fun c q => by rw [upd_ne (ne_of_none q hn)]; exact q) fun c xs q => by rw [upd_ne (ne_of_none q hn)]; exact q
end
def Rd (H : Hp) (a : Addr) (u : HO) : Prop := H a = some u ∨ ∃ o, H a = some (.frz o u)
theorem Rd.of {H : Hp} {a : Addr} {u : HO} (h : H a = some u) : Rd H a u := .inl h
theorem Rd.ok {P : Program} {w : World} {H : Hp} {h : Heap} {a : Addr} {u : HO} (r : Rd H a u) (x : HOk P w H h) : ObjOk P w H h a u := by
  rcases r with r | ⟨o, r⟩
  · exact x a u r
  · obtain ⟨_, q⟩ := x a _ r
    exact q
def Mut : Option HO → Prop
  | some (.lst _) => True
  | some (.dK _) => True
  | some (.dT _) => True
  | some (.set _ _) => True
  | some (.ins _ _ _) => True
  | some (.ext _) => True
  | _ => False
section
variable {P : Program} {w : World} {H : Hp} {h h' : Heap} {x e : Addr} {o' : HO}
theorem HOk.write (ok : HOk P w H h) (mu : Mut (H x)) (he : e = x ∨ H e = some (.own x)) (k : ∀ b u, b ≠ e → h.get? b = some u → h'.get? b = some u) (heo : ∃ u, h'.get? e = some u)
    (new : ObjOk P w (upd H x o') h' x o') : HOk P w (upd H x o') h' := fun b u q => by
  have nown : ∀ c y, H c = some (.own y) → c ≠ x := fun c y r z => by subst z; rw [r] at mu; exact mu
  have ntup : ∀ c xs, H c = some (.tup xs) → c ≠ x := fun c xs r z => by subst z; rw [r] at mu; exact mu
  by_cases hb : b = x
  · subst hb; rw [upd_same] at q; cases q; exact new
  · rw [upd_ne hb] at q
    by_cases hbe : b = e
    · have q' : H b = some (.own x) := by
        rcases he with z | z
        · exact absurd (hbe.trans z) hb
        · rw [hbe]; exact z
      rw [q] at q'; cases q'
      obtain ⟨v, hv⟩ := heo
      exact ⟨v, by rw [hbe]; exact hv⟩
    · refine (ok b u q).stay (fun c v hc r => k c v ?_ r) (fun c r => by rw [upd_ne (nown c b r)]; exact r) fun c xs r => by rw [upd_ne (ntup c xs r)]; exact r
      rcases hc with rfl | hc
      · exact hbe
      · rintro rfl
        rcases he with z | z
        · exact nown c b hc z
        · rw [hc] at z; cases z; exact hb rfl
end
structure Un (fs ex : List Addr) (H H' : Hp) (h h' : Heap) : Prop where
  keep : ∀ b o, h.get? b = some o → H b = none → b ∉ fs → b ∉ ex → h'.get? b = some o
  slot : ∀ b o, h.get? b = some o → H b = none → b ∈ fs → b ∉ ex → ∃ sl, h'.get? b = some { o with slots := sl }
  free : ∀ b o, h.get? b = some o → H b = none → b ∉ ex → H' b = none
  there : ∀ b o, h.get? b = some o → b ∉ ex → ∃ o', h'.get? b = some o'
  tups : ∀ b xs, H b = some (.tup xs) → H' b = some (.tup xs)
  frzs : ∀ b o u, H b = some (.frz o u) → H' b = some (.frz o u)
  tbls : ∀ b ps, H b = some (.tbl ps) → ∃ more, H' b = some (.tbl (ps ++ more))
section
variable {fs fs' ex ex' : List Addr} {H H1 H2 : Hp} {h h1 h2 h' : Heap} {a x e : Addr} {o : HO}
theorem Un.any (u : Un fs ex H H1 h h1) {b : Addr} {ob : Obj} (q : h.get? b = some ob) (n : H b = none) (hx : b ∉ ex) : ∃ sl, h1.get? b = some { ob with slots := sl } := by
  by_cases hb : b ∈ fs
  · exact u.slot b ob q n hb hx
  · exact ⟨ob.slots, u.keep b ob q n hb hx⟩
theorem Un.trans (a : Un fs ex H H1 h h1) (b : Un fs ex H1 H2 h1 h2) : Un fs ex H H2 h h2 where
  keep := fun c ob q n hc hx => b.keep c ob (a.keep c ob q n hc hx) (a.free c ob q n hx) hc hx
  slot := fun c ob q n hc hx => by
    obtain ⟨sl, e1⟩ := a.slot c ob q n hc hx
    obtain ⟨sl', e2⟩ := b.slot c _ e1 (a.free c ob q n hx) hc hx
    exact ⟨sl', e2⟩
  free := fun c ob q n hx => by
    obtain ⟨o', e1⟩ := a.there c ob q hx
    exact b.free c o' e1 (a.free c ob q n hx) hx
  there := fun c ob q hx => by
    obtain ⟨o', e1⟩ := a.there c ob q hx
    exact b.there c o' e1 hx
  tups := fun c xs q => b.tups c xs (a.tups c xs q)
  frzs := fun c ob xs q => b.frzs c ob xs (a.frzs c ob xs q)
  tbls := fun c ps q => by
    obtain ⟨m1, e1⟩ := a.tbls c ps q
    obtain ⟨m2, e2⟩ := b.tbls c _ e1
    exact ⟨m1 ++ m2, by rw [e2, Array.append_assoc]⟩
theorem Un.kept (k : ∀ b u, h.get? b = some u → h'.get? b = some u) : Un fs ex H H h h' :=
  ⟨fun b ob q _ _ _ => k b ob q, fun b ob q _ _ _ => ⟨ob.slots, k b ob q⟩, fun _ _ _ n _ => n, fun b ob q _ => ⟨ob, k b ob q⟩, fun _ _ q => q, fun _ _ _ q => q, fun _ ps q => ⟨#[], by rw [q]; simp⟩⟩
theorem Un.refl : Un fs ex H H h h := Un.kept fun _ _ q => q
theorem Un.laid (k : ∀ b u, h.get? b = some u → h'.get? b = some u) (hp : h.objs.size ≤ a) (hn : H a = none) : Un fs ex H (upd H a o) h h' where
  keep := fun b u q _ _ _ => k b u q
  slot := fun b u q _ _ _ => ⟨u.slots, k b u q⟩
  free := fun b u q n _ => by rw [upd_ne (Nat.ne_of_lt (Nat.lt_of_lt_of_le (Heap.lt_size q) hp))]; exact n
  there := fun b u q _ => ⟨u, k b u q⟩
  tups := fun b xs q => by rw [upd_ne (ne_of_none q hn)]; exact q
  frzs := fun b u xs q => by rw [upd_ne (ne_of_none q hn)]; exact q
  tbls := fun b ps q => ⟨#[], by rw [upd_ne (ne_of_none q hn), q]; simp⟩
theorem Un.write (mu : Mut (H x)) (he : e = x ∨ H e = some (.own x)) (k : ∀ b u, b ≠ e → h.get? b = some u → h'.get? b = some u) (heo : ∃ u, h'.get? e = some u) : Un fs ex H (upd H x o) h h' := by
  have hx : ∀ b, H b = none → b ≠ x := fun b n z => by subst z; rw [n] at mu; exact mu
  have hb : ∀ b, H b = none → b ≠ e := fun b n z => by
    subst z
    rcases he with r | r
    · exact hx b n r
    · rw [n] at r; cases r
  have hm : ∀ b u, H b = some u → ¬ Mut (some u) → b ≠ x := fun b u q nm z => by subst z; rw [q] at mu; exact nm mu
  refine ⟨fun b u q n _ _ => k b u (hb b n) q, fun b u q n _ _ => ⟨u.slots, k b u (hb b n) q⟩, fun b u q n _ => by rw [upd_ne (hx b n)]; exact n, fun b u q _ => ?_,
    fun b xs q => by rw [upd_ne (hm b _ q fun z => z)]; exact q, fun b u xs q => by rw [upd_ne (hm b _ q fun z => z)]; exact q, fun b ps q => ⟨#[], by rw [upd_ne (hm b _ q fun z => z), q]; simp⟩⟩
  by_cases hbe : b = e
  · subst hbe; exact heo
  · exact ⟨u, k b u hbe q⟩
theorem Un.mono (u : Un fs ex H H1 h h1) (hs : ∀ b ∈ fs, b ∈ fs') (hx : ∀ b ∈ ex, b ∈ ex') : Un fs' ex' H H1 h h1 :=
  ⟨fun b ob q n hb he => u.keep b ob q n (fun z => hb (hs b z)) fun z => he (hx b z), fun _ _ q n _ he => u.any q n fun z => he (hx _ z), fun b ob q n he => u.free b ob q n fun z => he (hx b z), fun b ob q he => u.there b ob q fun z => he (hx b z), u.tups, u.frzs, u.tbls⟩
end
def trk (h : Heap) (H : Hp) : List Addr := (List.range h.objs.size).filter fun a => (H a).isSome
def hidT (h : Heap) (H : Hp) : Heap := PySem.W.hideAll h (trk h H)
theorem hidT_size (h : Heap) (H : Hp) : (hidT h H).objs.size = h.objs.size := PySem.W.hideAll_size _ _
theorem hidT_get {h : Heap} {H : Hp} {b : Addr} {o : Obj} (e : h.get? b = some o) (n : H b = none) : (hidT h H).get? b = some o :=
  PySem.W.hideAll_get _ e fun hm => by
    have q : (H b).isSome = true := (List.mem_filter.mp hm).2
    rw [n] at q; simp at q
theorem of_hidT {h : Heap} {H : Hp} {b : Addr} {o : Obj} (e : (hidT h H).get? b = some o) : h.get? b = some o ∧ H b = none := by
  have e' : h.get? b = some o := PySem.W.of_hideAll (trk h H) e
  refine ⟨e', ?_⟩
  cases q : H b with
  | none => rfl
  | some x =>
    have hm : b ∈ trk h H := List.mem_filter.mpr ⟨List.mem_range.mpr (Heap.lt_size e'), by simp [q]⟩
    have z : (hidT h H).get? b = none := PySem.W.hideAll_none (trk h H) hm
    rw [z] at e; cases e
def allNews (g h : Heap) (L : Addr) : List (Addr × Obj) := (List.range h.objs.size).filterMap fun a => if a = L ∨ (g.get? a).isSome = true then none else (h.get? a).map fun o => (a, o)
def rest (g h : Heap) (L d : Addr) : List (Addr × Obj) := (allNews g h L).filter fun p => decide (p.1 ≠ d)
end L2
namespace L2
open PySem PySem.Spec PyProof.Rows
structure Mod (K : PySem.W.Frag) (mg : Str → Option Value) (base : Heap) : Prop where
  kin : K.In base
  glob : base.Ns mainGlobals mg
  blt : ∃ mb, base.Ns builtinsNs mb ∧ ∀ x : Str, x ≠ "__name__" → mb x = bootBuiltins x
  nolimit : base.NoLimit
structure Cx where
  prog : Program
  w : World
  K : PySem.W.Frag
  mg : Str → Option Value
  base : Heap
  A : Around
  N : List Str
  s₀ : Shared
  H₀ : Hp
  env : Env
  outer : List Env
  stack : List Env
  ex : List Addr
  fn : Str → Bool
  calm : Bool
  pn : List (Addr × Obj)
  xe : Value → Shared → Prop
def frs (l : List Env) : List Addr := l.filterMap (·.frame)
abbrev Cx.fs (X : Cx) : List Addr := frs X.outer
def Vis (sc : Scope) (x : Str) : Prop := sc.names.lookup x = some .local ∨ sc.names.lookup x = some .cell ∨ sc.names.lookup x = some .free
def Loc (sc : Scope) (x : Str) : Prop := sc.names.lookup x = some .local ∨ sc.names.lookup x = some .cell
def Look (env : Env) (h : Heap) (m : Str → Option Value) (x : Str) (u : Value) : Prop :=
  (env.kindOf x = some .local ∧ m x = some u) ∨ ((env.kindOf x = some .cell ∨ env.kindOf x = some .free) ∧ ∃ c, env.cells.lookup x = some c ∧ h.IsCell c (some u))
structure Cx.Ok (X : Cx) : Prop where
  mod : Mod X.K X.mg X.base
  kind : X.env.scope.kind = .function
  glob : X.env.globals = mainGlobals
  blt : X.env.builtins = builtinsNs
  above : X.s₀.heap.objs.size ≤ X.env.locals
  inj : ∀ x y c, X.env.cells.lookup x = some c → X.env.cells.lookup y = some c → x = y
  has : ∀ x, (X.env.kindOf x = some .cell ∨ X.env.kindOf x = some .free) → ∃ c, X.env.cells.lookup x = some c
  cab : ∀ x c, X.fn x = true → X.env.cells.lookup x = some c → X.s₀.heap.objs.size ≤ c
  hd : X.calm = true → X.A.handled = none
  frames : X.A.frames = some X.stack
  stk : X.stack = X.outer ∨ (X.stack = X.env :: X.outer ∧ X.env.frame = some X.env.locals)
  exf : ∀ b ∈ X.ex, b ≠ X.env.locals ∧ ∀ x c, X.env.cells.lookup x = some c → c ≠ b
  bs : ∀ b o, X.base.get? b = some o → X.s₀.heap.get? b = some o ∧ X.H₀ b = none
  bsz : X.base.objs.size ≤ X.s₀.heap.objs.size
  noex : ∀ b o, X.base.get? b = some o → b ∉ X.ex
  exfs : ∀ b ∈ X.ex, b ∉ X.fs
  funs : X.s₀.heap.FunFrames X.base X.outer
  frf : ∀ b ∈ X.fs, X.H₀ b = none
structure Inv (X : Cx) (pins : List (Addr × Obj)) (σ : List (Option V)) (H : Hp) (s : Shared) : Prop where
  ok : X.Ok
  os : s.os = X.s₀.os
  bare : AllBare s.gens
  base : Un X.fs X.ex X.H₀ H X.s₀.heap s.heap
  loc : ∃ m, s.heap.Ns X.env.locals m ∧ ∀ (i : Nat) (x : Str) (v : V), X.N[i]? = some x → σ[i]? = some (some v) → Vis X.env.scope x → ∃ u, RelV v u ∧ Look X.env s.heap m x u
  cell : ∀ x c, X.env.cells.lookup x = some c → ∃ v, s.heap.IsCell c v
  free : H X.env.locals = none
  freeC : ∀ x c, X.env.cells.lookup x = some c → H c = none
  pin : ∀ p ∈ X.pn ++ pins, s.heap.get? p.1 = some p.2 ∧ H p.1 = none ∧ p.1 ≠ X.env.locals ∧ p.1 ∉ X.fs ∧ ∀ v, p.2.data ≠ .cell v
  hok : HOk X.prog X.w H s.heap
  len : σ.length = X.N.length
section
variable {X : Cx} {pins : List (Addr × Obj)} {σ : List (Option V)} {H H' : Hp} {s : Shared} {h' : Heap}
theorem Cx.Ok.nofr (ok : X.Ok) {b : Addr} {o : Obj} (e : X.base.get? b = some o) : b ∉ X.fs := fun hb => by
  have := (ok.funs.mem hb).1
  rw [e] at this; cases this
theorem Inv.bs (I : Inv X pins σ H s) : ∀ b o, X.base.get? b = some o → s.heap.get? b = some o ∧ H b = none := fun b o e =>
  ⟨I.base.keep b o (I.ok.bs b o e).1 (I.ok.bs b o e).2 (I.ok.nofr e) (I.ok.noex b o e), I.base.free b o (I.ok.bs b o e).1 (I.ok.bs b o e).2 (I.ok.noex b o e)⟩
theorem Inv.bk (I : Inv X pins σ H s) : ∀ b o, X.base.get? b = some o → s.heap.get? b = some o := fun b o e => (I.bs b o e).1
theorem Inv.mod (I : Inv X pins σ H s) : Mod X.K X.mg X.base := I.ok.mod
theorem Inv.kIn (I : Inv X pins σ H s) : X.K.In s.heap := I.ok.mod.kin.keeps I.bk
theorem Inv.nolimit (I : Inv X pins σ H s) : s.heap.NoLimit := I.ok.mod.nolimit.keeps I.bk
theorem Inv.fr (I : Inv X pins σ H s) : ∃ m, Fr X.base X.env.locals s.heap m :=
  let ⟨m, hn, _⟩ := I.loc
  ⟨m, hn, I.bk, Nat.le_trans I.ok.bsz I.ok.above⟩
theorem Inv.lt (I : Inv X pins σ H s) : X.env.locals < s.heap.objs.size := let ⟨_, hn, _⟩ := I.loc; hn.lt
theorem Inv.sz (I : Inv X pins σ H s) : X.s₀.heap.objs.size ≤ s.heap.objs.size := Nat.le_trans I.ok.above (Nat.le_of_lt I.lt)
theorem Inv.nofs (I : Inv X pins σ H s) {a : Addr} (h : s.heap.objs.size ≤ a) : a ∉ X.fs := fun hb => by
  obtain ⟨_, o, ho, _⟩ := I.ok.funs.mem hb
  exact absurd (Nat.lt_of_lt_of_le (Heap.lt_size ho) (Nat.le_trans I.sz h)) (Nat.lt_irrefl _)
theorem Inv.cne (I : Inv X pins σ H s) : ∀ x c, X.env.cells.lookup x = some c → c ≠ X.env.locals := fun x c e z => by
  obtain ⟨v, o, ho, hd⟩ := I.cell x c e
  obtain ⟨m, ⟨o', es, ep, ho', hd', _⟩, _⟩ := I.loc
  rw [z, ho'] at ho; cases ho; rw [hd'] at hd; cases hd
theorem Inv.funs (I : Inv X pins σ H s) : s.heap.FunFrames X.base X.outer := by
  have all : ∀ (l : List Env), (∀ b ∈ frs l, b ∈ X.fs) → X.s₀.heap.FunFrames X.base l → s.heap.FunFrames X.base l := by
    intro l
    induction l with
    | nil => intro _ _; trivial
    | cons env r ih =>
      intro hs hl
      obtain ⟨hk, ⟨L, o, hf, hn, ho, hd⟩, hr⟩ := hl
      have hL : L ∈ X.fs := hs L (by unfold frs; rw [List.filterMap_cons, hf]; exact List.mem_cons_self)
      obtain ⟨sl, e⟩ := I.base.slot L o ho (I.ok.frf L hL) hL fun z => I.ok.exfs L z hL
      exact ⟨hk, ⟨L, _, hf, hn, e, hd⟩, ih (fun b hb => hs b (by unfold frs; rw [List.filterMap_cons, hf]; exact List.mem_cons_of_mem _ hb)) hr⟩
  exact all X.outer (fun _ hb => hb) I.ok.funs
theorem Inv.stack (I : Inv X pins σ H s) : s.heap.FunFrames X.base X.stack := by
  rcases I.ok.stk with e | ⟨e, hf⟩
  · rw [e]; exact I.funs
  · rw [e]
    obtain ⟨m, hn, _⟩ := I.loc
    refine .cons (by rw [I.ok.kind]; decide) hf hn ?_ I.funs
    exact Heap.get?_none_of_le (Nat.le_trans I.ok.bsz I.ok.above)
theorem Inv.stkSub (I : Inv X pins σ H s) : ∀ b ∈ frs X.stack, b ∈ X.env.locals :: X.fs := fun b hb => by
  rcases I.ok.stk with e | ⟨e, hf⟩
  · rw [e] at hb; exact List.mem_cons_of_mem _ hb
  · rw [e] at hb
    unfold frs at hb
    rw [List.filterMap_cons, hf] at hb
    exact hb
theorem Inv.stkFree (I : Inv X pins σ H s) : ∀ b ∈ frs X.stack, H b = none := fun b hb => by
  rcases List.mem_cons.mp (I.stkSub b hb) with e | hb
  · rw [e]; exact I.free
  · obtain ⟨_, o, ho, _⟩ := I.ok.funs.mem hb
    exact I.base.free b o ho (I.ok.frf b hb) fun z => I.ok.exfs b z hb
theorem Inv.step {g' : Array GenState} {t' : Nat} {d' : Drawn} {ch : List Addr} (I : Inv X pins σ H s)
    (hch : ∀ b ∈ ch, (b ∈ X.ex ∨ X.s₀.heap.objs.size ≤ b) ∧ b ≠ X.env.locals ∧ (∀ x c, X.env.cells.lookup x = some c → c ≠ b) ∧ ∀ p ∈ X.pn ++ pins, p.1 ≠ b)
    (keep : ∀ b o, b ≠ X.env.locals → b ∉ X.fs → b ∉ ch → s.heap.get? b = some o → H b = none → h'.get? b = some o)
    (slot : ∀ b o, b ≠ X.env.locals → b ∈ X.fs → b ∉ ch → s.heap.get? b = some o → H b = none → ∃ sl, h'.get? b = some { o with slots := sl }) (free : ∀ b o, b ∉ ch → s.heap.get? b = some o → H b = none → H' b = none)
    (there : ∀ b o, b ∉ ch → s.heap.get? b = some o → ∃ o', h'.get? b = some o')
    (tups : ∀ b xs, H b = some (.tup xs) → H' b = some (.tup xs)) (frzs : ∀ b o u, H b = some (.frz o u) → H' b = some (.frz o u)) (tbls : ∀ b ps, H b = some (.tbl ps) → ∃ more, H' b = some (.tbl (ps ++ more)))
    (ns : ∀ m, s.heap.Ns X.env.locals m → h'.Ns X.env.locals m) (hok : HOk X.prog X.w H' h') (hg : AllBare g') :
    Inv X pins σ H' { s with heap := h', gens := g', drawn := d', toks := t' } := by
  have neL : ∀ b o, X.s₀.heap.get? b = some o → b ≠ X.env.locals := fun b o e => Nat.ne_of_lt (Nat.lt_of_lt_of_le (Heap.lt_size e) I.ok.above)
  have neC : ∀ b o, X.s₀.heap.get? b = some o → b ∉ X.ex → b ∉ ch := fun b o e hx hb => by
    rcases (hch b hb).1 with z | z
    · exact hx z
    · exact absurd (Nat.lt_of_lt_of_le (Heap.lt_size e) z) (Nat.lt_irrefl _)
  have cellK : ∀ x c, X.env.cells.lookup x = some c → ∀ v, s.heap.IsCell c v → h'.IsCell c v := fun x c e v ⟨o, ho, hd⟩ => by
    have nch : c ∉ ch := fun z => (hch c z).2.2.1 x c e rfl
    by_cases hc : c ∈ X.fs
    · obtain ⟨sl, q⟩ := slot c o (I.cne x c e) hc nch ho (I.freeC x c e)
      exact ⟨_, q, hd⟩
    · exact ⟨o, keep c o (I.cne x c e) hc nch ho (I.freeC x c e), hd⟩
  refine ⟨I.ok, I.os, hg, ⟨fun b o e n hb hx => ?_, fun b o e n hb hx => ?_, fun b o e n hx => ?_, fun b o e hx => ?_, fun b xs e => tups b xs (I.base.tups b xs e), fun b o xs e => frzs b o xs (I.base.frzs b o xs e), fun b ps e => ?_⟩, ?_, fun x c e => ?_, ?_, fun x c e => ?_, fun p hp => ?_, hok, I.len⟩
  · exact keep b o (neL b o e) hb (neC b o e hx) (I.base.keep b o e n hb hx) (I.base.free b o e n hx)
  · obtain ⟨sl, e1⟩ := I.base.slot b o e n hb hx
    obtain ⟨sl', e2⟩ := slot b _ (neL b o e) hb (neC b o e hx) e1 (I.base.free b o e n hx)
    exact ⟨sl', e2⟩
  · obtain ⟨o', e1⟩ := I.base.there b o e hx
    exact free b o' (neC b o e hx) e1 (I.base.free b o e n hx)
  · obtain ⟨o', e1⟩ := I.base.there b o e hx
    exact there b o' (neC b o e hx) e1
  · obtain ⟨m1, e1⟩ := I.base.tbls b ps e
    obtain ⟨m2, e2⟩ := tbls b _ e1
    exact ⟨m1 ++ m2, by rw [e2, Array.append_assoc]⟩
  · obtain ⟨m, hn, hl⟩ := I.loc
    refine ⟨m, ns m hn, fun i x v e1 e2 e3 => ?_⟩
    obtain ⟨u, r, l⟩ := hl i x v e1 e2 e3
    refine ⟨u, r, ?_⟩
    rcases l with l | ⟨k, c, e, z⟩
    · exact .inl l
    · exact .inr ⟨k, c, e, cellK x c e _ z⟩
  · obtain ⟨v, z⟩ := I.cell x c e
    exact ⟨v, cellK x c e v z⟩
  · obtain ⟨m, ⟨o, _, _, ho, _⟩, _⟩ := I.loc
    exact free _ o (fun z => (hch _ z).2.1 rfl) ho I.free
  · obtain ⟨v, o, ho, hd⟩ := I.cell x c e
    exact free c o (fun z => (hch c z).2.2.1 x c e rfl) ho (I.freeC x c e)
  · obtain ⟨e, n, ne, nf, d⟩ := I.pin p hp
    have nch : p.1 ∉ ch := fun z => (hch p.1 z).2.2.2 p hp rfl
    exact ⟨keep p.1 p.2 ne nf nch e n, free p.1 p.2 nch e n, ne, nf, d⟩
theorem Inv.un {t' : Nat} (I : Inv X pins σ H s) (u : Un X.fs [] H H' s.heap h') (hok : HOk X.prog X.w H' h') : Inv X pins σ H' { s with heap := h', toks := t' } := by
  obtain ⟨m, ⟨o, es, ep, ho, r⟩, _⟩ := id I.loc
  obtain ⟨sl, hL⟩ := u.any ho I.free (by simp)
  exact I.step (g' := s.gens) (d' := s.drawn) (ch := []) (fun _ z => nomatch z) (fun b o _ hb _ e n => u.keep b o e n hb (by simp)) (fun b o _ hb _ e n => u.slot b o e n hb (by simp)) (fun b o _ e n => u.free b o e n (by simp)) (fun b o _ e => u.there b o e (by simp)) u.tups u.frzs u.tbls (fun m' hm => by
    obtain ⟨o', es', ep', ho', r'⟩ := hm
    rw [ho] at ho'; cases ho'
    exact ⟨_, es', ep', hL, r'⟩) hok I.bare
theorem Inv.call {g' : Array GenState} {t' : Nat} {d' : Drawn} {ch : List Addr} (I : Inv X pins σ H s) (u : Un (frs X.stack) ch H H' s.heap h') (hok : HOk X.prog X.w H' h') (hg : AllBare g')
    (hch : ∀ b ∈ ch, (b ∈ X.ex ∨ X.s₀.heap.objs.size ≤ b) ∧ b ≠ X.env.locals ∧ (∀ x c, X.env.cells.lookup x = some c → c ≠ b) ∧ ∀ p ∈ X.pn ++ pins, p.1 ≠ b) :
    Inv X pins σ H' { s with heap := h', gens := g', drawn := d', toks := t' } := by
  obtain ⟨m, ⟨o, es, ep, ho, r⟩, _⟩ := id I.loc
  obtain ⟨sl, hL⟩ := u.any ho I.free fun z => (hch _ z).2.1 rfl
  exact I.step (ch := ch) hch (fun b o hL hb hc e n => u.keep b o e n (fun z => (List.mem_cons.mp (I.stkSub b z)).elim hL hb) hc) (fun b o _ _ hc e n => u.any e n hc) (fun b o hc e n => u.free b o e n hc) (fun b o hc e => u.there b o e hc) u.tups u.frzs u.tbls (fun m' hm => by
    obtain ⟨o', es', ep', ho', r'⟩ := hm
    rw [ho] at ho'; cases ho'
    exact ⟨_, es', ep', hL, r'⟩) hok hg
theorem Inv.turned {t' : Nat} {it : Addr} (I : Inv X pins σ H s) (k : ∀ b o, b ≠ it → s.heap.get? b = some o → h'.get? b = some o) (hn : H it = none) (hL : it ≠ X.env.locals)
    (h1 : it ∈ X.ex ∨ X.s₀.heap.objs.size ≤ it) (h2 : ∀ x c, X.env.cells.lookup x = some c → c ≠ it) (h3 : ∀ p ∈ X.pn ++ pins, p.1 ≠ it) : Inv X pins σ H { s with heap := h', toks := t' } := by
  have nit : ∀ b u, H b = some u → b ≠ it := fun b u e z => by rw [z, hn] at e; cases e
  refine I.step (g' := s.gens) (d' := s.drawn) (ch := [it]) (fun b hb => ?_) (fun b o _ _ hc e _ => k b o (fun z => hc (by simp [z])) e) (fun b o _ _ hc e _ => ⟨o.slots, k b o (fun z => hc (by simp [z])) e⟩) (fun _ _ _ _ n => n)
    (fun b o hc e => ⟨o, k b o (fun z => hc (by simp [z])) e⟩) (fun _ _ e => e) (fun _ _ _ e => e) (fun b ps e => ⟨#[], by rw [e]; simp⟩) (fun m hm => ?_) (fun b u e => ?_) I.bare
  · have e : b = it := by simpa using hb
    subst e
    exact ⟨h1, hL, h2, h3⟩
  · obtain ⟨o, es, ep, ho, r⟩ := hm
    exact ⟨o, es, ep, k _ o (Ne.symm hL) ho, r⟩
  · refine (I.hok b u e).stay (fun c v hc q => k c v ?_ q) (fun _ q => q) fun _ _ q => q
    rcases hc with z | z
    · rw [z]; exact nit b u e
    · exact nit c _ z
theorem Inv.tok (I : Inv X pins σ H s) (t : Nat) : Inv X pins σ H { s with toks := t } := I.un (h' := s.heap) (t' := t) Un.refl I.hok
theorem Inv.kept {t' : Nat} (I : Inv X pins σ H s) (k : ∀ b u, s.heap.get? b = some u → h'.get? b = some u) : Inv X pins σ H { s with heap := h', toks := t' } := I.un (Un.kept k) (I.hok.kept k)
theorem Inv.laid {a : Addr} {o : HO} {t' : Nat} (I : Inv X pins σ H s) (k : ∀ b u, s.heap.get? b = some u → h'.get? b = some u) (hp : s.heap.objs.size ≤ a) (new : ObjOk X.prog X.w (upd H a o) h' a o) :
    Inv X pins σ (upd H a o) { s with heap := h', toks := t' } := I.un (Un.laid k hp (I.hok.fresh hp)) (I.hok.laid k hp new)
theorem Inv.write {x e : Addr} {o : HO} {t' : Nat} (I : Inv X pins σ H s) (mu : Mut (H x)) (he : e = x ∨ H e = some (.own x)) (k : ∀ b u, b ≠ e → s.heap.get? b = some u → h'.get? b = some u) (heo : ∃ u, h'.get? e = some u)
    (new : ObjOk X.prog X.w (upd H x o) h' x o) : Inv X pins σ (upd H x o) { s with heap := h', toks := t' } := I.un (Un.write mu he k heo) (I.hok.write mu he k heo new)
theorem Inv.pins_of {pins' : List (Addr × Obj)} (I : Inv X pins σ H s) (h : ∀ p ∈ pins', s.heap.get? p.1 = some p.2 ∧ H p.1 = none ∧ p.1 ≠ X.env.locals ∧ p.1 ∉ X.fs ∧ ∀ v, p.2.data ≠ .cell v) : Inv X pins' σ H s :=
  ⟨I.ok, I.os, I.bare, I.base, I.loc, I.cell, I.free, I.freeC, fun p hp => (List.mem_append.mp hp).elim (fun z => I.pin p (List.mem_append_left _ z)) (h p), I.hok, I.len⟩
theorem nodup_ix {N : List Str} (hN : N.Nodup) {i j : Nat} {x : Str} (a : N[i]? = some x) (b : N[j]? = some x) : i = j := by
  obtain ⟨h1, e1⟩ := List.getElem?_eq_some_iff.mp a
  obtain ⟨h2, e2⟩ := List.getElem?_eq_some_iff.mp b
  exact (List.getElem_inj hN).mp (e1.trans e2.symm)
theorem store_ok2 {M : Model} {A : Around} {E : Value → Shared → Prop} {i : Nat} {x : Str} {v : V} {u : Value} {Q : Unit → Shared → Prop} (I : Inv X pins σ H s) (hN : X.N.Nodup) (hi : X.N[i]? = some x) (hx : Loc X.env.scope x) (r : RelV v u)
    (h : ∀ s', Inv X pins (σ.set i (some v)) H s' → (∃ a, Heap.SameBut a s.heap s'.heap ∧ (a = X.env.locals ∨ X.env.cells.lookup x = some a)) → Q () s') (hf : X.fn x = true ∨ X.env.scope.names.lookup x = some .local := by first | exact .inl rfl | exact .inr rfl | assumption) : wpAny M A (storeName X.env x u) Q E s := by
  obtain ⟨m, hn, hl⟩ := id I.loc
  have hcls : (X.env.scope.kind == .class || (X.env.scope.kind == .module && X.env.locals != X.env.globals)) = false := by rw [I.ok.kind]; rfl
  have hiσ : i < σ.length := by rw [I.len]; exact (List.getElem?_eq_some_iff.mp hi).1
  have cne := I.cne
  have tracked : ∀ {a : Addr} {h' : Heap}, (∃ o, s.heap.get? a = some o ∧ H a = none) → Heap.SameBut a s.heap h' → HOk X.prog X.w H h' := fun {a h'} ha hs b ob e => by
    obtain ⟨_, _, hfree⟩ := ha
    refine (I.hok b ob e).stay (fun c w' hc q => (hs.2 c ?_).trans q) (fun _ q => q) fun _ _ q => q
    rintro rfl
    rcases hc with rfl | hc
    · rw [hfree] at e; cases e
    · rw [hfree] at hc; cases hc
  rcases hx with hk | hk
  · refine wpAny_storeName_local hk hn (fun h' hn' hs => ?_) hcls
    obtain ⟨oL, _, _, hoL, _⟩ := id hn
    refine h _ ⟨I.ok, I.os, I.bare, ⟨fun b o e n hb hx => ?_, fun b o e n hb hx => ?_, I.base.free, fun b o e hx => ?_, I.base.tups, I.base.frzs, I.base.tbls⟩, ⟨_, hn', fun j y v' e1 e2 e3 => ?_⟩, fun y c e => ?_, I.free, I.freeC, fun p hp => ?_, tracked ⟨oL, hoL, I.free⟩ hs, by simpa using I.len⟩ ⟨_, hs, .inl rfl⟩
    · exact (hs.2 b (Nat.ne_of_lt (Nat.lt_of_lt_of_le (Heap.lt_size e) I.ok.above))).trans (I.base.keep b o e n hb hx)
    · obtain ⟨sl, e1⟩ := I.base.slot b o e n hb hx
      exact ⟨sl, (hs.2 b (Nat.ne_of_lt (Nat.lt_of_lt_of_le (Heap.lt_size e) I.ok.above))).trans e1⟩
    · obtain ⟨o', e1⟩ := I.base.there b o e hx
      exact ⟨o', (hs.2 b (Nat.ne_of_lt (Nat.lt_of_lt_of_le (Heap.lt_size e) I.ok.above))).trans e1⟩
    · by_cases hj : j = i
      · subst hj
        rw [hi] at e1; cases e1
        rw [List.getElem?_set_self hiσ] at e2
        cases e2
        exact ⟨u, r, .inl ⟨hk, by simp⟩⟩
      · rw [List.getElem?_set_ne (Ne.symm hj)] at e2
        obtain ⟨u', r', q⟩ := hl j y v' e1 e2 e3
        refine ⟨u', r', ?_⟩
        rcases q with ⟨k, e⟩ | ⟨k, c, e, z⟩
        · refine .inl ⟨k, ?_⟩
          have : y ≠ x := fun e => hj (nodup_ix hN e1 (e ▸ hi))
          simp [this, e]
        · exact .inr ⟨k, c, e, z.sameBut hs (cne y c e)⟩
    · obtain ⟨w', z⟩ := I.cell y c e
      exact ⟨w', z.sameBut hs (cne y c e)⟩
    · obtain ⟨e, n, ne, nf, d⟩ := I.pin p hp
      exact ⟨(hs.2 p.1 ne).trans e, n, ne, nf, d⟩
  · have hfn : X.fn x = true := by
      rcases hf with z | z
      · exact z
      · rw [z] at hk; cases hk
    obtain ⟨c, hc⟩ := I.ok.has x (.inl hk)
    obtain ⟨w', z⟩ := I.cell x c hc
    refine wpAny_storeName_cell I.ok.kind hk hc z (fun h' hc' hs => ?_)
    obtain ⟨oc, hoc, hocd⟩ := id z
    refine h { s with heap := h' } ⟨I.ok, I.os, I.bare, ⟨fun b o e n hb hx => ?_, fun b o e n hb hx => ?_, I.base.free, fun b o e hx => ?_, I.base.tups, I.base.frzs, I.base.tbls⟩, ⟨m, hn.sameBut hs (Ne.symm (cne x c hc)), fun j y v' e1 e2 e3 => ?_⟩, fun y c' e => ?_, I.free, I.freeC, fun p hp => ?_, tracked ⟨oc, hoc, I.freeC x c hc⟩ hs, by simpa using I.len⟩ ⟨c, hs, .inr hc⟩
    · exact (hs.2 b (Nat.ne_of_lt (Nat.lt_of_lt_of_le (Heap.lt_size e) (I.ok.cab x c hfn hc)))).trans (I.base.keep b o e n hb hx)
    · obtain ⟨sl, e1⟩ := I.base.slot b o e n hb hx
      exact ⟨sl, (hs.2 b (Nat.ne_of_lt (Nat.lt_of_lt_of_le (Heap.lt_size e) (I.ok.cab x c hfn hc)))).trans e1⟩
    · obtain ⟨o', e1⟩ := I.base.there b o e hx
      exact ⟨o', (hs.2 b (Nat.ne_of_lt (Nat.lt_of_lt_of_le (Heap.lt_size e) (I.ok.cab x c hfn hc)))).trans e1⟩
    · by_cases hj : j = i
      · subst hj
        rw [hi] at e1; cases e1
        rw [List.getElem?_set_self hiσ] at e2
        cases e2
        exact ⟨u, r, .inr ⟨.inl hk, c, hc, hc'⟩⟩
      · rw [List.getElem?_set_ne (Ne.symm hj)] at e2
        obtain ⟨u', r', q⟩ := hl j y v' e1 e2 e3
        refine ⟨u', r', ?_⟩
        rcases q with q | ⟨k, c', e, z'⟩
        · exact .inl q
        · refine .inr ⟨k, c', e, z'.sameBut hs ?_⟩
          rintro rfl
          exact hj (nodup_ix hN e1 (I.ok.inj _ _ _ e hc ▸ hi))
    · by_cases hcc : c' = c
      · subst hcc; exact ⟨_, hc'⟩
      · obtain ⟨w2, z2⟩ := I.cell y c' e
        exact ⟨w2, z2.sameBut hs hcc⟩
    · obtain ⟨e, n, ne, nf, d⟩ := I.pin p hp
      refine ⟨(hs.2 p.1 ?_).trans e, n, ne, nf, d⟩
      intro q
      rw [q, hoc] at e
      have q' : oc = p.2 := Option.some.inj e
      exact d w' (by rw [← q']; exact hocd)
theorem store_ok {M : Model} {A : Around} {E : Value → Shared → Prop} {i : Nat} {x : Str} {v : V} {u : Value} {Q : Unit → Shared → Prop} (I : Inv X pins σ H s) (hN : X.N.Nodup) (hi : X.N[i]? = some x) (hx : Loc X.env.scope x) (r : RelV v u)
    (h : ∀ s', Inv X pins (σ.set i (some v)) H s' → Q () s') (hf : X.fn x = true ∨ X.env.scope.names.lookup x = some .local := by first | exact .inl rfl | exact .inr rfl | assumption) : wpAny M A (storeName X.env x u) Q E s :=
  store_ok2 I hN hi hx r (fun s' I' _ => h s' I') hf
theorem Inv.call' {s' : Shared} {ch : List Addr} (I : Inv X pins σ H s) (ho : s'.os = s.os) (u : Un (frs X.stack) ch H H' s.heap s'.heap) (hok : HOk X.prog X.w H' s'.heap) (hg : AllBare s'.gens)
    (hch : ∀ b ∈ ch, (b ∈ X.ex ∨ X.s₀.heap.objs.size ≤ b) ∧ b ≠ X.env.locals ∧ (∀ x c, X.env.cells.lookup x = some c → c ≠ b) ∧ ∀ p ∈ X.pn ++ pins, p.1 ≠ b) : Inv X pins σ H' s' := by
  obtain ⟨h', g', d', t', o'⟩ := s'
  have e : o' = s.os := ho
  subst e
  exact I.call (g' := g') (t' := t') (d' := d') u hok hg hch
end
abbrev XK := Value → Option Addr → Hp → Prop
abbrev St := List (Option V)
abbrev VK := V → Hp → Prop
abbrev TE := St → Hp → VK → Prop
abbrev TT := St → Hp → (Bool → Hp → Prop) → Prop
abbrev TA := St → Hp → (List V → Hp → Prop) → Prop
structure Ends where
  nx : St → Hp → Prop
  rt : VK
  bk : St → Hp → Prop := fun _ _ => False
  ct : St → Hp → Prop := fun _ _ => False
abbrev TS := Ends → St → Hp → Prop
def EP (X : Cx) (pins : List (Addr × Obj)) (σ : St) (Q : VK) (u : Value) (s' : Shared) : Prop := ∃ v H', Inv X pins σ H' s' ∧ RelV v u ∧ Q v H'
def TP (X : Cx) (pins : List (Addr × Obj)) (σ : St) (Q : Bool → Hp → Prop) (b : Bool) (s' : Shared) : Prop := ∃ H', Inv X pins σ H' s' ∧ Q b H'
def AP (X : Cx) (pins : List (Addr × Obj)) (σ : St) (Q : List V → Hp → Prop) (us : List Value) (s' : Shared) : Prop := ∃ vs H', Inv X pins σ H' s' ∧ Vals vs us ∧ Q vs H'
def SP (X : Cx) (pins : List (Addr × Obj)) (D : Ends) (f : Flow) (s' : Shared) : Prop :=
  match f with
  | .next => ∃ σ' H', Inv X pins σ' H' s' ∧ D.nx σ' H'
  | .brk => ∃ σ' H', Inv X pins σ' H' s' ∧ D.bk σ' H'
  | .cont => ∃ σ' H', Inv X pins σ' H' s' ∧ D.ct σ' H'
  | .ret u => ∃ v σ' H', Inv X pins σ' H' s' ∧ RelV v u ∧ D.rt v H'
def PE (X : Cx) (e : Expr) (t : TE) : Prop :=
  ∀ (pins : List (Addr × Obj)) (s : Shared) (σ : St) (H : Hp) (Q : VK), Inv X pins σ H s → t σ H Q → wpAny (model X.prog X.w) X.A (eval e X.env) (EP X pins σ Q) X.xe s
def PT (X : Cx) (e : Expr) (t : TT) : Prop :=
  ∀ (pins : List (Addr × Obj)) (s : Shared) (σ : St) (H : Hp) (Q : Bool → Hp → Prop), Inv X pins σ H s → t σ H Q → wpAny (model X.prog X.w) X.A (isTrue e X.env (eval e X.env)) (TP X pins σ Q) X.xe s
def PW (X : Cx) (e : Expr) (t : TT) : Prop :=
  ∀ (whole : Sem Value) (pins : List (Addr × Obj)) (s : Shared) (σ : St) (H : Hp) (Q : Bool → Hp → Prop), Inv X pins σ H s → t σ H Q → wpAny (model X.prog X.w) X.A (isTrue e X.env whole) (TP X pins σ Q) X.xe s
theorem PW.pt {X : Cx} {e : Expr} {t : TT} (h : PW X e t) : PT X e t := h _
def PA (X : Cx) (es : List Expr) (t : TA) : Prop :=
  ∀ (pos : Pos) (pins : List (Addr × Obj)) (s : Shared) (σ : St) (H : Hp) (Q : List V → Hp → Prop), Inv X pins σ H s → t σ H Q → wpAny (model X.prog X.w) X.A (spliced (backTo pos (starEach es X.env))) (AP X pins σ Q) X.xe s
def PS (X : Cx) (st : Stmt) (t : TS) : Prop :=
  ∀ (pins : List (Addr × Obj)) (s : Shared) (σ : St) (H : Hp) (D : Ends), Inv X pins σ H s → t D σ H → wpAny (model X.prog X.w) X.A (exec st X.env) (SP X pins D) X.xe s
def PSs (X : Cx) (st : List Stmt) (t : TS) : Prop :=
  ∀ (pins : List (Addr × Obj)) (s : Shared) (σ : St) (H : Hp) (D : Ends), Inv X pins σ H s → t D σ H → wpAny (model X.prog X.w) X.A (execs st X.env) (SP X pins D) X.xe s
theorem thn {α : Type} {t : Sem α} {Q Q' : α → Shared → Prop} {M : Model} {A : Around} {E : Value → Shared → Prop} {s : Shared} (h : wpAny M A t Q E s) (hQ : ∀ a s, Q a s → Q' a s) : wpAny M A t Q' E s := wpAny_mono h hQ fun _ _ x => x
end L2
namespace L2
open PySem PySem.Spec PyProof.Rows
section
variable {X : Cx}
theorem bin {a b : Expr} {ta tb : TE} (ha : PE X a ta) (hb : PE X b tb) {pins : List (Addr × Obj)} {s : Shared} {σ : St} {H : Hp} {R : V → V → Hp → Prop} (I : Inv X pins σ H s) (h : ta σ H fun x H1 => tb σ H1 fun y H2 => R x y H2)
    {α : Type} {Q : α → Shared → Prop} {f : Value → Value → Sem α}
    (hf : ∀ v u s2 x y H2, Inv X pins σ H2 s2 → RelV x v → RelV y u → R x y H2 → wpAny (model X.prog X.w) X.A (f v u) Q X.xe s2) :
    wpAny (model X.prog X.w) X.A (eval a X.env) (fun v s₁ => wpAny (model X.prog X.w) X.A (eval b X.env) (fun u s₂ => wpAny (model X.prog X.w) X.A (f v u) Q X.xe s₂) X.xe s₁) X.xe s := by
  refine thn (ha pins s σ H _ I h) fun v s1 ⟨x, H1, I1, r1, q1⟩ => ?_
  refine thn (hb pins s1 σ H1 _ I1 q1) fun u s2 ⟨y, H2, I2, r2, q2⟩ => ?_
  exact hf v u s2 x y H2 I2 r1 r2 q2
def tVar (i : Nat) : TE := fun σ H Q => ∃ v, σ[i]? = some (some v) ∧ Q v H
def tC (v : V) : TE := fun _ H Q => Q v H
theorem pe_var {i : Nat} {x : Str} {pos : Pos} (hN : X.N[i]? = some x) (hv : Vis X.env.scope x) (hd : (x == ("__debug__" : Str)) = false := by decide) (hcd : (x == ("__classdict__" : Str)) = false := by decide) : PE X (.Name x pos) (tVar i) := by
  intro pins s σ H Q I h
  obtain ⟨v, e, h⟩ := h
  obtain ⟨m, hn, hl⟩ := I.loc
  obtain ⟨u, r, l⟩ := hl i x v hN e hv
  have fin : EP X pins σ Q u s := ⟨v, H, I, r, h⟩
  rcases l with ⟨hk, hm⟩ | ⟨hk, c, hc, hcell⟩
  · exact wpAny_Name (wpAny_loadName_local I.ok.kind hk hn hm fin) hd
  · rcases hk with hk | hk
    · exact wpAny_Name (wpAny_loadName_cell I.ok.kind hk hc hcell fin) hd
    · exact wpAny_Name (wpAny_loadName_free I.ok.kind hk hc hcell fin hcd) hd
theorem pe_int {i j pos} : PE X (.Constant (.int i) j pos) (tC (.int i)) := fun _ _ _ H _ I h => wpAny_Constant_int ⟨.int i, H, I.tok _, ⟨_, rfl⟩, h⟩
theorem pe_bl {b j pos} : PE X (.Constant (.bool b) j pos) (tC (.bl b)) := fun _ _ _ H _ I h => Constant_bool ⟨.bl b, H, I, rfl, h⟩
theorem pe_non {j pos} : PE X (.Constant .none j pos) (tC .non) := fun _ _ _ H _ I h => Constant_none ⟨.non, H, I, rfl, h⟩
theorem pe_str {x j pos} : PE X (.Constant (.str x) j pos) (tC (.str x)) := fun _ _ _ H _ I h => Calls.Constant_str ⟨.str x, H, I.tok _, ⟨_, rfl⟩, h⟩
def Gl (X : Cx) (x : Str) : Prop := X.env.kindOf x = some .globalImplicit
theorem ld_glob {E : Value → Shared → Prop} {pins : List (Addr × Obj)} {s : Shared} {σ : St} {H : Hp} {x : Str} {u : Value} {pos : Pos} {Q : Value → Shared → Prop} (I : Inv X pins σ H s) (hg : Gl X x) (hm : X.mg x = some u) (h : Q u s)
    (hd : (x == ("__debug__" : Str)) = false := by decide) : wpAny (model X.prog X.w) X.A (eval (.Name x pos) X.env) Q E s :=
  Calls.Name_function_global I.ok.kind hg (Calls.loadGlobal_global (by rw [I.ok.glob]; exact I.mod.glob.keeps I.bk) hm h) hd
theorem ld_blt {E : Value → Shared → Prop} {pins : List (Addr × Obj)} {s : Shared} {σ : St} {H : Hp} {x : Str} {u : Value} {pos : Pos} {Q : Value → Shared → Prop} (I : Inv X pins σ H s) (hg : Gl X x) (hm : X.mg x = none) (hv : bootBuiltins x = some u) (h : Q u s)
    (hn : x ≠ "__name__" := by decide) (hd : (x == ("__debug__" : Str)) = false := by decide) : wpAny (model X.prog X.w) X.A (eval (.Name x pos) X.env) Q E s := by
  obtain ⟨mb, h1, h2⟩ := I.mod.blt
  exact Calls.Name_function_global I.ok.kind hg (Calls.loadGlobal_builtin (by rw [I.ok.glob]; exact I.mod.glob.keeps I.bk) hm (by rw [I.ok.blt]; exact h1.keeps I.bk) ((h2 x hn).trans hv) h) hd
theorem pe_glob {x : Str} {v : V} {u : Value} {pos : Pos} (hg : Gl X x) (hm : X.mg x = some u) (r : RelV v u) (hd : (x == ("__debug__" : Str)) = false := by decide) : PE X (.Name x pos) (tC v) :=
  fun _ _ _ H _ I h => ld_glob I hg hm ⟨v, H, I, r, h⟩ hd
theorem pe_bltn {x : Str} {v : V} {u : Value} {pos : Pos} (hg : Gl X x) (hm : X.mg x = none) (hv : bootBuiltins x = some u) (r : RelV v u) (hn : x ≠ "__name__" := by decide) (hd : (x == ("__debug__" : Str)) = false := by decide) : PE X (.Name x pos) (tC v) :=
  fun _ _ _ H _ I h => ld_blt I hg hm hv ⟨v, H, I, r, h⟩ hn hd
def t2I (ta tb : TE) (k : Int → Int → Hp → Prop) : St → Hp → Prop := fun σ H => ta σ H fun x H1 => tb σ H1 fun y H2 => ∃ i j, x = .int i ∧ y = .int j ∧ k i j H2
def tAdd (ta tb : TE) : TE := fun σ H Q => t2I ta tb (fun i j H2 => Q (.int (i + j)) H2) σ H
def tSub (ta tb : TE) : TE := fun σ H Q => t2I ta tb (fun i j H2 => Q (.int (i - j)) H2) σ H
def tMul (ta tb : TE) : TE := fun σ H Q => t2I ta tb (fun i j H2 => (-(2 ^ 64) < i ∧ i < 2 ^ 64) ∧ Q (.int (i * j)) H2) σ H
variable {a b : Expr} {ta tb : TE} {pos : Pos}
def PC (X : Cx) (op : CmpOp) (a b : Expr) (t : TE) : Prop :=
  ∀ (pins : List (Addr × Obj)) (s : Shared) (σ : St) (H : Hp) (Q : VK), Inv X pins σ H s → t σ H Q →
    wpAny (model X.prog X.w) X.A (eval a X.env) (fun v s₁ => wpAny (model X.prog X.w) X.A (eval b X.env) (fun u s₂ => wpAny (model X.prog X.w) X.A (compareOp op v u) (EP X pins σ Q) X.xe s₂) X.xe s₁) X.xe s
theorem nobehind (b : Expr) {op : CmpOp} (h : op ≠ .In) (h2 : op ≠ .NotIn) : behindInMarks op b = false := by
  have e1 : (op == CmpOp.In) = false := by cases op <;> first | rfl | exact absurd rfl h
  have e2 : (op == CmpOp.NotIn) = false := by cases op <;> first | rfl | exact absurd rfl h2
  cases b <;> simp [behindInMarks, e1, e2]
def tCmp (p : Int → Int → Bool) (ta tb : TE) : TE := fun σ H Q => t2I ta tb (fun i j H2 => Q (.bl (p i j)) H2) σ H
abbrev tLt : TE → TE → TE := tCmp fun i j => decide (i < j)
abbrev tLe : TE → TE → TE := tCmp fun i j => decide (i ≤ j)
abbrev tGt : TE → TE → TE := tCmp fun i j => decide (j < i)
abbrev tGe : TE → TE → TE := tCmp fun i j => decide (j ≤ i)
abbrev tEqI : TE → TE → TE := tCmp fun i j => decide (i = j)
abbrev tNeI : TE → TE → TE := tCmp fun i j => !decide (i = j)
def tIsN (ta : TE) : TE := fun σ H Q => ta σ H fun x H1 => Q (.bl (decide (x = .non))) H1
def tNotN (ta : TE) : TE := fun σ H Q => ta σ H fun x H1 => Q (.bl (!decide (x = .non))) H1
def tB (t : TE) : TT := fun σ H Q => t σ H fun x H1 => ∃ c, x = .bl c ∧ Q c H1
theorem pt_cmp {op : CmpOp} {t : TE} (h : PC X op a b t) (h1 : behindInMarks op b = false := by first | exact nobehind _ (by decide) (by decide) | rfl) : PT X (.Compare a [op] [b] pos) (tB t) := by
  intro pins s σ H Q I hw
  refine wpAny_isTrue_Compare1 (thn (h pins s σ H _ I hw) fun v s1 h1 => thn h1 fun u s2 h2 => thn h2 fun c s3 ⟨x, H1, I1, r1, q1⟩ => ?_) h1
  obtain ⟨d, rfl, q⟩ := q1
  cases r1
  exact wpAny_truthy_bool ⟨H1, I1, q⟩
theorem pt_val {e : Expr} {t : TE} (h : PE X e t) (he : ∀ whole, isTrue e X.env whole = (do let v ← whole; standAt e.pos; holding [v] (truthy v)) := by intro _; rfl) : PT X e (tB t) := by
  intro pins s σ H Q I hw
  refine isTrue_plain (thn (h pins s σ H _ I hw) fun v s1 ⟨x, H1, I1, r1, q1⟩ => ?_) (he _)
  obtain ⟨d, rfl, q⟩ := q1
  cases r1
  exact wpAny_truthy_bool ⟨H1, I1, q⟩
variable {tA tB' : TT} {rest : List Expr}
def tAnd (t u : TT) : TT := fun σ H Q => t σ H fun c H1 => if c = true then u σ H1 Q else Q false H1
def tOr (t u : TT) : TT := fun σ H Q => t σ H fun c H1 => if c = true then Q true H1 else u σ H1 Q
def tNot (t : TT) : TT := fun σ H Q => t σ H fun c H1 => Q (!c) H1
theorem pw_and1 (ha : PT X a tA) : PW X (.BoolOp .And [a] pos) tA := by
  intro wh pins s σ H Q I h
  refine isTrue_and (thn (ha pins s σ H Q I h) fun c s1 e => ?_)
  cases c with
  | true => exact isTrue_and_nil e
  | false => exact e
theorem pw_or1 (ha : PT X a tA) : PW X (.BoolOp .Or [a] pos) tA := by
  intro wh pins s σ H Q I h
  refine isTrue_or (thn (ha pins s σ H Q I h) fun c s1 e => ?_)
  cases c with
  | false => exact isTrue_or_nil e
  | true => exact e
theorem pw_and (ha : PT X a tA) (hb : PW X (.BoolOp .And (b :: rest) pos) tB') : PW X (.BoolOp .And (a :: b :: rest) pos) (tAnd tA tB') := by
  intro wh pins s σ H Q I h
  refine isTrue_and (thn (ha pins s σ H _ I h) fun c s1 ⟨H1, I1, q1⟩ => ?_)
  cases c with
  | true => exact hb wh pins s1 σ H1 Q I1 q1
  | false => exact ⟨H1, I1, q1⟩
theorem pw_or (ha : PT X a tA) (hb : PW X (.BoolOp .Or (b :: rest) pos) tB') : PW X (.BoolOp .Or (a :: b :: rest) pos) (tOr tA tB') := by
  intro wh pins s σ H Q I h
  refine isTrue_or (thn (ha pins s σ H _ I h) fun c s1 ⟨H1, I1, q1⟩ => ?_)
  cases c with
  | true => exact ⟨H1, I1, q1⟩
  | false => exact hb wh pins s1 σ H1 Q I1 q1
theorem pt_not (ha : PT X a tA) : PT X (.UnaryOp .Not a pos) (tNot tA) := by
  intro pins s σ H Q I h
  exact isTrue_not (ha pins s σ H (fun c H1 => Q (!c) H1) I h)
def tAndV (ta tb : TE) : TE := fun σ H Q => ta σ H fun x H1 => ∃ c, x = .bl c ∧ if c = true then tb σ H1 Q else Q (.bl false) H1
def tOrV (ta tb : TE) : TE := fun σ H Q => ta σ H fun x H1 => ∃ c, x = .bl c ∧ if c = true then Q (.bl true) H1 else tb σ H1 Q
def tNotV (ta : TE) : TE := fun σ H Q => ta σ H fun x H1 => ∃ c, x = .bl c ∧ Q (.bl (!c)) H1
theorem pe_one {op} {t : TE} (h : PE X a t) : PE X (.BoolOp op [a] pos) t := fun pins s σ H Q I hw => BoolOp_one (h pins s σ H Q I hw)
theorem pe_and (ha : PE X a ta) (hb : PE X (.BoolOp .And (b :: rest) pos) tb) : PE X (.BoolOp .And (a :: b :: rest) pos) (tAndV ta tb) := by
  intro pins s σ H Q I h
  refine BoolOp_and (thn (ha pins s σ H _ I h) fun v s1 ⟨x, H1, I1, r1, q1⟩ => ?_)
  obtain ⟨c, rfl, q1⟩ := q1
  cases r1
  refine wpAny_truthy_bool ?_
  cases c with
  | true => exact hb pins s1 σ H1 Q I1 q1
  | false => exact ⟨.bl false, H1, I1, rfl, q1⟩
def tIf (t : TT) (ta tb : TE) : TE := fun σ H Q => t σ H fun c H1 => if c = true then ta σ H1 Q else tb σ H1 Q
end
end L2
namespace L2
open PySem PySem.Spec PyProof.Rows
def SqL (K : PySem.W.Frag) (H : Hp) (a : Addr) (xs : List V) : Prop :=
  Rd H a (.lst xs) ∨
    ∃ (o : Obj) (its : Array Value) (n : Nat), K.lookup a = some o ∧ o.cls = .type "list" ∧ o.dict = none ∧ o.data = .seq its n ∧ its.size ≤ sizeLine ∧ Vals xs its.toList
def SqT (K : PySem.W.Frag) (H : Hp) (a : Addr) (xs : List V) : Prop :=
  Rd H a (.tup xs) ∨
    ∃ (o : Obj) (its : Array Value) (n : Nat), K.lookup a = some o ∧ o.cls = .type "tuple" ∧ o.data = .seq its n ∧ its.size ≤ sizeLine ∧ Vals xs its.toList
def absV : Value → Option V
  | .none => some .non
  | .bool b => some (.bl b)
  | .int i _ => some (.int i)
  | .str x _ => some (.str x)
  | .bytes b _ => some (.byt b)
  | .float b _ => some (.flt b)
  | .ref a => some (.ref a)
  | .type n => some (.ty n)
  | _ => none
theorem RelV.abs {x : V} {u : Value} (r : RelV x u) : absV u = some x := by
  cases x with
  | non => cases r; rfl
  | bl _ => cases r; rfl
  | int _ => obtain ⟨t, rfl⟩ := r; rfl
  | str _ => obtain ⟨t, rfl⟩ := r; rfl
  | byt _ => obtain ⟨t, rfl⟩ := r; rfl
  | flt _ => obtain ⟨t, rfl⟩ := r; rfl
  | ref _ => cases r; rfl
  | ty _ => cases r; rfl
theorem RelV.inj {x y : V} {u : Value} (r : RelV x u) (q : RelV y u) : x = y := Option.some.inj (r.abs.symm.trans q.abs)
theorem Vals.inj : ∀ {xs ys : List V} {us : List Value}, Vals xs us → Vals ys us → xs = ys
  | _, _, _, .nil, .nil => rfl
  | _, _, _, .cons r t, .cons r' t' => by rw [r.inj r', Vals.inj t t']
section
variable {X : Cx} {pins : List (Addr × Obj)} {σ : St} {H : Hp} {s : Shared} {a : Addr} {xs ys : List V}
theorem SqL.of {K : PySem.W.Frag} (h : H a = some (.lst xs)) : SqL K H a xs := .inl (.inl h)
theorem SqT.of {K : PySem.W.Frag} (h : H a = some (.tup xs)) : SqT K H a xs := .inl (.inl h)
theorem Inv.list (I : Inv X pins σ H s) (h : SqL X.K H a xs) : ∃ its : List Value, Vals xs its ∧ PlainL s.heap a its.toArray ∧ xs.length ≤ sizeLine := by
  rcases h with h | ⟨o, its, n, hk, hc, hd, hs, hz, r⟩
  · obtain ⟨z, its, n, r, e⟩ := h.ok I.hok
    exact ⟨its, r, ⟨_, n, e, rfl, rfl, rfl⟩, z⟩
  · refine ⟨its.toList, r, ⟨o, n, I.kIn a o hk, hc, hd, by simpa using hs⟩, ?_⟩
    have e := r.length
    simp only [Array.length_toList] at e
    omega
theorem Inv.tuple (I : Inv X pins σ H s) (h : SqT X.K H a xs) : ∃ its : List Value, Vals xs its ∧ IsTup s.heap a its.toArray ∧ xs.length ≤ sizeLine := by
  rcases h with h | ⟨o, its, n, hk, hc, hs, hz, r⟩
  · obtain ⟨z, its, r, p⟩ := h.ok I.hok
    exact ⟨its, r, p, z⟩
  · refine ⟨its.toList, r, ⟨o, I.kIn a o hk, hc, n, by simpa using hs⟩, ?_⟩
    have e := r.length
    simp only [Array.length_toList] at e
    omega
theorem Inv.list_inj (I : Inv X pins σ H s) (h : SqL X.K H a xs) (h' : SqL X.K H a ys) : xs = ys := by
  obtain ⟨its, r, ⟨o, n, e, _, _, d⟩, _⟩ := I.list h
  obtain ⟨its', r', ⟨o', n', e', _, _, d'⟩, _⟩ := I.list h'
  rw [e] at e'; cases e'
  rw [d] at d'
  injection d' with d1 _
  have : its = its' := by simpa using congrArg Array.toList d1
  subst this
  exact r.inj r'
end
abbrev Cx.wish (X : Cx) (E : Value → Shared → Prop) : Cx := { X with xe := E }
abbrev Cx.nox (X : Cx) : Cx := X.wish fun _ _ => False
theorem Cx.Ok.wish {X : Cx} (ok : X.Ok) (E : Value → Shared → Prop) : (X.wish E).Ok :=
  ⟨ok.mod, ok.kind, ok.glob, ok.blt, ok.above, ok.inj, ok.has, ok.cab, ok.hd, ok.frames, ok.stk, ok.exf, ok.bs, ok.bsz, ok.noex, ok.exfs, ok.funs, ok.frf⟩
theorem Cx.Ok.unwish {X : Cx} {E : Value → Shared → Prop} (ok : (X.wish E).Ok) : X.Ok :=
  ⟨ok.mod, ok.kind, ok.glob, ok.blt, ok.above, ok.inj, ok.has, ok.cab, ok.hd, ok.frames, ok.stk, ok.exf, ok.bs, ok.bsz, ok.noex, ok.exfs, ok.funs, ok.frf⟩
section
variable {X : Cx} {pins : List (Addr × Obj)} {σ : St} {H : Hp} {s : Shared} {E : Value → Shared → Prop}
theorem Inv.wish (I : Inv X pins σ H s) (E : Value → Shared → Prop) : Inv (X.wish E) pins σ H s := ⟨I.ok.wish E, I.os, I.bare, I.base, I.loc, I.cell, I.free, I.freeC, I.pin, I.hok, I.len⟩
theorem Inv.unwish (I : Inv (X.wish E) pins σ H s) : Inv X pins σ H s := ⟨I.ok.unwish, I.os, I.bare, I.base, I.loc, I.cell, I.free, I.freeC, I.pin, I.hok, I.len⟩
theorem SP.unwish {D : Ends} {f : Flow} {s' : Shared} (h : SP (X.wish E) pins D f s') : SP X pins D f s' := by
  cases f with
  | next => obtain ⟨σ', H', I, q⟩ := h; exact ⟨σ', H', I.unwish, q⟩
  | brk => obtain ⟨σ', H', I, q⟩ := h; exact ⟨σ', H', I.unwish, q⟩
  | cont => obtain ⟨σ', H', I, q⟩ := h; exact ⟨σ', H', I.unwish, q⟩
  | ret u => obtain ⟨v, σ', H', I, r, q⟩ := h; exact ⟨v, σ', H', I.unwish, r, q⟩
theorem PE.nox {e : Expr} {t : TE} (h : PE X.nox e t) : PE X e t := fun pins s σ H Q I hw =>
  wpAny_mono (h pins s σ H Q (I.wish _) hw) (fun _ _ ⟨v, H', I', r, q⟩ => ⟨v, H', I'.unwish, r, q⟩) fun _ _ z => False.elim z
theorem PT.nox {e : Expr} {t : TT} (h : PT X.nox e t) : PT X e t := fun pins s σ H Q I hw =>
  wpAny_mono (h pins s σ H Q (I.wish _) hw) (fun _ _ ⟨H', I', q⟩ => ⟨H', I'.unwish, q⟩) fun _ _ z => False.elim z
theorem PSs.nox {st : List Stmt} {t : TS} (h : PSs X.nox st t) : PSs X st t := fun pins s σ H D I hw =>
  wpAny_mono (h pins s σ H D (I.wish _) hw) (fun _ _ q => q.unwish) fun _ _ z => False.elim z
end
section
variable {X : Cx} {st : Stmt} {rest : List Stmt} {t u : TS} {e : Expr} {te : TE} {pos : Pos}
def tNext : TS := fun D σ H => D.nx σ H
def tSeq (t u : TS) : TS := fun D σ H => t { D with nx := u D } σ H
theorem pss_nil : PSs X [] tNext := fun _ _ σ H _ I h => wpAny_execs_nil ⟨σ, H, I, h⟩
theorem pss_cons (h1 : PS X st t) (h2 : PSs X rest u) : PSs X (st :: rest) (tSeq t u) := by
  intro pins s σ H D I h
  refine wpAny_execs_cons (thn (h1 pins s σ H { D with nx := u D } I h) fun f s1 q => ?_)
  cases f with
  | next =>
    obtain ⟨σ', H', I', q⟩ := q
    exact h2 pins s1 σ' H' D I' q
  | ret v => exact q
  | brk => exact q
  | cont => exact q
theorem pss_one (h1 : PS X st t) : PSs X [st] t := by
  intro pins s σ H D I h
  refine wpAny_execs_cons (thn (h1 pins s σ H D I h) fun f s1 q => ?_)
  cases f with
  | next => exact wpAny_execs_nil q
  | ret v => exact q
  | brk => exact q
  | cont => exact q
def tBreak : TS := fun D σ H => D.bk σ H
def tCont : TS := fun D σ H => D.ct σ H
theorem Inv.quiet {pins : List (Addr × Obj)} {σ : St} {H : Hp} {s : Shared} (I : Inv X pins σ H s) : interactive X.env = false := by simp [interactive, I.ok.kind]
def tDrop (te : TE) : TS := fun D σ H => te σ H fun _ H1 => D.nx σ H1
theorem ps_expr (he : PE X e te) (hs : swapsWith e none pos.line X.env = pure false := by rfl) : PS X (.Expr e pos) (tDrop te) := by
  intro pins s σ H D I h
  exact wpAny_Expr_any (thn (he pins s σ H _ I h) fun v s1 ⟨x, H1, I1, r1, q1⟩ => ⟨σ, H1, I1, q1⟩) I.quiet hs
def tRet (te : TE) : TS := fun D σ H => te σ H D.rt
theorem ps_ret (he : PE X e te) : PS X (.Return (some e) pos) (tRet te) := by
  intro pins s σ H D I h
  exact wpAny_Return_some (thn (he pins s σ H _ I h) fun v s1 ⟨x, H1, I1, r1, q1⟩ => ⟨x, σ, H1, I1, r1, q1⟩)
def tRetN : TS := fun D _ H => D.rt .non H
def tIfS (c : TT) (t u : TS) : TS := fun D σ H => c σ H fun b H1 => if b = true then t D σ H1 else u D σ H1
theorem ps_if {c : Expr} {a b : List Stmt} {tc : TT} (hc : PT X c tc) (ha : PSs X a t) (hb : PSs X b u) : PS X (.If c a b pos) (tIfS tc t u) := by
  intro pins s σ H D I h
  refine wpAny_If (thn (hc pins s σ H _ I h) fun d s1 ⟨H1, I1, q1⟩ => ?_)
  cases d with
  | true => exact ha pins s1 σ H1 D I1 q1
  | false => exact hb pins s1 σ H1 D I1 q1
def tNever : TS := fun _ _ _ => False
end
abbrev TG := V → St → Hp → (St → Hp → Prop) → Prop
abbrev TGs := List V → St → Hp → (St → Hp → Prop) → Prop
def PG (X : Cx) (target : Expr) (t : TG) : Prop :=
  ∀ (pins : List (Addr × Obj)) (s : Shared) (σ : St) (H : Hp) (v : V) (u : Value) (Q : St → Hp → Prop), Inv X pins σ H s → RelV v u → t v σ H Q →
    wpAny (model X.prog X.w) X.A (assign target X.env u) (fun _ s' => ∃ σ' H', Inv X pins σ' H' s' ∧ Q σ' H') X.xe s
def PGs (X : Cx) (ts : List Expr) (t : TGs) : Prop :=
  ∀ (pins : List (Addr × Obj)) (s : Shared) (σ : St) (H : Hp) (vs : List V) (us : List Value) (Q : St → Hp → Prop), Inv X pins σ H s → Vals vs us → t vs σ H Q →
    wpAny (model X.prog X.w) X.A (assignInOrder ((assignEach ts X.env).map (·.2)) us) (fun _ s' => ∃ σ' H', Inv X pins σ' H' s' ∧ Q σ' H') X.xe s
abbrev TSet := V → V → V → Hp → (Hp → Prop) → Prop
def PSet (X : Cx) (t : TSet) : Prop :=
  ∀ (pins : List (Addr × Obj)) (s : Shared) (σ : St) (H : Hp) (o i v : V) (ov iv u : Value) (Q : Hp → Prop), Inv X pins σ H s → RelV o ov → RelV i iv → RelV v u → t o i v H Q →
    wpAny (model X.prog X.w) X.A (setItem ov iv u) (fun _ s' => ∃ H', Inv X pins σ H' s' ∧ Q H') X.xe s
abbrev TIp := V → V → Hp → VK → Prop
def PIp (X : Cx) (op : Operator) (t : TIp) : Prop :=
  ∀ (pins : List (Addr × Obj)) (s : Shared) (σ : St) (H : Hp) (x y : V) (v u : Value) (Q : VK), Inv X pins σ H s → RelV x v → RelV y u → t x y H Q →
    wpAny (model X.prog X.w) X.A (inplaceOp op v u) (EP X pins σ Q) X.xe s
section
variable {X : Cx} {pos : Pos}
def gName (i : Nat) : TG := fun v σ H Q => Q (σ.set i (some v)) H
theorem pg_name {i : Nat} {x : Str} (hN : X.N.Nodup) (hi : X.N[i]? = some x) (hx : Loc X.env.scope x) (hf : X.fn x = true ∨ X.env.scope.names.lookup x = some .local := by first | exact .inl rfl | exact .inr rfl | assumption) : PG X (.Name x pos) (gName i) := by
  intro pins s σ H v u Q I r h
  exact wpAny_assign_Name (store_ok I hN hi hx r (fun s' I' => ⟨_, H, I', h⟩) hf)
def gNil : TGs := fun vs σ H Q => vs = [] ∧ Q σ H
def gCons (t : TG) (u : TGs) : TGs := fun vs σ H Q => ∃ v r, vs = v :: r ∧ t v σ H fun σ' H' => u r σ' H' Q
theorem pgs_nil : PGs X [] gNil := by
  intro pins s σ H vs us Q I r h
  obtain ⟨e, h⟩ := h
  subst e
  cases r
  exact assignInOrder_nil ⟨σ, H, I, h⟩
theorem pgs_cons {e : Expr} {es : List Expr} {t : TG} {u : TGs} (h1 : PG X e t) (h2 : PGs X es u)
    (hs : (assignEach (e :: es) X.env).map (·.2) = assign e X.env :: (assignEach es X.env).map (·.2) := by rfl) : PGs X (e :: es) (gCons t u) := by
  intro pins s σ H vs us Q I r h
  obtain ⟨v, vr, e1, h⟩ := h
  subst e1
  cases r with
  | cons r rr =>
    rw [hs]
    refine assignInOrder_cons (thn (h1 pins s σ H _ _ _ I r h) fun _ s1 ⟨σ1, H1, I1, q1⟩ => ?_)
    exact h2 pins s1 σ1 H1 _ _ Q I1 rr q1
def gTup (K : PySem.W.Frag) (n : Nat) (t : TGs) : TG := fun v σ H Q => ∃ a xs, v = .ref a ∧ SqT K H a xs ∧ xs.length = n ∧ t xs σ H Q
theorem pg_tup {es : List Expr} {k : Nat} {t : TGs} {n : Nat} (hc : X.calm = true) (h : PGs X es t)
    (hn : (assignEach es X.env).length = n := by rfl) (hst : (assignEach es X.env).findIdx? (·.1) = none := by rfl) : PG X (.Tuple es k pos) (gTup X.K n t) := by
  intro pins s σ H v u Q I r hw
  obtain ⟨a, xs, e1, hq, hl, hw⟩ := hw
  subst e1
  cases r
  obtain ⟨its, rv, ht, hz⟩ := I.tuple hq
  refine assign_Tuple_tuple (I.ok.hd hc) ht (by simp [hn, ← hl, rv.length]) hst fun h' hx => ?_
  have I1 : Inv X pins σ H { s with heap := h' } := I.kept (t' := s.toks) fun b o e => hx b o (Nat.ne_of_lt (Heap.lt_size e)) e
  exact h pins _ σ H xs _ Q I1 (by simpa using rv) hw
def gSub (to ti : TE) (t : TSet) : TG := fun v σ H Q => to σ H fun o H1 => ti σ H1 fun i H2 => t o i v H2 fun H3 => Q σ H3
theorem pg_sub {o i : Expr} {to ti : TE} {t : TSet} (ho : PE X o to) (hi : PE X i ti) (hs : PSet X t)
    (ha : ∀ v, assign (.Subscript o i pos) X.env v = (do
      let ov ← holding [v] (eval o X.env)
      let iv ← holding [v, ov] (eval i X.env)
      standAt pos
      holding [v, ov, iv] (setItem ov iv v)
      release [v, ov, iv] []) := by intro _; rfl) : PG X (.Subscript o i pos) (gSub to ti t) := by
  intro pins s σ H v u Q I r h
  rw [ha]
  refine wpAny_bind (wpAny_holding (thn (ho pins s σ H _ I h) fun ov s1 ⟨x, H1, I1, r1, q1⟩ => ?_))
  refine wpAny_bind (wpAny_holding (thn (hi pins s1 σ H1 _ I1 q1) fun iv s2 ⟨y, H2, I2, r2, q2⟩ => ?_))
  refine wpAny_bind (wpAny_standAt (wpAny_bind (wpAny_holding (thn (hs pins s2 σ H2 x y v ov iv u _ I2 r1 r2 r q2) fun _ s3 ⟨H3, I3, q3⟩ => ?_))))
  exact wpAny_release ⟨σ, H3, I3, q3⟩
def tAsg (te : TE) (g : TG) : TS := fun D σ H => te σ H fun x H1 => g x σ H1 D.nx
theorem ps_asg {tg e : Expr} {te : TE} {g : TG} (he : PE X e te) (hg : PG X tg g) (hs : swapsWithSole [tg] e pos.line X.env = pure false := by rfl) (hw : swappedStores [tg] e X.env = pure none := by rfl)
    (h1 : (assignEach [tg] X.env).map (·.2) = [assign tg X.env] := by rfl) : PS X (.Assign [tg] e pos) (tAsg te g) := by
  intro pins s σ H D I h
  refine wpAny_Assign_stores (thn (he pins s σ H _ I h) fun v s1 ⟨x, H1, I1, r1, q1⟩ => ?_) hs hw
  rw [h1]
  exact thn (hg pins s1 σ H1 x v _ I1 r1 q1) fun _ s2 q => q
theorem ps_set {i : Nat} {x : Str} {e : Expr} {te : TE} {pos' : Pos} (hN : X.N.Nodup) (hi : X.N[i]? = some x) (hx : Loc X.env.scope x) (he : PE X e te) (hs : swapsWith e (some (.Name x pos')) pos.line X.env = pure false := by rfl) (hf : X.fn x = true ∨ X.env.scope.names.lookup x = some .local := by first | exact .inl rfl | exact .inr rfl | assumption) :
    PS X (.Assign [.Name x pos'] e pos) (tAsg te (gName i)) := by
  intro pins s σ H D I h
  refine wpAny_Assign_Name (thn (he pins s σ H _ I h) fun v s1 ⟨y, H1, I1, r1, q1⟩ => ?_) hs
  exact store_ok I1 hN hi hx r1 (fun s2 I2 => ⟨_, H1, I2, q1⟩) hf
def tPar (i j : Nat) (ta : TA) : TS := fun D σ H => ta σ H fun vs H1 => ∃ v w, vs = [v, w] ∧ D.nx ((σ.set i (some v)).set j (some w)) H1
theorem ps_par {i j : Nat} {x y : Str} {a b : Expr} {ta : TA} {px py pt : Pos} {kt k2 pt2} (hc : X.calm = true) (hN : X.N.Nodup) (hi : X.N[i]? = some x) (hj : X.N[j]? = some y) (hij : i ≠ j)
    (hx : X.env.scope.names.lookup x = some .local) (hy : X.env.scope.names.lookup y = some .local) (ha : PA X [a, b] ta)
    (hw : swappedStores [.Tuple [.Name x px, .Name y py] kt pt] (.Tuple [a, b] k2 pt2) X.env = pure (some [x, y]))
    (hs : swapsWithSole [.Tuple [.Name x px, .Name y py] kt pt] (.Tuple [a, b] k2 pt2) pos.line X.env = pure false := by rfl) :
    PS X (.Assign [.Tuple [.Name x px, .Name y py] kt pt] (.Tuple [a, b] k2 pt2) pos) (tPar i j ta) := by
  intro pins s σ H D I h
  rw [exec_Assign_arm]
  refine wpAny_bind (wpAny_standAt ?_)
  rw [hs]
  refine wpAny_bind (wpAny_pure ?_)
  rw [if_neg (by decide)]
  refine wpAny_bind (Tuple_ (thn (ha _ pins s σ H _ I h) fun us s1 ⟨vs, H1, I1, r1, q1⟩ => ?_))
  obtain ⟨v, w, e1, q1⟩ := q1
  subst e1
  obtain ⟨u1, u2, rfl, rv, rw'⟩ : ∃ u1 u2, us = [u1, u2] ∧ RelV v u1 ∧ RelV w u2 := by
    cases r1 with
    | cons p q =>
      cases q with
      | cons p' q' =>
        cases q'
        exact ⟨_, _, rfl, p, p'⟩
  refine wpAny_newObj_type ?_ (by show 2 ≤ sizeLine; decide)
  have I2 : Inv X pins σ H1 { s1 with heap := s1.heap.push { cls := .type "tuple", data := .seq [u1, u2].toArray } } := I1.kept (t' := s1.toks) fun b o e => Heap.get?_push_of_some _ e
  rw [hw]
  refine wpAny_bind (wpAny_pure ?_)
  show wpAny (model X.prog X.w) X.A (do rule "assign.swapped-stores"; let items ← unpackItems (.ref s1.heap.objs.size) 2 none; assignInOrder [fun v => bindName X.env y v, fun v => bindName X.env x v] items.reverse; pure Flow.next) _ _ _
  refine wpAny_bind (wpAny_rule (wpAny_bind (unpackItems_tuple (items := #[u1, u2]) (I.ok.hd hc) (IsTup.new s1.heap _) fun h' hx' => ?_)))
  have I3 := I2.kept (h' := h') (t' := s1.toks) fun b o e => hx' b o (Nat.ne_of_lt (Heap.lt_size e)) e
  show wpAny _ _ (assignInOrder [fun v => bindName X.env y v, fun v => bindName X.env x v] [u2, u1] >>= fun _ => pure Flow.next) _ _ _
  refine wpAny_bind (assignInOrder_cons (wpAny_bindName (store_ok I3 hN hj (.inl hy) rw' (fun s2 I4 => ?_) (.inr hy))))
  refine assignInOrder_cons (wpAny_bindName (store_ok I4 hN hi (.inl hx) rv (fun s3 I5 => assignInOrder_nil (wpAny_pure ?_)) (.inr hx)))
  rw [List.set_comm _ _ (Ne.symm hij)] at I5
  exact ⟨_, H1, I5, q1⟩
def tAug (i : Nat) (te : TE) (ti : TIp) : TS := fun D σ H => ∃ x, σ[i]? = some (some x) ∧ te σ H fun y H1 => ti x y H1 fun z H2 => D.nx (σ.set i (some z)) H2
def tAugS (to ti te : TE) (tget : V → V → Hp → VK → Prop) (tip : TIp) (tset : TSet) : TS := fun D σ H => to σ H fun o H1 => ti σ H1 fun i H2 => tget o i H2 fun x H3 => te σ H3 fun y H4 => tip x y H4 fun z H5 => tset o i z H5 fun H6 => D.nx σ H6
def PGet (X : Cx) (t : V → V → Hp → VK → Prop) : Prop :=
  ∀ (pins : List (Addr × Obj)) (s : Shared) (σ : St) (H : Hp) (o i : V) (ov iv : Value) (Q : VK), Inv X pins σ H s → RelV o ov → RelV i iv → t o i H Q →
    wpAny (model X.prog X.w) X.A (getItem ov iv) (EP X pins σ Q) X.xe s
def ipI (f : Int → Int → Int) : TIp := fun x y H Q => ∃ i j, x = .int i ∧ y = .int j ∧ Q (.int (f i j)) H
end
section
variable {X : Cx} {pos : Pos}
def tWhile (c : TT) (tb : TS) : TS := fun D σ H => ∃ W : Nat → St → Hp → Prop, (∃ m, W m σ H) ∧ ∀ m σ H, W m σ H →
  c σ H fun b H1 => if b = true then ∃ N : St → Hp → Prop, (∀ σ' H', N σ' H' → ∃ m', m' < m ∧ W m' σ' H') ∧ tb { D with nx := N, ct := N, bk := D.nx } σ H1 else D.nx σ H1
theorem ps_while {c : Expr} {body : List Stmt} {tc : TT} {tb : TS} (hp : PassesOwn (model X.prog X.w) X.A X.env X.xe) (hc : PT X c tc) (hb : PSs X body tb) : PS X (.While c body [] pos) (tWhile tc tb) := by
  intro pins s σ H D I h
  obtain ⟨W, ⟨m0, w0⟩, turn⟩ := h
  refine wpAny_While (codeAny_whileLoop (fun n s' => ∃ σ' H', Inv X pins σ' H' s' ∧ W n σ' H') ?_ m0 ⟨σ, H, I, w0⟩)
  rintro n s1 ⟨σ1, H1, I1, w1⟩
  refine wpAny_passesOwn hp (thn (hc pins s1 σ1 H1 _ I1 (turn n σ1 H1 w1)) fun b s2 ⟨H2, I2, q2⟩ => ?_)
  cases b with
  | true =>
    obtain ⟨N, hN, q2⟩ := q2
    rw [if_pos rfl]
    refine wpAny_passesOwn hp (thn (hb pins s2 σ1 H2 _ I2 q2) fun f s3 q3 => ?_)
    cases f with
    | next =>
      obtain ⟨σ3, H3, I3, n3⟩ := q3
      obtain ⟨m', hm, w3⟩ := hN σ3 H3 n3
      exact ⟨m', hm, σ3, H3, I3, w3⟩
    | cont =>
      obtain ⟨σ3, H3, I3, n3⟩ := q3
      obtain ⟨m', hm, w3⟩ := hN σ3 H3 n3
      exact ⟨m', hm, σ3, H3, I3, w3⟩
    | brk => exact q3
    | ret v => exact q3
  | false =>
    rw [if_neg Bool.false_ne_true]
    exact wpAny_execs_nil ⟨σ1, H2, I2, q2⟩
end
structure It where
  go : Nat → Hp → Prop
  yld : Nat → Hp → V → Hp → Prop
  stop : Nat → Hp → Prop
def FpOk (X : Cx) (pins : List (Addr × Obj)) (H : Hp) (b : Addr) : Prop :=
  H b = none ∧ b ≠ X.env.locals ∧ b ∉ X.fs ∧ (b ∈ X.ex ∨ X.s₀.heap.objs.size ≤ b) ∧ (∀ x c, X.env.cells.lookup x = some c → c ≠ b) ∧ ∀ p ∈ X.pn ++ pins, p.1 ≠ b
theorem Inv.fpOk {X : Cx} {pins : List (Addr × Obj)} {σ : St} {H H' : Hp} {s : Shared} {b : Addr} (I : Inv X pins σ H s) (hb : s.heap.objs.size ≤ b) (hn : H' b = none) : FpOk X pins H' b := by
  refine ⟨hn, Nat.ne_of_gt (Nat.lt_of_lt_of_le I.lt hb), I.nofs hb, .inr (Nat.le_trans I.sz hb), fun x c e z => ?_, fun p hp z => ?_⟩
  · obtain ⟨v, q⟩ := I.cell x c e
    exact absurd (Nat.lt_of_lt_of_le q.lt (by rw [z]; exact hb)) (Nat.lt_irrefl _)
  · exact absurd (Nat.lt_of_lt_of_le (Heap.lt_size (I.pin p hp).1) (by rw [z]; exact hb)) (Nat.lt_irrefl _)
structure Turn (P : Program) (w : World) (K : PySem.W.Frag) (tg : Expr) (J : It) (fp : List Addr) (it : Addr) (tn : Nat → Heap → Prop) : Prop where
  mem : it ∈ fp
  obj : ∀ i h, tn i h → ∀ b ∈ fp, ∃ o, h.get? b = some o ∧ ∀ v, o.data ≠ .cell v
  keep : ∀ i h h', tn i h → (∀ b ∈ fp, ∀ o, h.get? b = some o → h'.get? b = some o) → tn i h'
  item : ∀ (X : Cx), X.prog = P → X.w = w → X.K = K → X.calm = true → ∀ (i : Nat) (pins : List (Addr × Obj)) (s : Shared) (σ : St) (H : Hp) (E : Value → Shared → Prop), Inv X pins σ H s → (∀ b ∈ fp, FpOk X pins H b) → tn i s.heap → J.go i H →
    wpAny (model P w) X.A (pyNext (.ref it)) (fun r s1 => ∃ u, r = some u ∧
      wpAny (model P w) X.A (letOwnedTupleGo tg (.ref it) u) (fun _ s2 => ∃ x H', Inv X pins σ H' s2 ∧ RelV x u ∧ J.yld i H x H' ∧ tn (i + 1) s2.heap ∧ ∀ b ∈ fp, H' b = none) E s1) E s
  done : ∀ (X : Cx), X.prog = P → X.w = w → X.K = K → X.calm = true → ∀ (i : Nat) (pins : List (Addr × Obj)) (s : Shared) (σ : St) (H : Hp) (E : Value → Shared → Prop), Inv X pins σ H s → (∀ b ∈ fp, FpOk X pins H b) → tn i s.heap → J.stop i H →
    wpAny (model P w) X.A (pyNext (.ref it)) (fun r s1 => r = none ∧ Inv X pins σ H s1) E s
  self : ∀ (A : Around) (i : Nat) (s : Shared) (Q : Value → Shared → Prop) (E : Value → Shared → Prop), tn i s.heap → Q (.ref it) s → wpAny (model P w) A (pyIter (.ref it)) Q E s
abbrev TI := St → Hp → (It → Hp → Prop) → Prop
def PIE (X : Cx) (pins : List (Addr × Obj)) (σ : St) (tg : Expr) (R : It → Hp → Prop) (itv : Value) (s2 : Shared) : Prop :=
  ∃ (it : Addr) (fp : List Addr) (tn : Nat → Heap → Prop) (J : It) (H' : Hp), itv = .ref it ∧ Inv X pins σ H' s2 ∧ Turn X.prog X.w X.K tg J fp it tn ∧ tn 0 s2.heap ∧ (∀ b ∈ fp, FpOk X pins H' b) ∧ R J H'
def PI (X : Cx) (tg iter : Expr) (wi : TI) : Prop :=
  ∀ (pins : List (Addr × Obj)) (s : Shared) (σ : St) (H : Hp) (R : It → Hp → Prop), Inv X pins σ H s → wi σ H R →
    wpAny (model X.prog X.w) X.A (eval iter X.env) (fun v s1 => wpAny (model X.prog X.w) X.A (pyIter v) (PIE X pins σ tg R) X.xe s1) X.xe s
theorem go_of {M : Model} {A : Around} {E : Value → Shared → Prop} {s : Shared} {tg : Expr} {it : Addr} {u : Value} {o : Obj} {n : String} {vs : Array Value} {Q : Unit → Shared → Prop} (ho : s.heap.get? it = some o) (hc : o.cls = .type n) (hd : o.data = .fields vs)
    (hn : ["enumerate", "zip", "dict_itemiterator", "dict_reverseitemiterator", "odict_iterator", "itertools.zip_longest", "itertools.pairwise"].contains n = false) (hQ : Q () s) : wpAny M A (letOwnedTupleGo tg (.ref it) u) Q E s := by
  unfold letOwnedTupleGo
  cases tg <;> first
    | exact wpAny_pure hQ
    | (cases u <;> first
        | exact wpAny_pure hQ
        | (refine wpAny_bind (wpAny_load ho ?_)
           rw [hc, hd]
           show wpAny M A (if (["enumerate", "zip", "dict_itemiterator", "dict_reverseitemiterator", "odict_iterator", "itertools.zip_longest", "itertools.pairwise"].contains n && vs[0]? == some (rawInt _)) = true then _ else _) Q E s
           rw [if_neg (by intro h; rw [hn, Bool.false_and] at h; cases h)]
           exact wpAny_pure hQ))
def Itl (K : PySem.W.Frag) (a : Addr) : It :=
  ⟨fun i H => ∃ xs x, SqL K H a xs ∧ xs[i]? = some x, fun i H x H' => H' = H ∧ ∀ xs, SqL K H a xs → xs[i]? = some x, fun i H => ∃ xs, SqL K H a xs ∧ xs.length ≤ i⟩
def Itt (K : PySem.W.Frag) (a : Addr) : It :=
  ⟨fun i H => ∃ xs x, SqT K H a xs ∧ xs[i]? = some x, fun i H x H' => H' = H ∧ ∀ xs, SqT K H a xs → xs[i]? = some x, fun i H => ∃ xs, SqT K H a xs ∧ xs.length ≤ i⟩
def Itr (lo : Int) (n : Nat) : It := ⟨fun i _ => i < n, fun i H x H' => H' = H ∧ x = .int (lo + i), fun i _ => n ≤ i⟩
theorem turn_list {P : Program} {w : World} {K : PySem.W.Frag} {tg : Expr} (a it : Addr) : Turn P w K tg (Itl K a) [it] it (fun i h => h.IsListIter it a i) where
  mem := by simp
  obj := fun i h st b hb => by
    have e : b = it := by simpa using hb
    subst e
    obtain ⟨o, e, c, d⟩ := st
    exact ⟨o, e, fun v z => by rw [d] at z; cases z⟩
  keep := fun i h h' st k => st.at fun o e => k it (by simp) o e
  item := by
    intro X hP hw hK hc i pins s σ H E I hf st hg
    subst hP hw hK
    obtain ⟨xs, x, hq, hx⟩ := hg
    obtain ⟨its, rv, p, hz⟩ := I.list hq
    obtain ⟨u, hu, ru⟩ := rv.get hx
    obtain ⟨f0, f1, f2, f3, f4, f5⟩ := hf it (by simp)
    refine wpAny_pyNext_list_item st p.isList (x := u) (by simpa using hu) fun h' st' sb => ?_
    have I1 : Inv X pins σ H { s with heap := h' } := I.turned (t' := s.toks) (fun b o hb e => (sb.2 b hb).trans e) f0 f1 f3 f4 f5
    obtain ⟨o, e, c, d⟩ := id st'
    exact ⟨u, rfl, go_of (s := { s with heap := h' }) e c d (by decide) ⟨x, H, I1, ru, ⟨rfl, fun ys hy => by rw [I.list_inj hy hq]; exact hx⟩, st', fun b hb => (hf b hb).1⟩⟩
  done := by
    intro X hP hw hK hc i pins s σ H E I hf st hg
    subst hP hw hK
    obtain ⟨xs, hq, hx⟩ := hg
    obtain ⟨its, rv, p, hz⟩ := I.list hq
    obtain ⟨f0, f1, f2, f3, f4, f5⟩ := hf it (by simp)
    have hl := rv.length
    exact wpAny_pyNext_list_end (I.ok.hd hc) st p.isList (by simp; omega) fun h' eb => ⟨rfl, I.turned (t' := s.toks) (fun b o hb e => eb b o hb e) f0 f1 f3 f4 f5⟩
  self := fun _ _ _ _ _ st h => wpAny_pyIter_listiter st h
theorem turn_range {P : Program} {w : World} {K : PySem.W.Frag} {tg : Expr} (it : Addr) (lo : Int) (n : Nat) : Turn P w K tg (Itr lo n) [it] it (fun i h => IsRangeIter h it (lo + (i : Nat) * 1) ((n : Int) - (i : Nat)) 1) where
  mem := by simp
  obj := fun i h st b hb => by
    have e : b = it := by simpa using hb
    subst e
    exact ⟨_, st, fun v z => by
      have z' : Data.fields _ = Data.cell v := z
      cases z'⟩
  keep := fun i h h' st k => k it (by simp) _ st
  item := by
    intro X hP hw hK hc i pins s σ H E I hf st hg
    subst hP hw hK
    obtain ⟨f0, f1, f2, f3, f4, f5⟩ := hf it (by simp)
    have W := Walks.range (prog := X.prog) (w := X.w) (I.ok.hd hc) it lo 1 n
    refine W.item i s _ _ hg st fun v h' tk hv st' kk => ?_
    obtain ⟨t, rfl⟩ := hv
    have I1 : Inv X pins σ H { s with heap := h', toks := tk } := I.turned (fun b o hb e => kk b o (by simpa using hb) e) f0 f1 f3 f4 f5
    refine ⟨_, rfl, go_of (s := { s with heap := h', toks := tk }) (n := "range_iterator") st' rfl rfl (by decide) ⟨.int (lo + i), H, I1, ⟨t, ?_⟩, ⟨rfl, rfl⟩, st', fun b hb => (hf b hb).1⟩⟩
    rw [Int.mul_one]
  done := by
    intro X hP hw hK hc i pins s σ H E I hf st hg
    subst hP hw hK
    obtain ⟨f0, f1, f2, f3, f4, f5⟩ := hf it (by simp)
    exact wpAny_pyNext_range_end (I.ok.hd hc) st (by have : n ≤ i := hg; omega) fun h' eb => ⟨rfl, I.turned (t' := s.toks) (fun b o hb e => eb b o hb e) f0 f1 f3 f4 f5⟩
  self := fun _ _ _ _ _ st h => wpAny_pyIter_rangeiter st h
end L2
namespace L2
open PySem PySem.Spec PyProof.Rows
section
variable {X : Cx} {tg : Expr}
def iList (K : PySem.W.Frag) (tl : TE) : TI := fun σ H R => tl σ H fun x H1 => ∃ a, x = .ref a ∧ (∃ xs, SqL K H1 a xs) ∧ R (Itl K a) H1
def iTup (K : PySem.W.Frag) (tl : TE) : TI := fun σ H R => tl σ H fun x H1 => ∃ a, x = .ref a ∧ (∃ xs, SqT K H1 a xs) ∧ R (Itt K a) H1
theorem pi_list {l : Expr} {tl : TE} (hl : PE X l tl) : PI X tg l (iList X.K tl) := by
  intro pins s σ H R I h
  refine thn (hl pins s σ H _ I h) fun v s1 ⟨x, H1, I1, r1, q1⟩ => ?_
  obtain ⟨a, e, ⟨xs, hq⟩, q⟩ := q1
  subst e
  cases r1
  obtain ⟨its, rv, p, hz⟩ := I1.list hq
  refine wpAny_pyIter_list p.isList ?_
  refine ⟨s1.heap.objs.size, [s1.heap.objs.size], _, _, H1, rfl, I1.kept (t' := s1.toks) fun b o e => Heap.get?_push_of_some _ e, turn_list a _, ⟨_, Heap.get?_push_size _ rfl, rfl, rfl⟩, fun b hb => ?_, q⟩
  have e : b = s1.heap.objs.size := by simpa using hb
  subst e
  exact I1.fpOk (Nat.le_refl _) (I1.hok.fresh (Nat.le_refl _))
theorem range_it {pins : List (Addr × Obj)} {σ : St} {H : Hp} {s : Shared} {R : It → Hp → Prop} {E : Value → Shared → Prop} {lo hi : Int} {t u v : Tok} {tk : Nat} (I : Inv X pins σ H s) (h1 : -(2 ^ 62) ≤ lo) (h2 : lo < 2 ^ 62) (h3 : -(2 ^ 62) ≤ hi) (h4 : hi < 2 ^ 62)
    (q : R (Itr lo (hi - lo).toNat) H) : wpAny (model X.prog X.w) X.A (pyIter (.ref s.heap.objs.size)) (PIE X pins σ tg R) E { s with heap := s.heap.push { cls := .type "range", data := .fields #[.int lo t, .int hi u, .int 1 v] }, toks := tk } := by
  refine wpAny_pyIter_range (IsRange.new ..) (small_one h1 h2 h3 h4) ?_
  have I1 : Inv X pins σ H { s with heap := s.heap.push { cls := .type "range", data := .fields #[.int lo t, .int hi u, .int 1 v] }, toks := tk } := I.kept fun b o e => Heap.get?_push_of_some _ e
  refine ⟨(s.heap.push { cls := .type "range", data := .fields #[.int lo t, .int hi u, .int 1 v] }).objs.size, [(s.heap.push { cls := .type "range", data := .fields #[.int lo t, .int hi u, .int 1 v] }).objs.size], _, _, H, rfl,
    I1.kept (t' := tk) fun b o e => Heap.get?_push_of_some _ e, turn_range _ lo (hi - lo).toNat, ?_, fun b hb => ?_, q⟩
  · have e1 : lo + ((0 : Nat) : Int) * 1 = lo := by simp
    have e2 : (((hi - lo).toNat : Nat) : Int) - ((0 : Nat) : Int) = Builtin.Range.rangeSize lo hi 1 := by rw [rangeSize_one]; split <;> omega
    show IsRangeIter _ _ (lo + ((0 : Nat) : Int) * 1) ((((hi - lo).toNat : Nat) : Int) - ((0 : Nat) : Int)) 1
    rw [e1, e2]
    exact Heap.get?_push_size _ rfl
  · have e : b = (s.heap.push { cls := .type "range", data := .fields #[.int lo t, .int hi u, .int 1 v] }).objs.size := by simpa using hb
    subst e
    exact I1.fpOk (Nat.le_refl _) (I1.hok.fresh (Nat.le_refl _))
def iRng1 (ta : TA) : TI := fun σ H R => ta σ H fun vs H1 => ∃ j : Int, vs = [.int j] ∧ -(2 ^ 62) ≤ j ∧ j < 2 ^ 62 ∧ R (Itr 0 j.toNat) H1
def iRng2 (ta : TA) : TI := fun σ H R => ta σ H fun vs H1 => ∃ i j : Int, vs = [.int i, .int j] ∧ (-(2 ^ 62) ≤ i ∧ i < 2 ^ 62 ∧ -(2 ^ 62) ≤ j ∧ j < 2 ^ 62) ∧ R (Itr i (j - i).toNat) H1
theorem pi_range1 {a : Expr} {ta : TA} {p pos : Pos} (hg : Gl X "range") (hm : X.mg "range" = none) (ha : PA X [a] ta) (hs : starEach [a] X.env = [(false, eval a X.env)] := by rfl) : PI X tg (.Call (.Name "range" p) [a] [] pos) (iRng1 ta) := by
  intro pins s σ H R I h
  refine Call_ (ld_blt I hg hm boot_range (PyProof.Rows.callWith_type1 (thn (ha pos pins s σ H _ I h) fun us s1 ⟨vs, H1, I1, r1, q1⟩ => ?_) hs rfl))
  obtain ⟨j, e, q1, q2, q⟩ := q1
  subst e
  cases r1 with
  | cons r rr =>
    cases rr
    obtain ⟨t, rfl⟩ := r
    exact call_range_1 (range_it I1 (by omega) (by omega) q1 q2 (by simpa using q))
def tFor (wi : TI) (g : TG) (tb : TS) : TS := fun D σ H => wi σ H fun J H1 => ∃ W : Nat → Nat → St → Hp → Prop, (∃ m, W 0 m σ H1) ∧ ∀ i m σ H, W i m σ H →
  (J.stop i H ∧ D.nx σ H) ∨ (J.go i H ∧ ∃ N : St → Hp → Prop, (∀ σ' H', N σ' H' → ∃ m', m' < m ∧ W (i + 1) m' σ' H') ∧ ∀ x H', J.yld i H x H' → g x σ H' fun σ2 H2 => tb { D with nx := N, ct := N, bk := D.nx } σ2 H2)
def pinsAt (fp : List Addr) (h : Heap) : List (Addr × Obj) := fp.filterMap fun b => (h.get? b).map fun o => (b, o)
theorem mem_pinsAt {fp : List Addr} {h : Heap} {b : Addr} {o : Obj} (hb : b ∈ fp) (e : h.get? b = some o) : (b, o) ∈ pinsAt fp h := List.mem_filterMap.mpr ⟨b, hb, by rw [e]; rfl⟩
theorem of_pinsAt {fp : List Addr} {h : Heap} {p : Addr × Obj} (hp : p ∈ pinsAt fp h) : p.1 ∈ fp ∧ h.get? p.1 = some p.2 := by
  obtain ⟨b, hb, e⟩ := List.mem_filterMap.mp hp
  cases q : h.get? b with
  | none => rw [q] at e; cases e
  | some o =>
    rw [q] at e
    have e' : (b, o) = p := Option.some.inj e
    subst e'
    exact ⟨hb, q⟩
theorem Inv.pinned {pins : List (Addr × Obj)} {σ : St} {H : Hp} {s : Shared} {fp : List Addr} (I : Inv X pins σ H s) (hf : ∀ b ∈ fp, FpOk X pins H b) (ho : ∀ b ∈ fp, ∃ o, s.heap.get? b = some o ∧ ∀ v, o.data ≠ .cell v) : Inv X (pins ++ pinsAt fp s.heap) σ H s :=
  I.pins_of fun p hp => (List.mem_append.mp hp).elim (fun z => I.pin p (List.mem_append_right _ z)) fun z => by
    obtain ⟨hb, e⟩ := of_pinsAt z
    obtain ⟨f0, f1, f2, _⟩ := hf p.1 hb
    obtain ⟨o, e', d⟩ := ho p.1 hb
    rw [e] at e'; cases e'
    exact ⟨e, f0, f1, f2, d⟩
theorem Inv.unpinned {pins pl : List (Addr × Obj)} {σ : St} {H : Hp} {s : Shared} (I : Inv X (pins ++ pl) σ H s) : Inv X pins σ H s := I.pins_of fun p hp => I.pin p (List.mem_append_right _ (List.mem_append_left _ hp))
theorem ps_for {iter : Expr} {body : List Stmt} {wi : TI} {g : TG} {tb : TS} {pos : Pos} (hp : PassesOwn (model X.prog X.w) X.A X.env X.xe) (hc : X.calm = true) (hi : PI X tg iter wi) (hg : PG X tg g) (hb : PSs X body tb)
    (hs : ∀ x, foldedSetIterable iter X.env x = pure x := by intro _; rfl) : PS X (.For tg iter body [] pos) (tFor wi g tb) := by
  intro pins s σ H D I h
  refine wpAny_For (thn (hi pins s σ H _ I h) fun v s1 h1 => thn h1 fun itv s2 h2 => ?_) hs
  obtain ⟨it, fp, tn, J, H2, e, I2, T, st2, f2, W, ⟨m0, w0⟩, turn⟩ := h2
  subst e
  -- what stays true of the iterator's objects through the loop
  have stat : ∀ {H' : Hp}, (∀ b ∈ fp, H' b = none) → ∀ b ∈ fp, FpOk X pins H' b := fun hn b hb => ⟨hn b hb, (f2 b hb).2⟩
  refine codeAny_forLoop_any (fun n s' => ∃ i σ' H', Inv X pins σ' H' s' ∧ tn i s'.heap ∧ (∀ b ∈ fp, H' b = none) ∧ W i n σ' H') ?_ m0 ⟨0, σ, H2, I2, st2, fun b hb => (f2 b hb).1, w0⟩
  rintro n s3 ⟨i, σ3, H3, I3, st3, fr3, w3⟩
  rcases turn i n σ3 H3 w3 with ⟨stop, qn⟩ | ⟨go, N, hN, step⟩
  · refine wpAny_passesOwn hp (thn (T.done X rfl rfl rfl hc i pins s3 σ3 H3 X.xe I3 (stat fr3) st3 stop) fun r s4 ⟨hr, I4⟩ => ?_)
    subst hr
    exact wpAny_execs_nil ⟨σ3, H3, I4, qn⟩
  · refine wpAny_passesOwn hp (thn (T.item X rfl rfl rfl hc i pins s3 σ3 H3 X.xe I3 (stat fr3) st3 go) fun r s4 ⟨u, hr, h4⟩ => ?_)
    subst hr
    refine wpAny_passesOwn hp (thn h4 fun _ s5 ⟨x, H5, I5, r5, y5, st5, fr5⟩ => ?_)
    have I5' := I5.pinned (stat fr5) (T.obj _ _ st5)
    refine wpAny_passesOwn hp (thn (hg _ s5 σ3 H5 x u _ I5' r5 (step x H5 y5)) fun _ s6 ⟨σ6, H6, I6, q6⟩ => ?_)
    refine wpAny_passesOwn hp (thn (hb _ s6 σ6 H6 _ I6 q6) fun f s7 q7 => ?_)
    have again : ∀ {σ7 : St} {H7 : Hp}, Inv X (pins ++ pinsAt fp s5.heap) σ7 H7 s7 → N σ7 H7 → ∃ m, m < n ∧ ∃ i σ' H', Inv X pins σ' H' s7 ∧ tn i s7.heap ∧ (∀ b ∈ fp, H' b = none) ∧ W i m σ' H' := fun {σ7 H7} I7 n7 => by
      obtain ⟨m', hm, w7⟩ := hN σ7 H7 n7
      refine ⟨m', hm, i + 1, σ7, H7, I7.unpinned, T.keep _ _ _ st5 fun b hb o e => (I7.pin (b, o) (List.mem_append_right _ (List.mem_append_right _ (mem_pinsAt hb e)))).1, fun b hb => ?_, w7⟩
      obtain ⟨o, e, d⟩ := T.obj _ _ st5 b hb
      exact (I7.pin (b, o) (List.mem_append_right _ (List.mem_append_right _ (mem_pinsAt hb e)))).2.1
    cases f with
    | next => obtain ⟨σ7, H7, I7, n7⟩ := q7; exact again I7 n7
    | cont => obtain ⟨σ7, H7, I7, n7⟩ := q7; exact again I7 n7
    | brk => obtain ⟨σ7, H7, I7, q7⟩ := q7; exact ⟨σ7, H7, I7.unpinned, q7⟩
    | ret v => obtain ⟨x7, σ7, H7, I7, r7, q7⟩ := q7; exact ⟨x7, σ7, H7, I7.unpinned, r7, q7⟩
end
theorem for_list {K : PySem.W.Frag} {a : Addr} {xs : List V} {g : TG} {tb : TS} {D : Ends} {σ : St} {H : Hp} (Pv : Nat → St → Hp → Prop) (h0 : Pv 0 σ H) (hl : ∀ i σ H, i ≤ xs.length → Pv i σ H → SqL K H a xs)
    (hs : ∀ i x σ H, xs[i]? = some x → Pv i σ H → g x σ H fun σ2 H2 => tb { D with nx := Pv (i + 1), ct := Pv (i + 1), bk := D.nx } σ2 H2) (hd : ∀ σ H, Pv xs.length σ H → D.nx σ H) :
    ∃ W : Nat → Nat → St → Hp → Prop, (∃ m, W 0 m σ H) ∧ ∀ i m σ H, W i m σ H →
      ((Itl K a).stop i H ∧ D.nx σ H) ∨ ((Itl K a).go i H ∧ ∃ N : St → Hp → Prop, (∀ σ' H', N σ' H' → ∃ m', m' < m ∧ W (i + 1) m' σ' H') ∧ ∀ x H', (Itl K a).yld i H x H' → g x σ H' fun σ2 H2 => tb { D with nx := N, ct := N, bk := D.nx } σ2 H2) := by
  refine ⟨fun i m σ H => m = xs.length - i ∧ i ≤ xs.length ∧ Pv i σ H, ⟨xs.length, by simp, Nat.zero_le _, h0⟩, ?_⟩
  rintro i m σ H ⟨rfl, hi, p⟩
  have q := hl i σ H hi p
  by_cases hlt : i < xs.length
  · refine .inr ⟨⟨xs, xs[i], q, by simp [hlt]⟩, Pv (i + 1), fun σ' H' p' => ⟨xs.length - (i + 1), by omega, rfl, hlt, p'⟩, fun x H' y => ?_⟩
    obtain ⟨e, y⟩ := y
    subst e
    exact hs i x σ _ (y xs q) p
  · have e : i = xs.length := by omega
    subst e
    exact .inl ⟨⟨xs, q, Nat.le_refl _⟩, hd σ H p⟩
theorem for_range {lo : Int} {n : Nat} {g : TG} {tb : TS} {D : Ends} {σ : St} {H : Hp} (Pv : Nat → St → Hp → Prop) (h0 : Pv 0 σ H)
    (hs : ∀ i σ H, i < n → Pv i σ H → g (.int (lo + i)) σ H fun σ2 H2 => tb { D with nx := Pv (i + 1), ct := Pv (i + 1), bk := D.nx } σ2 H2) (hd : ∀ σ H, Pv n σ H → D.nx σ H) :
    ∃ W : Nat → Nat → St → Hp → Prop, (∃ m, W 0 m σ H) ∧ ∀ i m σ H, W i m σ H →
      ((Itr lo n).stop i H ∧ D.nx σ H) ∨ ((Itr lo n).go i H ∧ ∃ N : St → Hp → Prop, (∀ σ' H', N σ' H' → ∃ m', m' < m ∧ W (i + 1) m' σ' H') ∧ ∀ x H', (Itr lo n).yld i H x H' → g x σ H' fun σ2 H2 => tb { D with nx := N, ct := N, bk := D.nx } σ2 H2) := by
  refine ⟨fun i m σ H => m = n - i ∧ i ≤ n ∧ Pv i σ H, ⟨n, by simp, Nat.zero_le _, h0⟩, ?_⟩
  rintro i m σ H ⟨rfl, hi, p⟩
  by_cases hlt : i < n
  · refine .inr ⟨hlt, Pv (i + 1), fun σ' H' p' => ⟨n - (i + 1), by omega, rfl, hlt, p'⟩, fun x H' y => ?_⟩
    obtain ⟨e, y⟩ := y
    subst e y
    exact hs i σ _ hlt p
  · have e : i = n := by omega
    subst e
    exact .inl ⟨Nat.le_refl _, hd σ H p⟩
end L2
namespace L2
open PySem PySem.Spec PyProof.Rows
abbrev R2 := V → V → Hp → VK → Prop
def OpR (X : Cx) (f : Value → Value → Sem Value) (r : R2) : Prop :=
  ∀ (pins : List (Addr × Obj)) (s : Shared) (σ : St) (H : Hp) (x y : V) (v u : Value) (Q : VK), Inv X pins σ H s → RelV x v → RelV y u → r x y H Q →
    wpAny (model X.prog X.w) X.A (f v u) (EP X pins σ Q) X.xe s
def UnR (X : Cx) (f : Value → Sem Value) (r : V → Hp → VK → Prop) : Prop :=
  ∀ (pins : List (Addr × Obj)) (s : Shared) (σ : St) (H : Hp) (x : V) (v : Value) (Q : VK), Inv X pins σ H s → RelV x v → r x H Q →
    wpAny (model X.prog X.w) X.A (f v) (EP X pins σ Q) X.xe s
def CallR (X : Cx) (f : Value) (r : List V → Hp → VK → Prop) : Prop :=
  ∀ (pins : List (Addr × Obj)) (s : Shared) (σ : St) (H : Hp) (xs : List V) (us : List Value) (Q : VK), Inv X pins σ H s → Vals xs us → r xs H Q →
    wpAny (model X.prog X.w) X.A (call f us) (EP X pins σ Q) X.xe s
def TruR (X : Cx) (r : V → Hp → (Bool → Hp → Prop) → Prop) : Prop :=
  ∀ (pins : List (Addr × Obj)) (s : Shared) (σ : St) (H : Hp) (x : V) (v : Value) (Q : Bool → Hp → Prop), Inv X pins σ H s → RelV x v → r x H Q →
    wpAny (model X.prog X.w) X.A (truthy v) (TP X pins σ Q) X.xe s
def tOp (r : R2) (ta tb : TE) : TE := fun σ H Q => ta σ H fun x H1 => tb σ H1 fun y H2 => r x y H2 Q
def tUn (r : V → Hp → VK → Prop) (ta : TE) : TE := fun σ H Q => ta σ H fun x H1 => r x H1 Q
def rI (C : Int → Int → Prop) (g : Int → Int → V) : R2 := fun x y H Q => ∃ i j, x = .int i ∧ y = .int j ∧ C i j ∧ Q (g i j) H
def rI0 (g : Int → Int → V) : R2 := fun x y H Q => ∃ i j, x = .int i ∧ y = .int j ∧ Q (g i j) H
def rU (g : Int → V) : V → Hp → VK → Prop := fun x H Q => ∃ i, x = .int i ∧ Q (g i) H
section
variable {X : Cx} {a b c : Expr} {ta tb tc : TE} {pos : Pos}
theorem binT (ha : PE X a ta) (hb : PE X b tb) {pins : List (Addr × Obj)} {s : Shared} {σ : St} {H : Hp} {R : V → V → Hp → Prop} (I : Inv X pins σ H s)
    (h : ta σ H fun x H1 => tb σ H1 fun y H2 => R x y H2) {Q : Value → Shared → Prop} {f : Value → Value → Sem Value}
    (hf : ∀ v u s2 x y H2, Inv X pins σ H2 s2 → RelV x v → RelV y u → R x y H2 → wpAny (model X.prog X.w) X.A (f v u) Q X.xe s2) :
    wpAny (model X.prog X.w) X.A (eval a X.env) (fun v s₁ => wpAny (model X.prog X.w) X.A (eval b X.env) (fun u s₂ => wpAny (model X.prog X.w) X.A (f v u) Q X.xe s₂) X.xe s₁) X.xe s := by
  refine thn (ha pins s σ H _ I h) fun v s1 ⟨x, H1, I1, r1, q1⟩ => ?_
  refine thn (hb pins s1 σ H1 _ I1 q1) fun u s2 ⟨y, H2, I2, r2, q2⟩ => ?_
  exact hf v u s2 x y H2 I2 r1 r2 q2
theorem pe_op {op : Operator} {r : R2} (ho : OpR X (binaryOp op) r) (ha : PE X a ta) (hb : PE X b tb) : PE X (.BinOp a op b pos) (tOp r ta tb) := by
  intro pins s σ H Q I h
  exact wpAny_BinOp (binT ha hb I h fun v u s2 x y H2 I2 rx ry q => ho pins s2 σ H2 x y v u Q I2 rx ry q)
theorem pe_un {op : UnaryOp} {r : V → Hp → VK → Prop} (ho : UnR X (unaryOp op) r) (ha : PE X a ta) : PE X (.UnaryOp op a pos) (tUn r ta) := by
  intro pins s σ H Q I h
  exact UnaryOp_ (thn (ha pins s σ H _ I h) fun v s1 ⟨x, H1, I1, r1, q1⟩ => ho pins s1 σ H1 x v Q I1 r1 q1)
theorem opI {f : Value → Value → Sem Value} {C : Int → Int → Prop} {g : Int → Int → Int}
    (rule : ∀ (i j : Int) (t u : Tok) (s : Shared) (Q : Value → Shared → Prop) (E : Value → Shared → Prop), C i j → Q (.int (g i j) s.toks) { s with toks := s.toks + 1 } → wpAny (model X.prog X.w) X.A (f (.int i t) (.int j u)) Q E s) :
    OpR X f (rI C fun i j => .int (g i j)) := by
  intro pins s σ H x y v u Q I rx ry h
  obtain ⟨i, j, rfl, rfl, hc, q⟩ := h
  obtain ⟨t, rfl⟩ := rx
  obtain ⟨t', rfl⟩ := ry
  exact rule i j t t' s _ _ hc ⟨.int (g i j), H, I.tok _, ⟨_, rfl⟩, q⟩
theorem opI0 {f : Value → Value → Sem Value} {g : Int → Int → Int}
    (rule : ∀ (i j : Int) (t u : Tok) (s : Shared) (Q : Value → Shared → Prop) (E : Value → Shared → Prop), Q (.int (g i j) s.toks) { s with toks := s.toks + 1 } → wpAny (model X.prog X.w) X.A (f (.int i t) (.int j u)) Q E s) :
    OpR X f (rI0 fun i j => .int (g i j)) := by
  intro pins s σ H x y v u Q I rx ry h
  obtain ⟨i, j, rfl, rfl, q⟩ := h
  obtain ⟨t, rfl⟩ := rx
  obtain ⟨t', rfl⟩ := ry
  exact rule i j t t' s _ _ ⟨.int (g i j), H, I.tok _, ⟨_, rfl⟩, q⟩
theorem opB0 {f : Value → Value → Sem Value} {g : Int → Int → Bool}
    (rule : ∀ (i j : Int) (t u : Tok) (s : Shared) (Q : Value → Shared → Prop) (E : Value → Shared → Prop), Q (.bool (g i j)) s → wpAny (model X.prog X.w) X.A (f (.int i t) (.int j u)) Q E s) :
    OpR X f (rI0 fun i j => .bl (g i j)) := by
  intro pins s σ H x y v u Q I rx ry h
  obtain ⟨i, j, rfl, rfl, q⟩ := h
  obtain ⟨t, rfl⟩ := rx
  obtain ⟨t', rfl⟩ := ry
  exact rule i j t t' s _ _ ⟨.bl (g i j), H, I, rfl, q⟩
def CDiv (i j : Int) : Prop := 0 < j ∧ j < 1073741824
def CDivN (i j : Int) : Prop := j ≠ 0 ∧ j.natAbs < 1073741824
def CPow (i j : Int) : Prop := 0 ≤ j ∧ j ≤ 1000000 ∧ i.natAbs < 2 ^ 64
def CMul (i j : Int) : Prop := (-(2 ^ 64) < i ∧ i < 2 ^ 64) ∨ (-(2 ^ 64) < j ∧ j < 2 ^ 64)
theorem CMul.ok {i j : Int} (h : CMul i j) : IntMulOk i j := by
  rcases h with ⟨h1, h2⟩ | ⟨h1, h2⟩
  · exact .of_left (intBits_le_64 h1 h2)
  · exact .of_right (intBits_le_64 h1 h2)
theorem op_add : OpR X (binaryOp .Add) (rI0 fun i j => .int (i + j)) := opI0 fun _ _ _ _ _ _ _ q => add_int q
theorem op_sub : OpR X (binaryOp .Sub) (rI0 fun i j => .int (i - j)) := opI0 fun _ _ _ _ _ _ _ q => sub_int q
theorem op_mod : OpR X (binaryOp .Mod) (rI (fun _ j => 0 < j) fun i j => .int (i % j)) := opI fun i j _ _ _ _ _ hc q => by
  have h1 : (0 : Int) < j := hc
  exact mod_int' (by omega) (by rw [Int.fmod_eq_emod_of_nonneg i (by omega)]; exact q)
theorem op_pow : OpR X (binaryOp .Pow) (rI CPow fun i j => .int (i ^ j.toNat)) := opI fun _ _ _ _ _ _ _ hc q => pow_int_small hc.1 hc.2.1 hc.2.2 q
theorem unI {f : Value → Sem Value} {g : Int → Int}
    (rule : ∀ (i : Int) (t : Tok) (s : Shared) (Q : Value → Shared → Prop) (E : Value → Shared → Prop), Q (.int (g i) s.toks) { s with toks := s.toks + 1 } → wpAny (model X.prog X.w) X.A (f (.int i t)) Q E s) :
    UnR X f (rU fun i => .int (g i)) := by
  intro pins s σ H x v Q I rx h
  obtain ⟨i, rfl, q⟩ := h
  obtain ⟨t, rfl⟩ := rx
  exact rule i t s _ _ ⟨.int (g i), H, I.tok _, ⟨_, rfl⟩, q⟩
theorem un_neg : UnR X (unaryOp .USub) (rU fun i => .int (-i)) := unI fun _ _ _ _ _ q => neg_int q
end
def scal : V → V → Bool
  | .non, .non => true | .non, .int _ => true | .int _, .non => true | .non, .bl _ => true | .bl _, .non => true | .non, .str _ => true | .str _, .non => true
  | .int _, .int _ => true | .bl _, .bl _ => true | .str _, .str _ => true | .byt _, .byt _ => true
  | .int _, .str _ => true | .str _, .int _ => true | .bl _, .str _ => true | .str _, .bl _ => true
  | _, _ => false
def rEq : R2 := fun x y H Q => scal x y = true ∧ Q (.bl (decide (x = y))) H
def rNe : R2 := fun x y H Q => scal x y = true ∧ Q (.bl (!decide (x = y))) H
theorem dec_int {i j : Int} : decide (V.int i = V.int j) = (i == j) := by
  rw [Bool.eq_iff_iff]
  simp
theorem dec_bl {i j : Bool} : decide (V.bl i = V.bl j) = (i == j) := by
  rw [Bool.eq_iff_iff]
  simp
theorem dec_str {i j : Str} : decide (V.str i = V.str j) = (i == j) := by
  rw [Bool.eq_iff_iff]
  simp
theorem dec_byt {i j : Array UInt8} : decide (V.byt i = V.byt j) = (i.toList == j.toList) := by
  rw [Bool.eq_iff_iff]
  cases i
  cases j
  simp
section
variable {X : Cx} {a b c : Expr} {ta tb tc : TE} {pos : Pos}
theorem fin_bl {pins : List (Addr × Obj)} {σ : St} {H : Hp} {s : Shared} {Q : VK} {k k' : Bool} (I : Inv X pins σ H s) (q : Q (.bl k) H) (e : k = k') : EP X pins σ Q (.bool k') s := by
  subst e
  exact ⟨.bl k, H, I, rfl, q⟩
theorem op_eq : OpR X (compareOp .Eq) rEq := by
  intro pins s σ H x y v u Q I rx ry h
  obtain ⟨hs, q⟩ := h
  cases x with
  | non =>
    cases rx
    cases y with
    | non => cases ry; exact PySem.EqNone.eq_none_none (fin_bl I q (by simp))
    | bl j => cases ry; exact PySem.EqNone.eq_none_bool (fin_bl I q (by simp))
    | int j => obtain ⟨t', rfl⟩ := ry; exact PySem.EqNone.eq_none_int (fin_bl I q (by simp))
    | str j => obtain ⟨t', rfl⟩ := ry; exact PySem.EqNone.eq_none_str (fin_bl I q (by simp))
    | _ => exact absurd (show false = true from hs) Bool.false_ne_true
  | bl i =>
    cases rx
    cases y with
    | non => cases ry; exact PySem.EqNone.eq_bool_none (fin_bl I q (by simp))
    | bl j => cases ry; exact eq_bool (fin_bl I q dec_bl)
    | str j => obtain ⟨t', rfl⟩ := ry; exact PySem.EqMixed.eq_bool_str (fin_bl I q (by simp))
    | _ => exact absurd (show false = true from hs) Bool.false_ne_true
  | int i =>
    obtain ⟨t, rfl⟩ := rx
    cases y with
    | non => cases ry; exact PySem.EqNone.eq_int_none (fin_bl I q (by simp))
    | int j => obtain ⟨t', rfl⟩ := ry; exact eq_int (fin_bl I q dec_int)
    | str j => obtain ⟨t', rfl⟩ := ry; exact PySem.EqMixed.eq_int_str (fin_bl I q (by simp))
    | _ => exact absurd (show false = true from hs) Bool.false_ne_true
  | str i =>
    obtain ⟨t, rfl⟩ := rx
    cases y with
    | non => cases ry; exact PySem.EqNone.eq_str_none (fin_bl I q (by simp))
    | bl j => cases ry; exact PySem.EqMixed.eq_str_bool (fin_bl I q (by simp))
    | int j => obtain ⟨t', rfl⟩ := ry; exact PySem.EqMixed.eq_str_int (fin_bl I q (by simp))
    | str j => obtain ⟨t', rfl⟩ := ry; exact eq_str (fin_bl I q dec_str)
    | _ => exact absurd (show false = true from hs) Bool.false_ne_true
  | byt i =>
    obtain ⟨t, rfl⟩ := rx
    cases y with
    | byt j => obtain ⟨t', rfl⟩ := ry; exact PySem.W.eq_bytes (fin_bl I q dec_byt)
    | _ => exact absurd (show false = true from hs) Bool.false_ne_true
  | _ => cases y <;> exact absurd (show false = true from hs) Bool.false_ne_true
theorem op_ne : OpR X (compareOp .NotEq) rNe := by
  intro pins s σ H x y v u Q I rx ry h
  obtain ⟨hs, q⟩ := h
  cases x with
  | non =>
    cases rx
    cases y with
    | non => cases ry; exact PySem.EqNone.ne_none_none (fin_bl I q (by simp))
    | bl j => cases ry; exact PySem.EqNone.ne_none_bool (fin_bl I q (by simp))
    | int j => obtain ⟨t', rfl⟩ := ry; exact PySem.EqNone.ne_none_int (fin_bl I q (by simp))
    | str j => obtain ⟨t', rfl⟩ := ry; exact PySem.EqNone.ne_none_str (fin_bl I q (by simp))
    | _ => exact absurd (show false = true from hs) Bool.false_ne_true
  | bl i =>
    cases rx
    cases y with
    | non => cases ry; exact PySem.EqNone.ne_bool_none (fin_bl I q (by simp))
    | bl j => cases ry; exact ne_bool (fin_bl I q (congrArg not dec_bl))
    | str j => obtain ⟨t', rfl⟩ := ry; exact PySem.EqMixed.ne_bool_str (fin_bl I q (by simp))
    | _ => exact absurd (show false = true from hs) Bool.false_ne_true
  | int i =>
    obtain ⟨t, rfl⟩ := rx
    cases y with
    | non => cases ry; exact PySem.EqNone.ne_int_none (fin_bl I q (by simp))
    | int j => obtain ⟨t', rfl⟩ := ry; exact ne_int (fin_bl I q (congrArg not dec_int))
    | str j => obtain ⟨t', rfl⟩ := ry; exact PySem.EqMixed.ne_int_str (fin_bl I q (by simp))
    | _ => exact absurd (show false = true from hs) Bool.false_ne_true
  | str i =>
    obtain ⟨t, rfl⟩ := rx
    cases y with
    | non => cases ry; exact PySem.EqNone.ne_str_none (fin_bl I q (by simp))
    | bl j => cases ry; exact PySem.EqMixed.ne_str_bool (fin_bl I q (by simp))
    | int j => obtain ⟨t', rfl⟩ := ry; exact PySem.EqMixed.ne_str_int (fin_bl I q (by simp))
    | str j => obtain ⟨t', rfl⟩ := ry; exact ne_str (fin_bl I q (congrArg not dec_str))
    | _ => exact absurd (show false = true from hs) Bool.false_ne_true
  | byt i =>
    obtain ⟨t, rfl⟩ := rx
    cases y with
    | byt j => obtain ⟨t', rfl⟩ := ry; exact PySem.W.ne_bytes (fin_bl I q (congrArg not dec_byt))
    | _ => exact absurd (show false = true from hs) Bool.false_ne_true
  | _ => cases y <;> exact absurd (show false = true from hs) Bool.false_ne_true
theorem op_lt : OpR X (compareOp .Lt) (rI0 fun i j => .bl (decide (i < j))) := opB0 fun _ _ _ _ _ _ _ q => lt_int q
theorem op_gt : OpR X (compareOp .Gt) (rI0 fun i j => .bl (decide (j < i))) := opB0 fun _ _ _ _ _ _ _ q => gt_int q
def isObj : HO → Bool
  | .lst _ => true
  | .ins _ _ _ => true
  | _ => false
theorem nomark (b : Expr) {op : CmpOp} (h : op ≠ .In := by decide) (h2 : op ≠ .NotIn := by decide) : behindInMarks op b = false := by
  have e1 : (op == CmpOp.In) = false := by cases op <;> first | rfl | exact absurd rfl h
  have e2 : (op == CmpOp.NotIn) = false := by cases op <;> first | rfl | exact absurd rfl h2
  cases b <;> simp [behindInMarks, e1, e2]
theorem pe_cmpR {op : CmpOp} {r : R2} (ho : OpR X (compareOp op) r) (ha : PE X a ta) (hb : PE X b tb) (hm : behindInMarks op b = false) : PE X (.Compare a [op] [b] pos) (tOp r ta tb) := by
  intro pins s σ H Q I h
  exact wpAny_Compare1 (binT ha hb I h fun v u s2 x y H2 I2 rx ry q => ho pins s2 σ H2 x y v u Q I2 rx ry q) hm
def tTest (t : TE) : TT := fun σ H Q => t σ H fun x H' => ∃ k, x = .bl k ∧ Q k H'
theorem pt_cmpR {op : CmpOp} {r : R2} (ho : OpR X (compareOp op) r) (ha : PE X a ta) (hb : PE X b tb) (hm : behindInMarks op b = false) : PT X (.Compare a [op] [b] pos) (tTest (tOp r ta tb)) := by
  intro pins s σ H Q I h
  refine wpAny_isTrue_Compare1 (thn (ha pins s σ H _ I h) fun v s1 ⟨x, H1, I1, r1, q1⟩ => thn (hb pins s1 σ H1 _ I1 q1) fun u s2 ⟨y, H2, I2, r2, q2⟩ =>
    thn (ho pins s2 σ H2 x y v u _ I2 r1 r2 q2) fun c s3 ⟨z, H3, I3, r3, k, e, q3⟩ => ?_) hm
  subst e
  cases r3
  exact wpAny_truthy_bool ⟨H3, I3, q3⟩
def tChain (r r' : R2) (ta tb tc : TE) : TE := fun σ H Q => ta σ H fun x H1 => tb σ H1 fun y H2 => r x y H2 fun z H3 => ∃ k, z = .bl k ∧
  (if k = true then tc σ H3 fun w' H4 => r' y w' H4 Q else Q (.bl false) H3)
def TruV (K : PySem.W.Frag) (x : V) (H : Hp) (k : Bool) : Prop :=
  match x with
  | .non => k = false
  | .bl b => k = b
  | .int i => k = (i != 0)
  | .str y => y.length ≤ sizeLine ∧ k = ((y.length : Int) != 0)
  | .byt y => y.size ≤ sizeLine ∧ k = ((y.size : Int) != 0)
  | .ref p => (∃ xs, SqL K H p xs ∧ k = !xs.isEmpty) ∨ (∃ xs, SqT K H p xs ∧ k = !xs.isEmpty) ∨ ∃ kvs, H p = some (.dK kvs) ∧ k = !kvs.isEmpty
  | _ => False
theorem isEmpty_kv {κ : Type} {kvs : List (κ × V)} {vs : List (κ × Value)} (r : KV kvs vs) : (!vs.isEmpty) = !kvs.isEmpty := by
  cases r <;> rfl
theorem isEmpty_of {xs : List V} {its : List Value} (r : Vals xs its) : (!its.toArray.isEmpty) = !xs.isEmpty := by
  cases r <;> simp
theorem line63 : (sizeLine : Nat) < 2 ^ 63 := by rw [sizeLine_eq]; decide
theorem tru_ok : TruR X (fun x H Q => ∃ k, TruV X.K x H k ∧ Q k H) := by
  intro pins s σ H x v Q I rx h
  obtain ⟨k, e, q⟩ := h
  have hl := line63
  have hs : sizeLine = 16777216 := sizeLine_eq
  cases x with
  | non =>
    cases rx
    have e' : k = false := e
    subst e'
    exact truthy_none ⟨H, I, q⟩
  | bl b =>
    cases rx
    have e' : k = b := e
    subst e'
    exact wpAny_truthy_bool ⟨H, I, q⟩
  | int i =>
    obtain ⟨t, rfl⟩ := rx
    have e' : k = (i != 0) := e
    subst e'
    exact PySem.P.truthy_int ⟨H, I, q⟩
  | str y =>
    obtain ⟨t, rfl⟩ := rx
    obtain ⟨hy, e'⟩ : y.length ≤ sizeLine ∧ k = ((y.length : Int) != 0) := e
    subst e'
    exact PySem.P.truthy_str (by omega) ⟨H, I.tok _, q⟩
  | byt y =>
    obtain ⟨t, rfl⟩ := rx
    obtain ⟨hy, e'⟩ : y.size ≤ sizeLine ∧ k = ((y.size : Int) != 0) := e
    subst e'
    exact PySem.W.truthy_bytes (by omega) ⟨H, I.tok _, q⟩
  | ref p =>
    cases rx
    have e' : (∃ xs, SqL X.K H p xs ∧ k = !xs.isEmpty) ∨ (∃ xs, SqT X.K H p xs ∧ k = !xs.isEmpty) ∨ ∃ kvs, H p = some (.dK kvs) ∧ k = !kvs.isEmpty := e
    rcases e' with ⟨xs, hx, e'⟩ | ⟨xs, hx, e'⟩ | ⟨kvs, hx, e'⟩
    · subst e'
      obtain ⟨its, r, pl, hz⟩ := I.list hx
      have hlen := r.length
      exact wpAny_truthy_list pl.isList (by simp only [List.size_toArray]; omega) ⟨H, I.tok _, by rw [isEmpty_of r]; exact q⟩
    · subst e'
      obtain ⟨its, r, pl, hz⟩ := I.tuple hx
      have hlen := r.length
      exact truthy_tuple pl (by simp only [List.size_toArray]; omega) ⟨H, I.tok _, by rw [isEmpty_of r]; exact q⟩
    · subst e'
      obtain ⟨hz, hS, vs, r, m⟩ : kvs.length ≤ sizeLine ∧ (p == sysModules) = false ∧ ∃ vs, KV kvs vs ∧ s.heap.DictOf (mixKind X.prog X.w) p vs := I.hok p _ hx
      have hlen : kvs.length = vs.length := Paired.length r
      exact wpAny_truthy_dict hS m (by omega) ⟨H, I.tok _, by rw [isEmpty_kv r]; exact q⟩
  | _ => exact (show False from e).elim
def PlainIxT (b : Expr) : Prop := ∀ o i, subscripted b false o i = operate [o, i] (getItem o i)
theorem vals1 {x : V} {us : List Value} (r : Vals [x] us) : ∃ u, us = [u] ∧ RelV x u := by
  cases r with
  | cons r1 r2 => cases r2; exact ⟨_, rfl, r1⟩
theorem vals2 {x y : V} {us : List Value} (r : Vals [x, y] us) : ∃ u w', us = [u, w'] ∧ RelV x u ∧ RelV y w' := by
  cases r with
  | cons r1 r2 =>
    cases r2 with
    | cons r3 r4 => cases r4; exact ⟨_, _, rfl, r1, r3⟩
theorem call_max2 (hc : X.calm = true) : CallR X (.builtin "max") (fun xs H Q => ∃ i j, xs = [.int i, .int j] ∧ Q (.int (if j > i then j else i)) H) := by
  intro pins s σ H xs us Q I r h
  obtain ⟨i, j, rfl, q⟩ := h
  obtain ⟨u, w', rfl, ⟨t, rfl⟩, ⟨t', rfl⟩⟩ := vals2 r
  refine max_two_ints (I.ok.hd hc) fun h' tk k => ⟨_, H, I.kept k, ?_, q⟩
  by_cases hj : j > i
  · rw [if_pos hj, if_pos hj]; exact ⟨_, rfl⟩
  · rw [if_neg hj, if_neg hj]; exact ⟨_, rfl⟩
theorem call_min2 (hc : X.calm = true) : CallR X (.builtin "min") (fun xs H Q => ∃ i j, xs = [.int i, .int j] ∧ Q (.int (if j < i then j else i)) H) := by
  intro pins s σ H xs us Q I r h
  obtain ⟨i, j, rfl, q⟩ := h
  obtain ⟨u, w', rfl, ⟨t, rfl⟩, ⟨t', rfl⟩⟩ := vals2 r
  refine min_two_ints (I.ok.hd hc) fun h' tk k => ⟨_, H, I.kept k, ?_, q⟩
  by_cases hj : j < i
  · rw [if_pos hj, if_pos hj]; exact ⟨_, rfl⟩
  · rw [if_neg hj, if_neg hj]; exact ⟨_, rfl⟩
def LenV (K : PySem.W.Frag) (x : V) (H : Hp) (n : Nat) : Prop :=
  match x with
  | .str y => y.length ≤ sizeLine ∧ n = y.length
  | .byt y => y.size ≤ sizeLine ∧ n = y.size
  | .ref p => (∃ xs, SqL K H p xs ∧ n = xs.length) ∨ ∃ xs, SqT K H p xs ∧ n = xs.length
  | _ => False
theorem call_len : CallR X (.builtin "len") (fun xs H Q => ∃ x n, xs = [x] ∧ LenV X.K x H n ∧ Q (.int n) H) := by
  intro pins s σ H xs us Q I r h
  obtain ⟨x, n, rfl, e, q⟩ := h
  obtain ⟨u, rfl, rx⟩ := vals1 r
  have hl := line63
  have hs : sizeLine = 16777216 := sizeLine_eq
  cases x with
  | str y =>
    obtain ⟨t, rfl⟩ := rx
    obtain ⟨hy, e'⟩ : y.length ≤ sizeLine ∧ n = y.length := e
    subst e'
    exact len_str (by omega) ⟨.int _, H, I.tok _, ⟨_, rfl⟩, q⟩
  | byt y =>
    obtain ⟨t, rfl⟩ := rx
    obtain ⟨hy, e'⟩ : y.size ≤ sizeLine ∧ n = y.size := e
    subst e'
    exact PySem.W.len_bytes (by omega) ⟨.int _, H, I.tok _, ⟨_, rfl⟩, q⟩
  | ref p =>
    cases rx
    have e' : (∃ xs, SqL X.K H p xs ∧ n = xs.length) ∨ ∃ xs, SqT X.K H p xs ∧ n = xs.length := e
    rcases e' with ⟨xs, hx, e'⟩ | ⟨xs, hx, e'⟩
    · subst e'
      obtain ⟨its, r', pl, hz⟩ := I.list hx
      have hlen := r'.length
      exact Calls.call_len_list pl.isList (by simp only [List.size_toArray]; omega) ⟨.int xs.length, H, I.tok _, ⟨_, by simp only [List.size_toArray]; rw [hlen]⟩, q⟩
    · subst e'
      obtain ⟨its, r', pl, hz⟩ := I.tuple hx
      have hlen := r'.length
      exact len_tuple pl (by simp only [List.size_toArray]; omega) ⟨.int xs.length, H, I.tok _, ⟨_, by simp only [List.size_toArray]; rw [hlen]⟩, q⟩
  | _ => exact (show False from e).elim
end
end L2
namespace L2
open PySem PySem.Spec PyProof.Rows
structure ObjM (h : Heap) (x dx C : Addr) (mA : Str → Option Value) : Prop where
  obj : h.get? x = some (PySem.W.instObj C dx)
  ns : h.Ns1 dx mA
  ne : dx ≠ x
theorem lookIn_ns {h : Heap} {dx : Addr} {mA : Str → Option Value} (n : h.Ns1 dx mA) : ∃ od, h.get? dx = some od ∧ ∀ name, PySem.W.lookIn name od = some (mA name) := by
  obtain ⟨o, es, ep, ho, hd, hk, _, hm⟩ := n
  refine ⟨o, ho, fun name => ?_⟩
  have e := hm name
  unfold nsFind findBy at e
  rw [← Array.find?_toList] at e
  unfold PySem.W.lookIn
  rw [hd]
  dsimp only
  split
  · rename_i y q
    rw [q] at e
    exact congrArg some e
  · rename_i q
    rw [q] at e
    have a : es.toList.any (·.refKey) = false := by
      rw [List.any_eq_false]
      intro y hy
      obtain ⟨z, t, hkey⟩ := hk y (Array.mem_toList_iff.mp hy)
      simp [DictEntry.refKey, hkey]
    have a' : ¬ es.toList.any (·.refKey) = true := by rw [a]; exact Bool.false_ne_true
    rw [if_neg a']
    exact congrArg some e
theorem ObjM.look {h : Heap} {x dx C : Addr} {mA : Str → Option Value} (I : ObjM h x dx C mA) : ∃ od, PySem.W.InstAt h x (PySem.W.instObj C dx) C (some od) ∧ ∀ name, PySem.W.lookIn name od = some (mA name) :=
  let ⟨od, ho, hl⟩ := lookIn_ns I.ns
  ⟨od, ⟨I.obj, rfl, rfl, ho⟩, hl⟩
section
variable {prog : Program} {w : World} {A : Around} {E : Value → Shared → Prop} {s : Shared} {K : PySem.W.Frag} {x dx C f : Addr} {mA : Str → Option Value} {name : Str} {v : Value}
end
def putF (f : Str) (v : V) : List (Str × V) → List (Str × V)
  | [] => [(f, v)]
  | (g, x) :: r => if g = f then (g, v) :: r else (g, x) :: putF f v r
theorem RelO.none_of {o : Option Value} (r : RelO none o) : o = none := by
  cases o with
  | none => rfl
  | some u => exact (show False from r).elim
section
variable {P : Program} {w : World} {H H' : Hp} {h h' : Heap} {a C dx : Addr} {fs fs' : List (Str × V)}
theorem ins_get (hok : HOk P w H h) (e : H a = some (.ins C dx fs)) : ∃ mA, ObjM h a dx C mA ∧ (∀ f, RelO (fs.lookup f) (mA f)) ∧ PySem.Within mA (fs.map (·.1)) ∧ fs.length ≤ 1000 ∧ H dx = some (.own a) := by
  obtain ⟨d, z, ne, ob, mA, n, r, q⟩ := (show ObjOk P w H h a (.ins C dx fs) from hok a _ e)
  exact ⟨mA, ⟨ob, n, ne⟩, r, q, z, d⟩
end
structure Cls (K : PySem.W.Frag) (C : Addr) : Prop where
  pg : PySem.W.plainGet K C Str.empty = true
  hd : PySem.W.hasDictIn K C = true
  po : PySem.W.plainOver K C = true
  sa : PySem.W.findIn K (.ref C) "__setattr__" = some (some (.builtin "object.__setattr__"))
theorem Cls.get {K : PySem.W.Frag} {C : Addr} (c : Cls K C) (f : Str) : PySem.W.plainGet K C f = true := c.pg
def NoAttr (K : PySem.W.Frag) (C : Addr) (f : Str) : Prop := PySem.W.findIn K (.ref C) f = some none
structure Con (K : PySem.W.Frag) (C : Addr) (f : Str) (v : V) (u : Value) : Prop where
  at_ : PySem.W.findIn K (.ref C) f = some (some u)
  rel : RelV v u
  get : PySem.W.specialIn K u "__get__" = some none
  cp : PySem.W.copiedNames.contains f = false
structure Meth (K : PySem.W.Frag) (C : Addr) (m : Str) (f : Addr) : Prop where
  at_ : PySem.W.findIn K (.ref C) m = some (some (.ref f))
  fn : PySem.W.isFn K (.ref f) = true
  kp : PySem.W.keepIn K (.ref f) = true
section
variable {X : Cx} {pins : List (Addr × Obj)} {σ : St} {H : Hp} {s : Shared} {a C dx : Addr} {fs : List (Str × V)} {f : Str} {v : V} {A : Around} {E : Value → Shared → Prop}
end
def tFld (K : PySem.W.Frag) (ta : TE) (f : Str) : TE := fun σ H Q => ta σ H fun x H1 => ∃ a C dx fs v, x = .ref a ∧ H1 a = some (.ins C dx fs) ∧ Cls K C ∧ NoAttr K C f ∧ fs.lookup f = some v ∧ Q v H1
def tCon (K : PySem.W.Frag) (ta : TE) (f : Str) : TE := fun σ H Q => ta σ H fun x H1 => ∃ a C dx fs v u, x = .ref a ∧ H1 a = some (.ins C dx fs) ∧ Cls K C ∧ Con K C f v u ∧ fs.lookup f = none ∧ Q v H1
def sFld (K : PySem.W.Frag) (ta tv : TE) (f : Str) : TS := fun D σ H => tv σ H fun y H1 => ta σ H1 fun x H2 => ∃ a C dx fs, x = .ref a ∧ H2 a = some (.ins C dx fs) ∧ Cls K C ∧ NoAttr K C f ∧ fs.length < 1000 ∧
  D.nx σ (upd H2 a (.ins C dx (putF f y fs)))
def InOp (X : Cx) (op : Operator) (rd : V → V → Hp → VK → Prop) : Prop :=
  ∀ (pins : List (Addr × Obj)) (s : Shared) (σ : St) (H : Hp) (x y : V) (u v : Value) (Q : VK), Inv X pins σ H s → RelV x u → RelV y v → rd x y H Q → wpAny (model X.prog X.w) X.A (inplaceOp op u v) (EP X pins σ Q) X.xe s
def sFldAug (K : PySem.W.Frag) (ta tv : TE) (rd : V → V → Hp → VK → Prop) (f : Str) : TS := fun D σ H => ta σ H fun x H1 => ∃ a C dx fs v, x = .ref a ∧ H1 a = some (.ins C dx fs) ∧ Cls K C ∧ NoAttr K C f ∧ fs.lookup f = some v ∧
  tv σ H1 fun y H2 => rd v y H2 fun z H3 => ∃ dx' fs', H3 a = some (.ins C dx' fs') ∧ fs'.length < 1000 ∧ D.nx σ (upd H3 a (.ins C dx' (putF f z fs')))
section
variable {X : Cx} {o e value : Expr} {f : Str} {pos pos' tpos : Pos} {ta tv : TE}
def rAdd : V → V → Hp → VK → Prop := fun x y H Q => ∃ i j, x = .int i ∧ y = .int j ∧ Q (.int (i + j)) H
def rSub : V → V → Hp → VK → Prop := fun x y H Q => ∃ i j, x = .int i ∧ y = .int j ∧ Q (.int (i - j)) H
end
section
variable {X : Cx} {pins : List (Addr × Obj)} {σ : St} {H : Hp} {s : Shared} {A : Around} {E : Value → Shared → Prop} {Q : Value → Shared → Prop} {c : Value} {b : Bool}
inductive TyOf (K : PySem.W.Frag) (H : Hp) : V → Value → Prop where
  | non : TyOf K H .non (.type "NoneType")
  | bl (x : Bool) : TyOf K H (.bl x) (.type "bool")
  | int (i : Int) : TyOf K H (.int i) (.type "int")
  | str (x : Str) : TyOf K H (.str x) (.type "str")
  | flt (x : UInt64) : TyOf K H (.flt x) (.type "float")
  | lst {a : Addr} {xs : List V} (e : H a = some (.lst xs)) : TyOf K H (.ref a) (.type "list")
  | frz {a : Addr} {o : Obj} {xs : List V} (e : H a = some (.frz o (.lst xs))) : TyOf K H (.ref a) (.type "list")
  | tup {a : Addr} {xs : List V} (e : H a = some (.tup xs)) : TyOf K H (.ref a) (.type "tuple")
  | dK {a : Addr} {kvs : List (Key × V)} (e : H a = some (.dK kvs)) : TyOf K H (.ref a) (.type "dict")
  | dT {a : Addr} {kvs : List (List Key × V)} (e : H a = some (.dT kvs)) : TyOf K H (.ref a) (.type "dict")
  | ins {a C dx : Addr} {fs : List (Str × V)} (e : H a = some (.ins C dx fs)) (cl : Cls K C) (ha : PySem.W.findIn K (.ref C) "__class__" = some (some (.builtin "object.__class__")))
      (hn : PySem.W.specialIn K (.builtin "object.__class__") "__get__" = some (some (.builtin "getset_descriptor.__get__"))) (htk : PySem.W.takesIn K (.builtin "object.__class__") = some true)
      (hm : PySem.W.mroIn K C (.type "object") = some true) : TyOf K H (.ref a) (.ref C)
theorem isinst_ok {x : V} {u t : Value} (I : Inv X pins σ H s) (rx : RelV x u) (ty : TyOf X.K H x t) (e : PySem.W.kitOne X.K t c = some b) (h : ∀ tk, Q (.bool b) { s with toks := tk }) :
    wpAny (model X.prog X.w) A (call (.builtin "isinstance") [u, c]) Q E s := by
  cases ty with
  | non => cases (show u = Value.none from rx); exact PySem.W.kia_one PySem.W.kitx_none I.kIn True.intro e (fun z => nomatch z) h
  | bl y => cases (show u = Value.bool y from rx); exact PySem.W.kia_one PySem.W.kitx_bool I.kIn True.intro e (fun z => nomatch z) h
  | int i => obtain ⟨t, q⟩ := (show ∃ t, u = Value.int i t from rx); cases q; exact PySem.W.kia_one PySem.W.kitx_int I.kIn True.intro e (fun z => nomatch z) h
  | str y => obtain ⟨t, q⟩ := (show ∃ t, u = Value.str y t from rx); cases q; exact PySem.W.kia_one PySem.W.kitx_str I.kIn True.intro e (fun z => nomatch z) h
  | flt y => obtain ⟨t, q⟩ := (show ∃ t, u = Value.float y t from rx); cases q; exact PySem.W.kia_one PySem.W.kitx_float I.kIn True.intro e (fun z => nomatch z) h
  | @lst a xs ea =>
    cases (show u = Value.ref a from rx)
    obtain ⟨_, _, n, _, h1⟩ := (show ObjOk X.prog X.w H s.heap a (.lst xs) from I.hok a _ ea)
    exact PySem.W.kia_one PySem.W.kitx_list I.kIn ⟨_, h1, rfl⟩ e (fun z => nomatch z) h
  | @frz a ob xs ea =>
    cases (show u = Value.ref a from rx)
    obtain ⟨_, _, _, n, _, h1⟩ := (show ObjOk X.prog X.w H s.heap a (.frz ob (.lst xs)) from I.hok a _ ea)
    exact PySem.W.kia_one PySem.W.kitx_list I.kIn ⟨_, h1, rfl⟩ e (fun z => nomatch z) h
  | @tup a xs ea =>
    cases (show u = Value.ref a from rx)
    obtain ⟨_, _, _, p⟩ := (show ObjOk X.prog X.w H s.heap a (.tup xs) from I.hok a _ ea)
    obtain ⟨o, h1, h2, _⟩ := p
    exact PySem.W.kia_one PySem.W.kitx_tuple I.kIn ⟨o, h1, h2⟩ e (fun z => nomatch z) h
  | @dK a kvs ea =>
    cases (show u = Value.ref a from rx)
    obtain ⟨_, _, vs, _, p⟩ := (show ObjOk X.prog X.w H s.heap a (.dK kvs) from I.hok a _ ea)
    obtain ⟨o, es, ep, h1, h2, _⟩ := p
    exact PySem.W.kia_one PySem.W.kitx_dict I.kIn ⟨o, h1, h2.1⟩ e (fun z => nomatch z) h
  | @dT a kvs ea =>
    cases (show u = Value.ref a from rx)
    obtain ⟨_, _, xs, _, o, es, ep, h1, h2, _⟩ := (show ObjOk X.prog X.w H s.heap a (.dT kvs) from I.hok a _ ea)
    exact PySem.W.kia_one PySem.W.kitx_dict I.kIn ⟨o, h1, h2.1⟩ e (fun z => nomatch z) h
  | @ins a C dx fs ea cl ha hn htk hm =>
    cases (show u = Value.ref a from rx)
    obtain ⟨mA, O, _⟩ := ins_get I.hok ea
    obtain ⟨od, J, _⟩ := O.look
    exact PySem.W.kia_one (PySem.W.kitx_own (cl.get _) cl.hd ha hn htk hm) I.kIn J e (fun z => nomatch z) h
end
end L2
namespace L2
open PySem PySem.Spec PyProof.Rows
structure Room (k : Nat) (A : Around) : Prop where
  hd : A.handled = none
  dp : A.depth + 3 * k + 5 < recursionLimit
  un : A.units + 16 * k + 200 < cLine
theorem Room.mono {j k : Nat} {A : Around} (r : Room k A) (h : j ≤ k) : Room j A := ⟨r.hd, by have := r.dp; omega, by have := r.un; omega⟩
theorem Room.deeper {k : Nat} {A : Around} (r : Room (k + 1) A) (env : Env) : Room k (A.deeper env) :=
  ⟨r.hd, by have := r.dp; show A.depth + 1 + 3 * k + 5 < _; omega, by have := r.un; show A.units + 3 + 16 * k + 200 < _; omega⟩
theorem Room.in1 {k : Nat} {A : Around} (r : Room (k + 1) A) : Room k A.in1 :=
  ⟨r.hd, by have := r.dp; show A.depth + 3 * k + 5 < _; omega, by have := r.un; show A.units + 1 + 16 * k + 200 < _; omega⟩
theorem Room.depth {k : Nat} {A : Around} (r : Room k A) : A.depth < recursionLimit := by have := r.dp; omega
theorem Room.units {k : Nat} {A : Around} (r : Room k A) : A.units + 64 < cLine := by have := r.un; omega
def tNil : TA := fun _ H Q => Q [] H
def tCons (ta : TE) (tr : TA) : TA := fun σ H Q => ta σ H fun x H1 => tr σ H1 fun xs H2 => Q (x :: xs) H2
section
variable {X : Cx} {e : Expr} {es : List Expr} {te : TE} {t : TA} {pos : Pos}
theorem pa_nil : PA X [] tNil := fun _ _ _ _ H Q I h => Calls.spliced_nil ⟨[], H, I, .nil, h⟩
theorem pa_cons (ha : PE X e te) (hr : PA X es t) (hs : starEach (e :: es) X.env = (false, eval e X.env) :: starEach es X.env := by rfl) : PA X (e :: es) (tCons te t) := by
  intro pos pins s σ H Q I h
  rw [hs]
  show wpAny _ _ (spliced ((false, eval e X.env) :: backTo pos (starEach es X.env))) _ _ s
  refine Calls.spliced_cons (thn (ha pins s σ H _ I h) fun u s1 ⟨x, H1, I1, r1, q1⟩ => ?_)
  exact thn (hr pos pins s1 σ H1 _ I1 q1) fun us s2 ⟨xs, H2, I2, r2, q2⟩ => ⟨x :: xs, H2, I2, .cons r1 r2, q2⟩
def tTup (t : TA) : TE := fun σ H Q => t σ H fun xs H1 => xs.length ≤ sizeLine ∧ ∀ p, H1 p = none → Q (.ref p) (upd H1 p (.tup xs))
def tLst (t : TA) : TE := fun σ H Q => t σ H fun xs H1 => xs.length ≤ sizeLine ∧ ∀ p, H1 p = none → Q (.ref p) (upd H1 p (.lst xs))
theorem pe_tup {x1} (h : PA X es t) : PE X (.Tuple es x1 pos) (tTup t) := by
  intro pins s σ H Q I hq
  refine wpAny_Tuple_spliced (thn (h pos pins s σ H _ I hq) fun us s1 ⟨xs, H1, I1, r, z, q⟩ => ⟨by rw [← r.length]; exact z, ?_⟩)
  have hf : H1 s1.heap.objs.size = none := I1.hok.fresh (Nat.le_refl _)
  refine ⟨.ref s1.heap.objs.size, upd H1 s1.heap.objs.size (.tup xs), I1.laid (t' := s1.toks) (fun b u e => Heap.get?_push_of_some _ e) (Nat.le_refl _) ?_, rfl, q _ hf⟩
  exact ⟨z, us, r, ⟨_, Heap.get?_push_size _ rfl, rfl, _, rfl⟩⟩
theorem pe_lst (h : PA X es t) : PE X (.List es pos) (tLst t) := by
  intro pins s σ H Q I hq
  refine wpAny_List_spliced (thn (h pos pins s σ H _ I hq) fun us s1 ⟨xs, H1, I1, r, z, q⟩ => ⟨by rw [← r.length]; exact z, ?_⟩)
  have hf : H1 s1.heap.objs.size = none := I1.hok.fresh (Nat.le_refl _)
  refine ⟨.ref s1.heap.objs.size, upd H1 s1.heap.objs.size (.lst xs), I1.laid (t' := s1.toks) (fun b u e => Heap.get?_push_of_some _ e) (Nat.le_refl _) ?_, rfl, q _ hf⟩
  exact ⟨z, us, 0, r, Heap.get?_push_size _ rfl⟩
end
abbrev Sp := List V → Hp → VK → XK → Prop
abbrev CXT := List Env → Hp → Shared → XK → Value → Shared → Prop
structure Env0 (P : Program) (w : World) (K : PySem.W.Frag) (mg : Str → Option Value) (base : Heap) (A : Around) (outer : List Env) (s : Shared) (H : Hp) : Prop where
  frames : A.frames = some outer
  mod : Mod K mg base
  bs : ∀ b o, base.get? b = some o → s.heap.get? b = some o ∧ H b = none
  bsz : base.objs.size ≤ s.heap.objs.size
  funs : s.heap.FunFrames base outer
  frf : ∀ b ∈ frs outer, H b = none
  hok : HOk P w H s.heap
  bare : AllBare s.gens
def CE (outer : List Env) (P : Program) (w : World) (H : Hp) (s : Shared) (Q : VK) (u : Value) (s' : Shared) : Prop :=
  ∃ v H', s'.os = s.os ∧ AllBare s'.gens ∧ Un (frs outer) [] H H' s.heap s'.heap ∧ HOk P w H' s'.heap ∧ RelV v u ∧ Q v H'
def CR (CX : CXT) (outer : List Env) (P : Program) (w : World) (H : Hp) (s : Shared) (Q : VK) (E : XK) (r : Result) (s' : Shared) : Prop :=
  match r with
  | .ok (.ret u) => CE outer P w H s Q u s'
  | .ok _ => False
  | .error e => CX outer H s E e s'
structure FnOk (P : Program) (w : World) (K : PySem.W.Frag) (mg : Str → Option Value) (base : Heap) (CX : CXT) (k : Nat) (f : Addr) (fd : FuncData) (ps : List Str) (sp : Sp) : Prop where
  len : ∀ vs H Q E, sp vs H Q E → vs.length = ps.length
  run : ∀ (A : Around) (outer : List Env) (s : Shared) (H : Hp) (args : Args) (us : List Value) (vs : List V) (Q : VK) (E : XK), Room k A → Env0 P w K mg base A outer s H → BindsTo s fd args (ps.zip us) → Vals vs us → sp vs H Q E →
    codeAny (model P w) A (.call (.ref f) args) (CR CX outer P w H s Q E) s
theorem FnOk.mono {P : Program} {w : World} {K : PySem.W.Frag} {mg : Str → Option Value} {base : Heap} {CX : CXT} {j k : Nat} {f : Addr} {fd : FuncData} {ps : List Str} {sp : Sp} (F : FnOk P w K mg base CX j f fd ps sp) (h : j ≤ k) :
    FnOk P w K mg base CX k f fd ps sp := ⟨F.len, fun A outer s H args us vs Q E hr => F.run A outer s H args us vs Q E (hr.mono h)⟩
theorem FnOk.imp {P : Program} {w : World} {K : PySem.W.Frag} {mg : Str → Option Value} {base : Heap} {CX : CXT} {k : Nat} {f : Addr} {fd : FuncData} {ps : List Str} {sp sp' : Sp} (F : FnOk P w K mg base CX k f fd ps sp)
    (h : ∀ vs H Q E, sp' vs H Q E → sp vs H Q E) : FnOk P w K mg base CX k f fd ps sp' :=
  ⟨fun vs H Q E q => F.len vs H Q E (h _ _ _ _ q), fun A outer s H args us vs Q E hr he hb hv hs => F.run A outer s H args us vs Q E hr he hb hv (h _ _ _ _ hs)⟩
theorem Env0.in1 {P : Program} {w : World} {K : PySem.W.Frag} {mg : Str → Option Value} {base : Heap} {A : Around} {outer : List Env} {s : Shared} {H : Hp} (e : Env0 P w K mg base A outer s H) :
    Env0 P w K mg base A.in1 outer s H := ⟨e.frames, e.mod, e.bs, e.bsz, e.funs, e.frf, e.hok, e.bare⟩
section
variable {X : Cx} {pins : List (Addr × Obj)} {σ : St} {H : Hp} {s s' : Shared}
theorem Inv.env0 (I : Inv X pins σ H s) : Env0 X.prog X.w X.K X.mg X.base X.A X.stack s H :=
  ⟨I.ok.frames, I.ok.mod, I.bs, Nat.le_trans I.ok.bsz I.sz, I.stack, I.stkFree, I.hok, I.bare⟩
theorem Inv.after {Q : VK} {u : Value} (I : Inv X pins σ H s) (h : CE X.stack X.prog X.w H s Q u s') : EP X pins σ Q u s' := by
  obtain ⟨v, H', os, bare, un, hok, r, q⟩ := h
  obtain ⟨hh, g, d, t, os'⟩ := s'
  obtain rfl : os' = s.os := os
  exact ⟨v, H', I.call (h' := hh) (g' := g) (d' := d) (t' := t) (ch := []) un hok bare (fun b z => absurd z (by simp)), r, q⟩
end
def tCall (sp : Sp) (dvs : List V) (E : XK) (t : TA) : TE := fun σ H Q => t σ H fun vs H1 => sp (vs ++ dvs) H1 Q E
def tMeth (C : Addr) (m : Str) (sp : Sp) (dvs : List V) (E : XK) (ta : TE) (t : TA) : TE := fun σ H Q => ta σ H fun x H1 => ∃ a dx fs, x = .ref a ∧ H1 a = some (.ins C dx fs) ∧ fs.lookup m = none ∧
  t σ H1 fun vs H2 => sp (x :: (vs ++ dvs)) H2 Q E
def tMake (C : Addr) (sp : Sp) (dvs : List V) (E : XK) (t : TA) : TE := fun σ H Q => t σ H fun vs H1 => ∀ x dx, H1 x = none → H1 dx = none → dx ≠ x →
  sp (.ref x :: (vs ++ dvs)) (upd (upd H1 dx (.own x)) x (.ins C dx [])) (fun v H2 => v = .non ∧ Q (.ref x) H2) E
def Binds (K : PySem.W.Frag) (fd : FuncData) (ps : List Str) (ds : List Value) : Prop :=
  ∀ (s : Shared) (us : List Value), K.In s.heap → (us ++ ds).length = ps.length → BindsTo s fd ⟨us, []⟩ (ps.zip (us ++ ds))
theorem Binds.all {K : PySem.W.Frag} {fd : FuncData} {ps : List Str} (h : ∀ us : List Value, us.length = ps.length → bindArgs fd ⟨us, []⟩ = pure (ps.zip us)) : Binds K fd ps [] := fun s us _ hl => by
  rw [List.append_nil] at hl ⊢
  exact .of_eq (h us hl)
def Passes (CX : CXT) (X : Cx) (E : XK) : Prop := ∀ (pins : List (Addr × Obj)) (σ : St) (H : Hp) (s : Shared) (e : Value) (s' : Shared), Inv X pins σ H s → CX X.stack H s E e s' → X.xe e s'
section
variable {X : Cx} {CX : CXT} {k : Nat} {f C : Addr} {fd : FuncData} {ps : List Str} {sp : Sp} {dvs : List V} {ds : List Value} {E : XK} {x m : Str} {p pos apos : Pos} {e o : Expr} {es : List Expr} {ta : TE} {t : TA}
theorem run_fn {pins : List (Addr × Obj)} {σ : St} {H : Hp} {s : Shared} {Q : VK} {us : List Value} {vs : List V} (F : FnOk X.prog X.w X.K X.mg X.base CX k f fd ps sp) (hr : Room k X.A) (hb : Binds X.K fd ps ds) (hd : Vals dvs ds) (hx : Passes CX X E)
    (I : Inv X pins σ H s) (r : Vals vs us) (h : sp (vs ++ dvs) H Q E) : wpAny (model X.prog X.w) X.A (call (.ref f) us) (EP X pins σ Q) X.xe s := by
  have r2 : Vals (vs ++ dvs) (us ++ ds) := r.append hd
  have hl : (us ++ ds).length = ps.length := by rw [← r2.length]; exact F.len _ _ _ _ h
  refine wpAny_call (codeAny_mono (F.run X.A X.stack s H ⟨us, []⟩ (us ++ ds) (vs ++ dvs) Q E hr I.env0 (hb s us I.kIn hl) r2 h) fun r s' hq => ?_)
  cases r with
  | error e => exact hx pins σ H s e s' I hq
  | ok fl =>
    cases fl with
    | ret u => exact I.after hq
    | next => exact False.elim hq
    | brk => exact False.elim hq
    | cont => exact False.elim hq
theorem pe_call (F : FnOk X.prog X.w X.K X.mg X.base CX k f fd ps sp) (hr : Room k X.A) (hg : Gl X x) (hm : X.mg x = some (.ref f)) (hk : PySem.W.keepIn X.K (.ref f) = true) (hb : Binds X.K fd ps ds) (hd : Vals dvs ds) (hx : Passes CX X E)
    (ha : PA X (e :: es) t) (hdb : (x == ("__debug__" : Str)) = false := by decide) (he : starEach (e :: es) X.env = (false, eval e X.env) :: starEach es X.env := by rfl) (hpl : (backTo pos (starEach es X.env)).any (·.1) = false := by rfl) :
    PE X (.Call (.Name x p) (e :: es) [] pos) (tCall sp dvs E t) := by
  intro pins s σ H Q I h
  refine wpAny_Call_Name_kw (ld_glob I hg hm ?_ hdb)
  refine PySem.W.callWith_K (h₀ := X.base) I.ok.mod.kin hk (thn (ha pos pins s σ H _ I h) fun us s1 ⟨vs, H1, I1, r, q⟩ => ⟨I1.kIn, ?_⟩) he hpl
  exact run_fn F hr hb hd hx I1 r q
structure Mk (K : PySem.W.Frag) (C f : Addr) : Prop where
  makes : PySem.W.makesIn K C = true
  init : PySem.W.findIn K (.ref C) "__init__" = some (some (.ref f))
  fn : PySem.W.isFn K (.ref f) = true
  kp : PySem.W.keepIn K (.ref C) = true
end
def PK (X : Cx) (kws : List Keyword) (t : TA) : Prop :=
  ∀ (pos : Pos) (pins : List (Addr × Obj)) (s : Shared) (σ : St) (H : Hp) (Q : List V → Hp → Prop), Inv X pins σ H s → t σ H Q → wpAny (model X.prog X.w) X.A (evalAll ((backToKw pos (keywordEach kws X.env)).map (·.2))) (AP X pins σ Q) X.xe s
section
variable {X : Cx} {CX : CXT} {k : Nat} {f C : Addr} {fd : FuncData} {ps ks : List Str} {sp : Sp} {E : XK} {x m : Str} {p pos apos kpos : Pos} {e o : Expr} {es : List Expr} {kws : List Keyword} {te ta : TE} {t tk : TA} {nm : Option Str}
structure KBinds (K : PySem.W.Frag) (fd : FuncData) (ps ks : List Str) (g : List Value → List Value → List Value) (gV : List V → List V → List V) : Prop where
  to : ∀ (s : Shared) (us ws : List Value), K.In s.heap → (g us ws).length = ps.length → BindsTo s fd ⟨us, ks.zip ws⟩ (ps.zip (g us ws))
  rel : ∀ {vs : List V} {us : List Value} {zs : List V} {ws : List Value}, Vals vs us → Vals zs ws → Vals (gV vs zs) (g us ws)
def tCallK (sp : Sp) (gV : List V → List V → List V) (E : XK) (t tk : TA) : TE := fun σ H Q => t σ H fun vs H1 => tk σ H1 fun zs H2 => sp (gV vs zs) H2 Q E
variable {g : List Value → List Value → List Value} {gV : List V → List V → List V}
end
structure FnScope (N P : List Str) (sc : Scope) : Prop where
  kind : sc.kind = .function
  co : sc.isCoroutine = false
  gen : sc.isGenerator = false
  nd : N.Nodup
  pre : N.take P.length = P
  par : ∀ x ∈ P, sc.names.lookup x = some .local ∨ sc.names.lookup x = some .cell
  nofree : ∀ y ∈ sc.names, y.2 ≠ .free
theorem bindL_out {kindOf : Str → Option NameKind} {x : Str} : ∀ {binds : List (Str × Value)} {m : Str → Option Value}, (∀ v, (x, v) ∉ binds) → bindL kindOf binds m x = m x
  | [], _, _ => rfl
  | (n, v) :: r, m, h => by
    unfold bindL
    rw [bindL_out fun w hw => h w (List.mem_cons_of_mem _ hw)]
    split
    · have : x ≠ n := by rintro rfl; exact h v List.mem_cons_self
      simp [this]
    · rfl
theorem bindC_out {kindOf : Str → Option NameKind} {x : Str} : ∀ {binds : List (Str × Value)} {m : Str → Option Value}, (∀ v, (x, v) ∉ binds) → bindC kindOf binds m x = m x
  | [], _, _ => rfl
  | (n, v) :: r, m, h => by
    unfold bindC
    rw [bindC_out fun w hw => h w (List.mem_cons_of_mem _ hw)]
    split
    · rfl
    · have : x ≠ n := by rintro rfl; exact h v List.mem_cons_self
      simp [this]
theorem bindL_get {kindOf : Str → Option NameKind} {x : Str} {v : Value} : ∀ {P : List Str} {vs : List Value} {i : Nat} {m : Str → Option Value}, P.Nodup → P[i]? = some x → vs[i]? = some v → kindOf x = some .local →
    bindL kindOf (P.zip vs) m x = some v
  | [], _, _, _, _, h, _, _ => by simp at h
  | _ :: _, [], _, _, _, _, h, _ => by simp at h
  | p :: P, w :: vs, 0, m, nd, h1, h2, hk => by
    simp at h1 h2; subst h1; subst h2
    show bindL kindOf ((p, w) :: P.zip vs) m p = _
    unfold bindL
    rw [bindL_out fun v hv => (List.nodup_cons.mp nd).1 (List.of_mem_zip hv).1, if_pos hk]
    simp
  | p :: P, w :: vs, i + 1, m, nd, h1, h2, hk => by
    show bindL kindOf ((p, w) :: P.zip vs) m x = _
    unfold bindL
    exact bindL_get (i := i) (List.nodup_cons.mp nd).2 (by simpa using h1) (by simpa using h2) hk
theorem bindC_get {kindOf : Str → Option NameKind} {x : Str} {v : Value} : ∀ {P : List Str} {vs : List Value} {i : Nat} {m : Str → Option Value}, P.Nodup → P[i]? = some x → vs[i]? = some v → kindOf x ≠ some .local →
    bindC kindOf (P.zip vs) m x = some v
  | [], _, _, _, _, h, _, _ => by simp at h
  | _ :: _, [], _, _, _, _, h, _ => by simp at h
  | p :: P, w :: vs, 0, m, nd, h1, h2, hk => by
    simp at h1 h2; subst h1; subst h2
    show bindC kindOf ((p, w) :: P.zip vs) m p = _
    unfold bindC
    rw [bindC_out fun v hv => (List.nodup_cons.mp nd).1 (List.of_mem_zip hv).1, if_neg hk]
    simp
  | p :: P, w :: vs, i + 1, m, nd, h1, h2, hk => by
    show bindC kindOf ((p, w) :: P.zip vs) m x = _
    unfold bindC
    exact bindC_get (i := i) (List.nodup_cons.mp nd).2 (by simpa using h1) (by simpa using h2) hk
def start (N : List Str) (vs : List V) : St := vs.map some ++ List.replicate (N.length - vs.length) none
def cxOf (CX : CXT) (P : Program) (w : World) (K : PySem.W.Frag) (mg : Str → Option Value) (base : Heap) (N : List Str) (qual : Str) (scope : Scope) (f : Addr) (cd : Value) (A : Around) (outer : List Env) (s : Shared) (H : Hp) (E : XK) : Cx where
  prog := P
  w := w
  K := K
  mg := mg
  base := base
  A := A.deeper (envOfC qual scope s.heap.objs.size f cd)
  N := N
  s₀ := s
  H₀ := H
  env := envOfC qual scope s.heap.objs.size f cd
  outer := outer
  stack := envOfC qual scope s.heap.objs.size f cd :: outer
  ex := []
  calm := true
  fn := fun _ => true
  pn := []
  xe := fun e s' => wpAny (model P w) (A.deeper (envOfC qual scope s.heap.objs.size f cd)) (leaving (envOfC qual scope s.heap.objs.size f cd) e) (fun _ s'' => CX outer H s E e s'') (fun e' s'' => CX outer H s E e' s'') s'
theorem cell_has {sc : Scope} {n : Nat} {x : Str} (h : sc.names.lookup x = some .cell) : ∃ c, (cellsFrom n sc.names []).lookup x = some c := by
  have q := PySem.W.cellsFrom_some sc.names n [] (.inl h)
  exact Option.isSome_iff_exists.mp q
theorem inv_start {CX : CXT} {P : Program} {w : World} {K : PySem.W.Frag} {mg : Str → Option Value} {base : Heap} {N ps : List Str} {qual : Str} {scope : Scope} {f : Addr} {cd : Value} {A : Around} {outer : List Env} {s s1 : Shared} {H : Hp} {E : XK} {us : List Value} {vs : List V}
    (S : FnScope N ps scope) (hd : A.handled = none) (e0 : Env0 P w K mg base A outer s H) (hl : vs.length = ps.length) (r : Vals vs us)
    (x : InCallC s s.heap.objs.size (bindL (envOfC qual scope s.heap.objs.size f cd).kindOf (ps.zip us) fun _ => none) (cellsFrom (s.heap.objs.size + 1) scope.names []) (bindC (envOfC qual scope s.heap.objs.size f cd).kindOf (ps.zip us) fun _ => none) s1) :
    Inv (cxOf CX P w K mg base N qual scope f cd A outer s H E) [] (start N vs) H s1 := by
  have hpl : ps.length ≤ N.length := by have := congrArg List.length S.pre; rw [List.length_take] at this; omega
  obtain ⟨h1, tk, rfl, hk⟩ := x.done
  have noA : ∀ b : Addr, b ∉ (cxOf CX P w K mg base N qual scope f cd A outer s H E).ex := fun b z => absurd (show b ∈ ([] : List Addr) from z) (by simp)
  refine ⟨⟨e0.mod, S.kind, rfl, rfl, Nat.le_refl _, fun y z c h1 h2 => ?_, fun y hy => ?_, fun y c _ h => ?_, fun _ => hd, Around.frames_deeper e0.frames, .inr ⟨rfl, rfl⟩, fun b z => absurd z (noA b), e0.bs, e0.bsz, fun b _ _ => noA b, fun b z => absurd z (noA b), e0.funs, e0.frf⟩,
    rfl, e0.bare, Un.kept hk, ⟨_, x.toInCall.ns, fun i y v h1 h2 h3 => ?_⟩, fun y c h => ⟨_, x.cell y c h⟩, e0.hok.fresh (Nat.le_refl _), fun y c h => ?_, fun p hp => absurd (show p ∈ ([] : List (Addr × Obj)) from hp) (by simp), e0.hok.kept hk, ?_⟩
  · exact name_of_addr x.apart (PySem.mem_of_lookup h1) (PySem.mem_of_lookup h2)
  · have hy : scope.names.lookup y = some .cell ∨ scope.names.lookup y = some .free := hy
    rcases hy with hy | hy
    · exact cell_has hy
    · exact absurd rfl (S.nofree _ (PySem.mem_of_lookup hy))
  · exact Nat.le_of_lt (x.above y c (PySem.mem_of_lookup h))
  · have hi : i < vs.length := by
      unfold start at h2
      by_cases hi : i < vs.length
      · exact hi
      · rw [List.getElem?_append_right (by simpa using hi)] at h2
        rw [List.getElem?_replicate] at h2
        split at h2 <;> cases h2
    have ha : vs[i]? = some v := by
      unfold start at h2
      rw [List.getElem?_append_left (by simpa using hi), List.getElem?_map] at h2
      cases e : vs[i]? with
      | none => rw [e] at h2; cases h2
      | some a => rw [e] at h2; cases h2; rfl
    obtain ⟨u, hu, rv⟩ := r.get ha
    have hp : ps[i]? = some y := by
      rw [← S.pre, List.getElem?_take_of_lt (by omega)]; exact h1
    have ndP : ps.Nodup := by rw [← S.pre]; exact S.nd.sublist (List.take_sublist _ _)
    refine ⟨u, rv, ?_⟩
    rcases S.par y (List.mem_of_getElem? hp) with k | k
    · exact .inl ⟨k, bindL_get ndP hp hu k⟩
    · obtain ⟨c, e⟩ := cell_has (n := s.heap.objs.size + 1) k
      refine .inr ⟨.inl k, c, e, ?_⟩
      have q := x.cell y c e
      rw [bindC_get ndP hp hu (by show scope.names.lookup y ≠ _; rw [k]; decide)] at q
      exact q
  · exact e0.hok.fresh (Nat.le_of_lt (x.above y c (PySem.mem_of_lookup h)))
  · unfold start
    show _ = N.length
    rw [List.length_append, List.length_map, List.length_replicate]
    omega
theorem fn_of {CX : CXT} {P : Program} {w : World} {K : PySem.W.Frag} {mg : Str → Option Value} {base : Heap} {k : Nat} {f : Addr} {name qual : Str} {params : Arguments} {body : List Stmt} {scope : Scope} {dV kV doc pm cdv ct oc : Value} {an od : Option Addr}
    {osl : Array (Option Value)} {N ps : List Str} {sp : Sp} (lk : K.lookup f = some ⟨oc, od, .func (PySem.W.fnOf name qual params body scope dV kV doc pm an cdv ct), osl⟩) (hcd : PySem.W.codeIn K cdv qual = true) (S : FnScope N ps scope)
    (len : ∀ vs H Q E, sp vs H Q E → vs.length = ps.length)
    (hbody : ∀ (A : Around) (outer : List Env) (s : Shared) (H : Hp) (vs : List V) (Q : VK) (E : XK), Room k (A.deeper (envOfC qual scope s.heap.objs.size f cdv)) → sp vs H Q E →
      ∃ t, PSs (cxOf CX P w K mg base N qual scope f cdv A outer s H E) body t ∧ t { nx := fun _ H' => Q .non H', rt := Q } (start N vs) H) :
    FnOk P w K mg base CX (k + 1) f (PySem.W.fnOf name qual params body scope dV kV doc pm an cdv ct) ps sp := by
  refine ⟨len, fun A outer s H args us vs Q E hr e0 hb r hsp => ?_⟩
  have hl := len _ _ _ _ hsp
  have KX : K.In s.heap := e0.mod.kin.keeps fun b o e => (e0.bs b o e).1
  have lim : s.heap.NoLimit := e0.mod.nolimit.keeps fun b o e => (e0.bs b o e).1
  have hkind : ∀ y ∈ ps.zip us, scope.names.lookup y.1 = some .local ∨ (scope.names.lookup y.1 = some .cell ∧ ((cellsFrom (s.heap.objs.size + 1) scope.names []).lookup y.1).isSome = true) := fun ⟨n, v⟩ hy => by
    rcases S.par n (List.of_mem_zip hy).1 with q | q
    · exact .inl q
    · exact .inr ⟨q, PySem.W.cellsFrom_some _ _ _ (.inl q)⟩
  refine codeAny_call_function hr.depth (KX _ _ lk) rfl S.co S.gen rfl (PySem.W.codeRec_of KX hcd) (hb _ _ _ _ ?_)
  refine wpAny_newFunctionEnv_cells S.kind hkind fun env he s1 x => ?_
  subst he
  refine ⟨lim.keeps x.toInCall.keep, codeAny_func ?_⟩
  obtain ⟨t, ht, hq⟩ := hbody A outer s H vs Q E (hr.deeper _) hsp
  have I : Inv (cxOf CX P w K mg base N qual scope f cdv A outer s H E) [] (start N vs) H s1 := inv_start S hr.hd e0 hl r x
  refine wpAny_mono (ht [] s1 (start N vs) H _ I hq) (fun fl s' hs => ?_) fun e s' hs => hs
  have fin : ∀ {σ' : St} {H' : Hp} {v : V} {u : Value}, Inv (cxOf CX P w K mg base N qual scope f cdv A outer s H E) [] σ' H' s' → RelV v u → Q v H' → CE outer P w H s Q u s' :=
    fun {σ' H' v u} J rv q => ⟨v, H', J.os, J.bare, J.base, J.hok, rv, q⟩
  cases fl with
  | ret u =>
    obtain ⟨v, σ', H', J, rv, q⟩ := hs
    exact fin J rv q
  | next =>
    obtain ⟨σ', H', J, q⟩ := hs
    exact fin (v := V.non) (u := Value.none) J rfl q
  | brk =>
    obtain ⟨_, _, _, q⟩ := hs
    exact False.elim q
  | cont =>
    obtain ⟨_, _, _, q⟩ := hs
    exact False.elim q
end L2
namespace L2
open PySem PySem.Spec PyProof.Rows
section
variable {X : Cx} {x : Str} {p pos : Pos} {e : Expr} {es : List Expr} {t : TA} {id T : String} {r : List V → Hp → VK → Prop}
def tCB (r : List V → Hp → VK → Prop) (t : TA) : TE := fun σ H Q => t σ H fun vs H1 => r vs H1 Q
theorem pe_callB (hc : CallR X (.builtin id) r) (hg : Gl X x) (hm : X.mg x = none) (hv : bootBuiltins x = some (.builtin id)) (ha : PA X (e :: es) t) (hn : x ≠ "__name__" := by decide) (hdb : (x == ("__debug__" : Str)) = false := by decide)
    (he : starEach (e :: es) X.env = (false, eval e X.env) :: starEach es X.env := by rfl) (hpl : (backTo pos (starEach es X.env)).any (·.1) = false := by rfl) : PE X (.Call (.Name x p) (e :: es) [] pos) (tCB r t) := by
  intro pins s σ H Q I h
  refine wpAny_Call_Name_kw (ld_blt I hg hm hv ?_ hn hdb)
  exact PyProof.Rows.callWith_builtin1 (thn (ha pos pins s σ H _ I h) fun us s1 ⟨vs, H1, I1, r1, q1⟩ => hc pins s1 σ H1 vs us Q I1 r1 q1) he hpl
theorem pe_callTy (hc : CallR X (.type T) r) (hg : Gl X x) (hm : X.mg x = none) (hv : bootBuiltins x = some (.type T)) (ha : PA X (e :: es) t) (hn : x ≠ "__name__" := by decide) (hdb : (x == ("__debug__" : Str)) = false := by decide)
    (he : starEach (e :: es) X.env = (false, eval e X.env) :: starEach es X.env := by rfl) (hpl : (backTo pos (starEach es X.env)).any (·.1) = false := by rfl) : PE X (.Call (.Name x p) (e :: es) [] pos) (tCB r t) := by
  intro pins s σ H Q I h
  refine wpAny_Call_Name_kw (ld_blt I hg hm hv ?_ hn hdb)
  exact PyProof.Rows.callWith_type1 (thn (ha pos pins s σ H _ I h) fun us s1 ⟨vs, H1, I1, r1, q1⟩ => hc pins s1 σ H1 vs us Q I1 r1 q1) he hpl
end
end L2
namespace HT
open PySem PyProof.Rows
def lexLt : List Int → List Int → Bool
  | [], [] => false
  | [], _ :: _ => true
  | _ :: _, [] => false
  | x :: xs, y :: ys => if x = y then lexLt xs ys else decide (x < y)
theorem lexLt_cons (x y : Int) (xs ys : List Int) : lexLt (x :: xs) (y :: ys) = if x = y then lexLt xs ys else decide (x < y) := rfl
section
open PySem.SeqAt
open PySem.AutoSeq1 (wpAny_loadPart')
open PySem.MeetsSeq PySem.MeetsSeq2 PySem.MeetsSeq3
end
section
variable {prog : Program} {w : World} {A : Around} {E : Value → Shared → Prop} {s : Shared}
def sIx (n d : Nat) : Option Int → Nat
  | none => d
  | some v => if v < 0 then (v + (n : Int)).toNat else min v.toNat n
end
end HT
namespace L2
open PySem PySem.Spec PyProof.Rows
abbrev TO := St → Hp → (Option Int → Hp → Prop) → Prop
def PO (X : Cx) (e : Option Expr) (t : TO) : Prop :=
  ∀ (pins : List (Addr × Obj)) (s : Shared) (σ : St) (H : Hp) (Q : Option Int → Hp → Prop), Inv X pins σ H s → t σ H Q →
    wpAny (model X.prog X.w) X.A (evalPart e X.env) (fun u s' => ∃ o H', Inv X pins σ H' s' ∧ IsPart u o ∧ Q o H') X.xe s
def tNoPart : TO := fun _ H Q => Q none H
def tPart (t : TE) : TO := fun σ H Q => t σ H fun x H1 => ∃ i, x = .int i ∧ Q (some i) H1
theorem intsAre_of {ns : List Int} : ∀ {us : List Value}, Vals (ns.map V.int) us → IntsAre us ns := by
  induction ns with
  | nil => intro us r; rw [List.map_nil] at r; cases r; exact .nil
  | cons n ns ih =>
    intro us r
    rw [List.map_cons] at r
    cases r with
    | cons r1 r2 =>
      obtain ⟨t, e⟩ := r1
      subst e
      exact .cons n t (ih r2)
section
variable {X : Cx} {e : Expr} {te : TE} {lo hi : Option Expr} {tl th : TO} {pos p2 : Pos}
theorem po_none : PO X none tNoPart := by
  intro pins s σ H Q I h
  rw [evalPart_none]
  exact wpAny_pure ⟨none, H, I, .none, h⟩
theorem po_some (h : PE X e te) : PO X (some e) (tPart te) := by
  intro pins s σ H Q I hw
  rw [evalPart_some]
  refine thn (h pins s σ H _ I hw) fun u s1 ⟨x, H1, I1, r1, q1⟩ => ?_
  obtain ⟨i, rfl, q⟩ := q1
  obtain ⟨t, rfl⟩ := r1
  exact ⟨some i, H1, I1, .int i t, q⟩
def SlR (X : Cx) (r : V → Option Int → Option Int → Hp → VK → Prop) : Prop :=
  ∀ (pins : List (Addr × Obj)) (s : Shared) (σ : St) (H : Hp) (x : V) (v vl vu : Value) (lo hi : Option Int) (sl : Addr) (Q : VK), Inv X pins σ H s → RelV x v → s.heap.IsSliceOf sl vl vu .none → IsPart vl lo → IsPart vu hi → r x lo hi H Q →
    ∃ T id, typeLookup (.type T) "__getitem__" = pure (some (.builtin id)) ∧ s.TypeIs v T ∧ wpAny (model X.prog X.w) X.A (getItem v (.ref sl)) (EP X pins σ Q) X.xe s
def tSl (r : V → Option Int → Option Int → Hp → VK → Prop) (te : TE) (tl th : TO) : TE := fun σ H Q => te σ H fun x H1 => tl σ H1 fun l H2 => th σ H2 fun u H3 => r x l u H3 Q
theorem pe_slice {r : V → Option Int → Option Int → Hp → VK → Prop} (hr : SlR X r) (he : PE X e te) (hl : PO X lo tl) (hu : PO X hi th) : PE X (.Subscript e (.Slice lo hi none p2) pos) (tSl r te tl th) := by
  intro pins s σ H Q I h
  refine Subscript_ (thn (he pins s σ H _ I h) fun v s1 ⟨x, H1, I1, r1, q1⟩ => ?_)
  refine wpAny_Slice (thn (hl pins s1 σ H1 _ I1 q1) fun vl s2 ⟨l, H2, I2, pl, q2⟩ => thn (hu pins s2 σ H2 _ I2 q2) fun vu s3 ⟨u, H3, I3, pu, q3⟩ => ?_)
  rw [evalPart_none]
  refine wpAny_pure ?_
  have I4 : Inv X pins σ H3 { s3 with heap := s3.heap.push { cls := .type "slice", data := .fields #[vl, vu, .none] } } := I3.kept (t' := s3.toks) fun b ob q => Heap.get?_push_of_some _ q
  obtain ⟨T, id, hT, ht, hg⟩ := hr pins { s3 with heap := s3.heap.push { cls := .type "slice", data := .fields #[vl, vu, .none] } } σ H3 x v vl vu l u s3.heap.objs.size Q I4 r1 (Heap.IsSliceOf.new ..) pl pu q3
  show wpAny (model X.prog X.w) X.A (subscriptTail e (.Slice lo hi none p2) v (.ref s3.heap.objs.size)) (EP X pins σ Q) X.xe { s3 with heap := s3.heap.push { cls := .type "slice", data := .fields #[vl, vu, .none] } }
  exact tail_any (ops := [.ref s3.heap.objs.size, v]) ht hT hg (by with_unfolding_all rfl)
def cutV (xs : List V) (lo hi : Option Int) : List V := (xs.drop (HT.sIx xs.length 0 lo)).take (HT.sIx xs.length xs.length hi - HT.sIx xs.length 0 lo)
theorem cutV_length (xs : List V) (lo hi : Option Int) : (cutV xs lo hi).length ≤ xs.length := by
  unfold cutV
  rw [List.length_take, List.length_drop]
  omega
def rSlT (K : PySem.W.Frag) : V → Option Int → Option Int → Hp → VK → Prop := fun x lo hi H Q => ∃ a xs, x = .ref a ∧ SqT K H a xs ∧
  ¬ (HT.sIx xs.length 0 lo = 0 ∧ HT.sIx xs.length xs.length hi = xs.length) ∧ ∀ p, H p = none → Q (.ref p) (upd H p (.tup (cutV xs lo hi)))
def rLtT (K : PySem.W.Frag) : R2 := fun x y H Q => ∃ a b ns ms, x = .ref a ∧ y = .ref b ∧ SqT K H a (ns.map V.int) ∧ SqT K H b (ms.map V.int) ∧ Q (.bl (HT.lexLt ns ms)) H
def rCatT (K : PySem.W.Frag) : R2 := fun x y H Q => ∃ a b xs ys, x = .ref a ∧ y = .ref b ∧ SqT K H a xs ∧ SqT K H b ys ∧ xs ≠ [] ∧ xs.length + ys.length ≤ sizeLine ∧
  (ys = [] → Q (.ref a) H) ∧ (ys ≠ [] → ∀ p, H p = none → Q (.ref p) (upd H p (.tup (xs ++ ys))))
end
end L2
namespace L2
open PySem PySem.Spec PyProof.Rows
def ixN (n : Nat) (i : Int) : Option Nat := if 0 ≤ i then (if i < n then some i.toNat else none) else if -(n : Int) ≤ i then some (i + n).toNat else none
def atI {α : Type} (xs : List α) (i : Int) : Option α := (ixN xs.length i).bind fun j => xs[j]?
theorem ixN_seq {n : Nat} {i : Int} {j : Nat} (h : ixN n i = some j) : seqIndex? i n = some j ∧ j < n ∧ -(n : Int) ≤ i ∧ i < n := by
  unfold ixN at h
  by_cases h0 : 0 ≤ i
  · rw [if_pos h0] at h
    by_cases h1 : i < n
    · rw [if_pos h1] at h
      have e : i.toNat = j := Option.some.inj h
      exact ⟨by rw [seqIndex_of h0 h1, e], by omega, by omega, h1⟩
    · rw [if_neg h1] at h; cases h
  · rw [if_neg h0] at h
    by_cases h1 : -(n : Int) ≤ i
    · rw [if_pos h1] at h
      have e : (i + n).toNat = j := Option.some.inj h
      exact ⟨by rw [seqIndex_neg (by omega) h1, e], by omega, h1, by omega⟩
    · rw [if_neg h1] at h; cases h
theorem atI_get {α : Type} {xs : List α} {i : Int} {v : α} (h : atI xs i = some v) : ∃ j, seqIndex? i xs.length = some j ∧ xs[j]? = some v ∧ j < xs.length ∧ -(xs.length : Int) ≤ i ∧ i < xs.length := by
  unfold atI at h
  cases e : ixN xs.length i with
  | none => rw [e] at h; cases h
  | some j =>
    rw [e] at h
    obtain ⟨h1, h2, h3, h4⟩ := ixN_seq e
    exact ⟨j, h1, h, h2, h3, h4⟩
theorem atI_nat {α : Type} {xs : List α} {j : Nat} {v : α} (h : xs[j]? = some v) : atI xs (j : Int) = some v := by
  have hj : j < xs.length := (List.getElem?_eq_some_iff.mp h).1
  have e : ixN xs.length (j : Int) = some j := by
    unfold ixN
    rw [if_pos (by omega), if_pos (by omega)]; simp
  unfold atI; rw [e]; exact h
def PlainIx (b : Expr) : Prop := ∀ o i, subscripted b false o i = operate [o, i] (getItem o i)
def IxR (X : Cx) (r : R2) : Prop :=
  ∀ (value slice : Expr) (pins : List (Addr × Obj)) (s : Shared) (σ : St) (H : Hp) (x y : V) (v u : Value) (Q : VK), Inv X pins σ H s → RelV x v → RelV y u → r x y H Q →
    subscripted slice false v u = operate [v, u] (getItem v u) → wpAny (model X.prog X.w) X.A (subscriptTail value slice v u) (EP X pins σ Q) X.xe s
def MtR (X : Cx) (id : String) (r : V → List V → Hp → VK → Prop) : Prop :=
  ∀ (pins : List (Addr × Obj)) (s : Shared) (σ : St) (H : Hp) (x : V) (xs : List V) (v : Value) (us : List Value) (Q : VK), Inv X pins σ H s → RelV x v → Vals xs us → r x xs H Q →
    wpAny (model X.prog X.w) X.A (call (.builtin id) (v :: us)) (EP X pins σ Q) X.xe s
section
variable {X : Cx} {a b : Expr} {ta tb : TE} {pos : Pos}
theorem pe_ix {r : R2} (hr : IxR X r) (ha : PE X a ta) (hb : PE X b tb) (hs : PlainIx b) : PE X (.Subscript a b pos) (tOp r ta tb) := by
  intro pins s σ H Q I h
  exact Subscript_ (binT ha hb I h fun v u s2 x y H2 I2 rx ry q => hr a b pins s2 σ H2 x y v u Q I2 rx ry q (hs _ _))
def rIxL (K : PySem.W.Frag) : R2 := fun x y H Q => ∃ p xs i v, x = .ref p ∧ y = .int i ∧ SqL K H p xs ∧ atI xs i = some v ∧ Q v H
def rIxT (K : PySem.W.Frag) : R2 := fun x y H Q => ∃ p xs i v, x = .ref p ∧ y = .int i ∧ SqT K H p xs ∧ atI xs i = some v ∧ Q v H
def rIxS : R2 := fun x y H Q => ∃ z i c, x = .str z ∧ y = .int i ∧ z.length ≤ sizeLine ∧ atI z.cps.toList i = some c ∧ Q (.str ⟨#[c]⟩) H
theorem ix_list : IxR X (rIxL X.K) := by
  intro value slice pins s σ H x y v u Q I rx ry h hs
  obtain ⟨p, xs, i, z, rfl, rfl, hq, he, q⟩ := h
  cases rx
  obtain ⟨t, rfl⟩ := ry
  obtain ⟨its, r, pl, hz⟩ := I.list hq
  obtain ⟨j, h1, h2, h3, h4, h5⟩ := atI_get he
  obtain ⟨w, ew, rw'⟩ := r.get h2
  have hl := r.length
  have hn := line63
  have fin : EP X pins σ Q w s := ⟨z, H, I, rw', q⟩
  by_cases h0 : 0 ≤ i
  · have hj : i.toNat = j := by
      rw [seqIndex_of h0 h5] at h1
      exact Option.some.inj h1
    exact item_listR pl.isList h0 (by omega) (by rw [hj]; simpa using ew) fin hs
  · have hj : (i + (its.toArray.size : Int)).toNat = j := by
      rw [seqIndex_neg (by omega) h4] at h1
      rw [List.size_toArray, ← hl]
      exact Option.some.inj h1
    exact subscriptTail_builtinR (x := w) pl.isList.typeIs slot_list_getitem.lookup
      (wpAny_getItem_list_neg (Q := fun r s' => r = w ∧ EP X pins σ Q r s') pl.isList (by omega) (by rw [List.size_toArray] <;> omega) (by omega) (by rw [hj]; simpa using ew) ⟨rfl, fin⟩) hs
def rIx (K : PySem.W.Frag) : R2 := fun x y H Q => rIxL K x y H Q ∨ rIxT K x y H Q ∨ rIxS x y H Q
theorem mapSeq_set (its : List Value) (n j : Nat) (u : Value) : Obj.mapSeq (·.setIfInBounds j u) { cls := .type "list", data := .seq its.toArray n } = { cls := .type "list", data := .seq (its.set j u).toArray n } := by
  simp [Obj.mapSeq]
theorem Inv.lst {pins : List (Addr × Obj)} {σ : St} {H : Hp} {s : Shared} {p : Addr} {xs : List V} (I : Inv X pins σ H s) (h : H p = some (.lst xs)) :
    ∃ (its : List Value) (n : Nat), Vals xs its ∧ s.heap.get? p = some { cls := .type "list", data := .seq its.toArray n } ∧ xs.length ≤ sizeLine := by
  obtain ⟨z, its, n, r, e⟩ := I.hok p _ h
  exact ⟨its, n, r, e, z⟩
theorem Inv.lstUpd {pins : List (Addr × Obj)} {σ : St} {H : Hp} {s : Shared} {p : Addr} {xs ys : List V} {its its' : List Value} {n n' : Nat} {f : Obj → Obj} (I : Inv X pins σ H s) (h : H p = some (.lst xs))
    (ho : s.heap.get? p = some { cls := .type "list", data := .seq its.toArray n }) (hf : f { cls := .type "list", data := .seq its.toArray n } = { cls := .type "list", data := .seq its'.toArray n' }) (r : Vals ys its') (hz : ys.length ≤ sizeLine) (t : Nat) :
    Inv X pins σ (upd H p (.lst ys)) { s with heap := s.heap.update p f, toks := t } := by
  have e : (s.heap.update p f).get? p = some { cls := .type "list", data := .seq its'.toArray n' } := by
    rw [Heap.get?_update_self f ho (by rw [hf] <;> rfl), hf]
  refine I.write (x := p) (e := p) (by rw [h]; trivial) (.inl rfl) (fun b u hb q => (Heap.get?_update_other _ _ (Ne.symm hb)).trans q) ⟨_, e⟩ ?_
  exact ⟨hz, its', n', r, e⟩
def rSetL : V → V → V → Hp → (Hp → Prop) → Prop := fun o i v H Q => ∃ p xs k j, o = .ref p ∧ i = .int k ∧ H p = some (.lst xs) ∧ ixN xs.length k = some j ∧ Q (upd H p (.lst (xs.set j v)))
theorem set_list : PSet X rSetL := by
  intro pins s σ H o i v ov iv u Q I ro ri rv h
  obtain ⟨p, xs, k, j, rfl, rfl, hp, hj, q⟩ := h
  cases ro
  obtain ⟨t, rfl⟩ := ri
  obtain ⟨its, n, r, ho, hz⟩ := I.lst hp
  obtain ⟨h1, h2, h3, h4⟩ := ixN_seq hj
  have hl := r.length
  have hn := line63
  have I' : Inv X pins σ (upd H p (.lst (xs.set j v))) { s with heap := s.heap.update p (Obj.mapSeq (·.setIfInBounds j u)) } :=
    I.lstUpd hp ho (mapSeq_set its n j u) (r.set rv j) (by rw [List.length_set]; exact hz) s.toks
  by_cases h0 : 0 ≤ k
  · have hk : k.toNat = j := by
      rw [seqIndex_of h0 h4] at h1
      exact Option.some.inj h1
    exact PySem.W.ki_setAt ho h0 (by omega) (by rw [List.size_toArray, ← hl]; exact h4) (by rw [hk]; exact ⟨_, I', q⟩)
  · have hk : (k + (its.toArray.size : Int)).toNat = j := by
      rw [seqIndex_neg (by omega) h3] at h1
      rw [List.size_toArray, ← hl]
      exact Option.some.inj h1
    exact PySem.W.ki_setBack ho (by omega) (by rw [List.size_toArray, ← hl]; exact h3) (by omega) (by rw [hk]; exact ⟨_, I', q⟩)
theorem slice_bounds (lo hi : Option Int) (n : Nat) : (sliceBounds lo hi none n).1 = ((HT.sIx n 0 lo : Nat) : Int) ∧ (sliceBounds lo hi none n).2.1 = ((HT.sIx n n hi : Nat) : Int) ∧ (sliceBounds lo hi none n).2.2 = 1 := by
  refine ⟨?_, ?_, rfl⟩
  · cases lo with
    | none => simp [sliceBounds, HT.sIx]
    | some i =>
      simp only [sliceBounds, HT.sIx, Option.getD_none, show (1 : Int) > 0 by decide, if_true]
      by_cases h : i < 0
      · simp only [h, if_true] <;> omega
      · simp only [h, if_false] <;> omega
  · cases hi with
    | none => simp [sliceBounds, HT.sIx]
    | some i =>
      simp only [sliceBounds, HT.sIx, Option.getD_none, show (1 : Int) > 0 by decide, if_true]
      by_cases h : i < 0
      · simp only [h, if_true] <;> omega
      · simp only [h, if_false] <;> omega
theorem slicePick_cut (its : List Value) (lo hi : Option Int) : slicePick its.toArray lo hi none = ((its.drop (HT.sIx its.length 0 lo)).take (HT.sIx its.length its.length hi - HT.sIx its.length 0 lo)).toArray := by
  obtain ⟨h1, h2, h3⟩ := slice_bounds lo hi its.toArray.size
  unfold slicePick
  rw [h1, h2, h3]
  simp only [sliceRange_one, pick_run, List.size_toArray] <;> rfl
def rSlL (K : PySem.W.Frag) : V → Option Int → Option Int → Hp → VK → Prop := fun x lo hi H Q => ∃ a xs, x = .ref a ∧ SqL K H a xs ∧ ∀ p, H p = none → Q (.ref p) (upd H p (.lst (cutV xs lo hi)))
theorem sl_list : SlR X (rSlL X.K) := by
  intro pins s σ H x v vl vu lo hi sl Q I rx hs pl pu h
  obtain ⟨a, xs, rfl, hx, q⟩ := h
  cases rx
  obtain ⟨its, r, ht, hz⟩ := I.list hx
  have hlen := r.length
  refine ⟨"list", _, slot_list_getitem.lookup, ht.isList.typeIs, ?_⟩
  refine wpAny_getItem_list_slice ht.isList hs pl pu .none (by simp) ?_ (by rw [List.size_toArray] <;> omega)
  rw [slicePick_cut, ← hlen]
  refine ⟨.ref s.heap.objs.size, _, I.laid (t' := s.toks) (o := .lst (cutV xs lo hi)) (fun b ob q => Heap.get?_push_of_some _ q) (Nat.le_refl _) ?_, rfl, q _ (I.hok.fresh (Nat.le_refl _))⟩
  exact ⟨Nat.le_trans (cutV_length xs lo hi) hz, _, 0, (r.drop (HT.sIx xs.length 0 lo)).take (HT.sIx xs.length xs.length hi - HT.sIx xs.length 0 lo), Heap.get?_push_size _ rfl⟩
def flatV : V → Bool
  | .non => true
  | .bl _ => true
  | .int _ => true
  | .str _ => true
  | _ => false
def eqV : V → V → Bool
  | .non, .non => true
  | .bl a, .bl b => a == b
  | .bl a, .int b => (if a then 1 else 0) == b
  | .int a, .bl b => a == (if b then 1 else 0)
  | .int a, .int b => a == b
  | .str a, .str b => a == b
  | _, _ => false
theorem eqAt_V {A : Around} {s : Shared} {y x : V} {u v : Value} (ry : RelV y u) (rx : RelV x v) (fy : flatV y = true) (fx : flatV x = true) : SeqAt.EqAt A s u v (eqV y x) := by
  cases y with
  | non =>
    cases ry
    cases x with
    | non => cases rx; exact SeqAt.EqAt.same _
    | bl b => cases rx; exact SeqAt.EqAt.none_bool b
    | int b => obtain ⟨t, rfl⟩ := rx; exact SeqAt.EqAt.none_int b t
    | str b => obtain ⟨t, rfl⟩ := rx; exact SeqAt.EqAt.none_str b t
    | _ => exact absurd (show false = true from fx) Bool.false_ne_true
  | bl a =>
    cases ry
    cases x with
    | non => cases rx; exact SeqAt.EqAt.bool_none a
    | bl b => cases rx; exact SeqAt.EqAt.bool_bool a b
    | int b => obtain ⟨t, rfl⟩ := rx; exact SeqAt.EqAt.bool_int a b t
    | str b => obtain ⟨t, rfl⟩ := rx; exact SeqAt.EqAt.bool_str a b t
    | _ => exact absurd (show false = true from fx) Bool.false_ne_true
  | int a =>
    obtain ⟨t', rfl⟩ := ry
    cases x with
    | non => cases rx; exact SeqAt.EqAt.int_none a t'
    | bl b => cases rx; exact SeqAt.EqAt.int_bool a t' b
    | int b => obtain ⟨t, rfl⟩ := rx; exact SeqAt.EqAt.int_int a t' b t
    | str b => obtain ⟨t, rfl⟩ := rx; exact SeqAt.EqAt.int_str a t' b t
    | _ => exact absurd (show false = true from fx) Bool.false_ne_true
  | str a =>
    obtain ⟨t', rfl⟩ := ry
    cases x with
    | non => cases rx; exact SeqAt.EqAt.str_none a t'
    | bl b => cases rx; exact SeqAt.EqAt.str_bool a t' b
    | int b => obtain ⟨t, rfl⟩ := rx; exact SeqAt.EqAt.str_int a t' b t
    | str b => obtain ⟨t, rfl⟩ := rx; exact SeqAt.EqAt.str_str a t' b t
    | _ => exact absurd (show false = true from fx) Bool.false_ne_true
  | _ => exact absurd (show false = true from fy) Bool.false_ne_true
def eqU (x : V) (u : Value) : Bool := match u with
  | .none => eqV .non x
  | .bool b => eqV (.bl b) x
  | .int i _ => eqV (.int i) x
  | .str z _ => eqV (.str z) x
  | _ => false
theorem eqU_of {x y : V} {u : Value} (r : RelV y u) (f : flatV y = true) : eqU x u = eqV y x := by
  cases y with
  | non => cases r; rfl
  | bl b => cases r; rfl
  | int i => obtain ⟨t, rfl⟩ := r; rfl
  | str z => obtain ⟨t, rfl⟩ := r; rfl
  | _ => exact absurd (show false = true from f) Bool.false_ne_true
theorem any_eqU {x : V} : ∀ {xs : List V} {us : List Value}, Vals xs us → xs.all flatV = true → us.any (eqU x) = xs.any fun y => eqV y x
  | _, _, .nil, _ => rfl
  | y :: xs, u :: us, .cons r t, f => by
    rw [List.all_cons, Bool.and_eq_true] at f
    rw [List.any_cons, List.any_cons, eqU_of r f.1, any_eqU t f.2]
theorem mem_eqAt {A : Around} {s : Shared} {x : V} {v : Value} (rx : RelV x v) (fx : flatV x = true) : ∀ {xs : List V} {us : List Value}, Vals xs us → xs.all flatV = true → ∀ u ∈ us, SeqAt.EqAt A s u v (eqU x u)
  | _, _, .nil, _ => fun u hu => by cases hu
  | y :: xs, u :: us, .cons r t, f => fun u' hu => by
    rw [List.all_cons, Bool.and_eq_true] at f
    rcases List.mem_cons.mp hu with rfl | hu
    · rw [eqU_of r f.1]; exact eqAt_V r rx f.1 fx
    · exact mem_eqAt rx fx t f.2 u' hu
def inV (x : V) (xs : List V) : Bool := xs.any fun y => eqV y x
def rIn (K : PySem.W.Frag) (neg : Bool) : R2 := fun x y H Q => ∃ p xs, y = .ref p ∧ (SqL K H p xs ∨ SqT K H p xs) ∧ flatV x = true ∧ xs.all flatV = true ∧ Q (.bl (if neg then !inV x xs else inV x xs)) H
theorem op_in_seq : OpR X (compareOp .In) (rIn X.K false) := by
  intro pins s σ H x y v u Q I rx ry h
  obtain ⟨p, xs, rfl, hq, fx, fs, q⟩ := h
  cases ry
  rcases hq with hq | hq
  · obtain ⟨its, r, pl, hz⟩ := I.list hq
    refine SeqAt.in_listAt (eqU x) pl.isList (fun w hw => mem_eqAt rx fx r fs w (by simpa using hw)) ⟨.bl _, H, I, rfl, ?_⟩
    rw [show its.toArray.any (eqU x) = its.any (eqU x) by simp, any_eqU r fs]
    exact q
  · obtain ⟨its, r, pl, hz⟩ := I.tuple hq
    refine SeqAt.in_tupleAt (eqU x) pl (fun w hw => mem_eqAt rx fx r fs w (by simpa using hw)) ⟨.bl _, H, I, rfl, ?_⟩
    rw [show its.toArray.any (eqU x) = its.any (eqU x) by simp, any_eqU r fs]
    exact q
theorem op_notIn_seq : OpR X (compareOp .NotIn) (rIn X.K true) := by
  intro pins s σ H x y v u Q I rx ry h
  obtain ⟨p, xs, rfl, hq, fx, fs, q⟩ := h
  cases ry
  rcases hq with hq | hq
  · obtain ⟨its, r, pl, hz⟩ := I.list hq
    refine SeqAt.notIn_listAt (eqU x) pl.isList (fun w hw => mem_eqAt rx fx r fs w (by simpa using hw)) ⟨.bl _, H, I, rfl, ?_⟩
    rw [show its.toArray.any (eqU x) = its.any (eqU x) by simp, any_eqU r fs]
    exact q
  · obtain ⟨its, r, pl, hz⟩ := I.tuple hq
    refine SeqAt.notIn_tupleAt (eqU x) pl (fun w hw => mem_eqAt rx fx r fs w (by simpa using hw)) ⟨.bl _, H, I, rfl, ?_⟩
    rw [show its.toArray.any (eqU x) = its.any (eqU x) by simp, any_eqU r fs]
    exact q
theorem call_list_of : CallR X (.type "list") (fun xs H Q => ∃ p ys, xs = [.ref p] ∧ (SqL X.K H p ys ∨ SqT X.K H p ys) ∧ ∀ l, H l = none → Q (.ref l) (upd H l (.lst ys))) := by
  intro pins s σ H xs us Q I r h
  obtain ⟨p, ys, rfl, hq, q⟩ := h
  obtain ⟨u, rfl, rx⟩ := vals1 r
  cases rx
  have fin : ∀ (its : List Value), Vals ys its → ys.length ≤ sizeLine → ∀ (h' : Heap) (c' : Nat), (∀ b o', s.heap.get? b = some o' → h'.get? b = some o') →
      h'.get? s.heap.objs.size = some { cls := .type "list", dict := none, data := .seq its.toArray c', slots := #[] } → EP X pins σ Q (.ref s.heap.objs.size) { s with heap := h' } := fun its r' hz h' c' kp e =>
    ⟨.ref s.heap.objs.size, _, I.laid (t' := s.toks) kp (Nat.le_refl _) (show ObjOk X.prog X.w _ h' _ (.lst ys) from ⟨hz, its, c', r', e⟩), rfl, q _ (I.hok.fresh (Nat.le_refl _))⟩
  rcases hq with hq | hq
  · obtain ⟨its, r', pl, hz⟩ := I.list hq
    have hlen := r'.length
    obtain ⟨o, ho, hc, n, hd⟩ := pl.isList
    exact call_list_seq p (.inl rfl) ho hc hd (fun h' c' kp e => fin its r' hz h' c' kp e) (by simp only [List.size_toArray] <;> omega)
  · obtain ⟨its, r', pl, hz⟩ := I.tuple hq
    have hlen := r'.length
    obtain ⟨o, ho, hc, n, hd⟩ := pl
    exact call_list_seq p (.inr rfl) ho hc hd (fun h' c' kp e => fin its r' hz h' c' kp e) (by simp only [List.size_toArray] <;> omega)
def tyV (K : PySem.W.Frag) (T : String) (x : V) (H : Hp) : Prop := match x with
  | .str _ => T = "str"
  | .int _ => T = "int"
  | .ref p => (T = "list" ∧ ∃ xs, SqL K H p xs) ∨ (T = "tuple" ∧ ∃ o, K.lookup p = some o ∧ o.cls = .type "tuple" ∧ o.dict = none) ∨
      (T = "dict" ∧ ((∃ kvs, H p = some (.dK kvs)) ∨ ∃ kvs, H p = some (.dT kvs))) ∨ (T = "set" ∧ ∃ S n, H p = some (.set S n))
  | _ => False
theorem tyV_is {pins : List (Addr × Obj)} {σ : St} {H : Hp} {s : Shared} {T : String} {x : V} {v : Value} (I : Inv X pins σ H s) (r : RelV x v) (ty : tyV X.K T x H) :
    s.TypeIs v T ∧ ∀ a, v = .ref a → ∃ ob, s.heap.get? a = some ob ∧ ob.dict = none := by
  cases x with
  | str z =>
    obtain ⟨t, rfl⟩ := r
    cases (show T = "str" from ty)
    exact ⟨typeIs_str s z t, fun _ e => nomatch e⟩
  | int i =>
    obtain ⟨t, rfl⟩ := r
    cases (show T = "int" from ty)
    exact ⟨typeIs_int s i t, fun _ e => nomatch e⟩
  | ref p =>
    cases r
    rcases ty with ⟨rfl, xs, hq⟩ | ⟨rfl, o, hk, hc, hd⟩ | ⟨rfl, hk⟩ | ⟨rfl, S, n, hk⟩
    · obtain ⟨its, _, pl, _⟩ := I.list hq
      refine ⟨pl.isList.typeIs, fun a e => ?_⟩
      cases e
      obtain ⟨o, n, e, c, hd, _⟩ := pl
      exact ⟨o, e, hd⟩
    · refine ⟨⟨o, I.kIn p o hk, hc⟩, fun a e => ?_⟩
      cases e
      exact ⟨o, I.kIn _ o hk, hd⟩
    · have z : ∃ o, s.heap.get? p = some o ∧ o.ExactDict := by
        rcases hk with ⟨kvs, hk⟩ | ⟨kvs, hk⟩
        · obtain ⟨_, _, _, _, o, _, _, e, ex, _⟩ := I.hok p _ hk
          exact ⟨o, e, ex⟩
        · obtain ⟨_, _, _, _, o, _, _, e, ex, _⟩ := I.hok p _ hk
          exact ⟨o, e, ex⟩
      obtain ⟨o, e, ex⟩ := z
      refine ⟨⟨o, e, ex.1⟩, fun a e2 => ?_⟩
      cases e2
      exact ⟨o, e, ex.2.1⟩
    · obtain ⟨o, _, _, _, e, ex, _⟩ := I.hok p _ hk
      refine ⟨⟨o, e, ex.1⟩, fun a e2 => ?_⟩
      cases e2
      exact ⟨o, e, ex.2.1⟩
  | _ => exact False.elim ty
def tBM0 (K : PySem.W.Frag) (T : String) (r : V → List V → Hp → VK → Prop) (to : TE) : TE := fun σ H Q => to σ H fun x H1 => tyV K T x H1 ∧ r x [] H1 Q
def tBM (K : PySem.W.Frag) (T : String) (r : V → List V → Hp → VK → Prop) (to : TE) (t : TA) : TE := fun σ H Q => to σ H fun x H1 => tyV K T x H1 ∧ t σ H1 fun xs H2 => r x xs H2 Q
variable {o e : Expr} {es : List Expr} {to : TE} {t : TA} {name : Str} {apos cpos : Pos} {T id : String} {r : V → List V → Hp → VK → Prop}
theorem pe_bm (pa : PlainAttrs T) (slot : Slot T name id) (hty : typeOf (.builtin id) = pure (.type "method_descriptor")) (hm : MtR X id r) (ho : PE X o to) (ha : PA X (e :: es) t)
    (hbase : attributeBase o name X.env (eval o X.env) = eval o X.env := by rfl)
    (hfew : ((backTo cpos (starEach (e :: es) X.env)).all (fun x => !x.1) && (backToKw cpos (keywordEach [] X.env)).all (fun x => x.1.isSome)
      && decide ((e :: es).length + ([] : List Keyword).length + (if ([] : List Keyword).isEmpty then 0 else 1) < 30)) = true := by rfl)
    (hline : (apos.endLine == cpos.line) = true := by rfl) (hs : starEach (e :: es) X.env = (false, eval e X.env) :: starEach es X.env := by rfl) (hplain : (backTo cpos (starEach es X.env)).any (·.1) = false := by rfl) :
    PE X (.Call (.Attribute o name apos) (e :: es) [] cpos) (tBM X.K T r to t) := by
  intro pins s σ H Q I h
  refine wpAny_Call_method_late hbase hfew hline rfl (thn (ho pins s σ H _ I h) fun v s1 ⟨x, H1, I1, r1, ty, q1⟩ => ?_)
  obtain ⟨h1, h2⟩ := tyV_is I1 r1 ty
  refine ⟨T, id, pa, slot, hty, h1, h2, ?_⟩
  have hA := ha cpos pins s1 σ H1 _ I1 q1
  rw [hs] at hA ⊢
  refine Calls.callWith_builtin (by show (false || (backTo cpos (starEach es X.env)).any (·.1)) = false; rw [hplain] <;> rfl) (Calls.evalArgs_plain ?_)
  exact thn hA fun us s2 ⟨vs, H2, I2, r2, q2⟩ => hm pins s2 σ H2 x vs v us Q I2 r1 r2 q2
/- xs.append(e), list.index on a module's tuple .. are MtR facts of 06m -/
end
end L2
namespace L2
open PySem PySem.Spec PyProof.Rows
def MtM (X : Cx) (id : String) (r : V → List V → Hp → VK → Prop) : Prop :=
  ∀ (pins : List (Addr × Obj)) (s : Shared) (σ : St) (H : Hp) (x : V) (xs : List V) (v : Value) (us : List Value) (Q : VK), Inv X pins σ H s → RelV x v → Vals xs us → r x xs H Q →
    wpAny (model X.prog X.w) X.A (call (.builtin id) (v :: us)) (EP X pins σ Q) X.xe s
theorem Vals.one : ∀ {x : V} {us : List Value}, Vals [x] us → ∃ u, us = [u] ∧ RelV x u
  | _, _, .cons r .nil => ⟨_, rfl, r⟩
theorem Vals.two : ∀ {x y : V} {us : List Value}, Vals [x, y] us → ∃ u v, us = [u, v] ∧ RelV x u ∧ RelV y v
  | _, _, _, .cons r (.cons q .nil) => ⟨_, _, rfl, r, q⟩
theorem Vals.zero : ∀ {us : List Value}, Vals [] us → us = []
  | _, .nil => rfl
theorem Vals.dropLast {xs : List V} {us : List Value} (h : Vals xs us) : Vals xs.dropLast us.dropLast := by
  induction h with
  | nil => exact .nil
  | cons r t ih =>
    cases t with
    | nil => exact .nil
    | cons q t' => exact .cons r ih
theorem Vals.eraseIdx : ∀ {xs : List V} {us : List Value} (i : Nat), Vals xs us → Vals (xs.eraseIdx i) (us.eraseIdx i)
  | _, _, _, .nil => .nil
  | _, _, 0, .cons _ t => t
  | _, _, i + 1, .cons r t => .cons r (Vals.eraseIdx i t)
theorem Vals.reverse {xs : List V} {us : List Value} (h : Vals xs us) : Vals xs.reverse us.reverse := by
  induction h with
  | nil => exact .nil
  | cons r t ih => rw [List.reverse_cons, List.reverse_cons]; exact Vals.append ih (.cons r .nil)
theorem Vals.rep {xs : List V} {us : List Value} (h : Vals xs us) : ∀ k : Nat, Vals (List.replicate k xs).flatten (List.replicate k us).flatten
  | 0 => .nil
  | k + 1 => by
    rw [List.replicate_succ, List.replicate_succ, List.flatten_cons, List.flatten_cons]
    exact Vals.append h (Vals.rep h k)
theorem len_erase {α : Type} : ∀ (l : List α) (i : Nat), (l.eraseIdx i).length ≤ l.length
  | [], _ => Nat.le_refl _
  | _ :: _, 0 => Nat.le_succ _
  | _ :: r, i + 1 => Nat.succ_le_succ (len_erase r i)
section
variable {X : Cx} {pins : List (Addr × Obj)} {σ : St} {H : Hp} {s : Shared} {l b : Addr} {xs ys zs : List V}
theorem Inv.lset {its its' : List Value} {n : Nat} {f : Array Value → Array Value} {t' : Nat} (I : Inv X pins σ H s) (hH : H l = some (.lst xs))
    (e : s.heap.get? l = some { cls := .type "list", data := .seq its.toArray n }) (hf : f its.toArray = its'.toArray) (hv : Vals ys its') (hz : ys.length ≤ sizeLine) :
    Inv X pins σ (upd H l (.lst ys)) { s with heap := s.heap.update l (Obj.mapSeq f), toks := t' } := by
  have q := PySem.IsL.update e f
  rw [hf] at q
  refine I.write (x := l) (e := l) (by rw [hH]; exact trivial) (.inl rfl) (fun b' u hb hu => (Heap.get?_update_other s.heap (Obj.mapSeq f) (Ne.symm hb)).trans hu) ⟨_, q⟩ ?_
  exact ⟨hz, its', _, hv, q⟩
theorem Inv.lnew {its : List Value} {t' : Nat} (I : Inv X pins σ H s) (hv : Vals ys its) (hz : ys.length ≤ sizeLine) :
    Inv X pins σ (upd H s.heap.objs.size (.lst ys)) { s with heap := s.heap.push { cls := .type "list", data := .seq its.toArray }, toks := t' } :=
  I.laid (fun _ _ q => Heap.get?_push_of_some _ q) (Nat.le_refl _) ⟨hz, its, 0, hv, Heap.get?_push_size _ rfl⟩
theorem Inv.fresh (I : Inv X pins σ H s) : H s.heap.objs.size = none := I.hok.fresh (Nat.le_refl _)
theorem Inv.lstM (I : Inv X pins σ H s) (hH : H l = some (.lst xs)) : xs.length ≤ sizeLine ∧ ∃ (its : List Value) (n : Nat), Vals xs its ∧ xs.length = its.length ∧ s.heap.get? l = some { cls := .type "list", data := .seq its.toArray n } := by
  obtain ⟨z, its, n, r, e⟩ := I.hok l _ hH
  exact ⟨z, its, n, r, r.length, e⟩
theorem notLongL {n : Nat} (h : n ≤ sizeLine) : Builtin.List.listTooLong n = false := by
  unfold Builtin.List.listTooLong
  exact decide_eq_false (by omega)
end
section
variable {X : Cx}
def rAppend : V → List V → Hp → VK → Prop := fun x vs H Q => ∃ l xs y, x = .ref l ∧ vs = [y] ∧ H l = some (.lst xs) ∧ xs.length < sizeLine ∧ Q .non (upd H l (.lst (xs ++ [y])))
theorem mt_append : MtM X "list.append" rAppend := by
  intro pins s σ H x vs v us Q I rx rv h
  obtain ⟨l, xs, y, rfl, rfl, hH, hz, q⟩ := h
  cases rx
  obtain ⟨u, rfl, ru⟩ := rv.one
  obtain ⟨z, its, n, r, hl, e⟩ := I.lstM hH
  refine call_meets F.slot_list_append ⟨_, e, rfl⟩ F.entry_list_append (F.args_list_append_2 _ _) (PySem.list_append l its.toArray n u (by rw [List.size_toArray]; omega)) ⟨e, ?_⟩
  refine ⟨.non, _, I.lset (its' := its ++ [u]) hH e (by simp) (r.append (.cons ru .nil)) ?_, rfl, q⟩
  rw [List.length_append, List.length_singleton]
  omega
def rExtend : V → List V → Hp → VK → Prop := fun x vs H Q => ∃ l b xs zs, x = .ref l ∧ vs = [.ref b] ∧ H l = some (.lst xs) ∧ H b = some (.lst zs) ∧ xs.length + zs.length ≤ sizeLine ∧ Q .non (upd H l (.lst (xs ++ zs)))
theorem mt_extend : MtM X "list.extend" rExtend := by
  intro pins s σ H x vs v us Q I rx rv h
  obtain ⟨l, b, xs, zs, rfl, rfl, hH, hB, hz, q⟩ := h
  cases rx
  obtain ⟨u, rfl, ru⟩ := rv.one
  cases ru
  obtain ⟨z, its, n, r, hl, e⟩ := I.lstM hH
  obtain ⟨z2, its2, n2, r2, hl2, e2⟩ := I.lstM hB
  have hsz : its.toArray.size + its2.toArray.size ≤ sizeLine := by rw [List.size_toArray, List.size_toArray]; omega
  have hlong : ¬ (!its.toArray.isEmpty && Builtin.List.listTooLong (its.toArray.size + its2.toArray.size)) = true := by
    rw [notLongL hsz, Bool.and_false]
    exact Bool.false_ne_true
  refine call_meets F.slot_list_extend ⟨_, e, rfl⟩ F.entry_list_extend (F.args_list_extend_2 _ _)
    (AutoSeq1.list_extend_list_list_0 l its.toArray n b its2.toArray n2 hlong (by rw [List.size_toArray]; omega) (by omega)) ⟨e, e2, ?_⟩
  refine ⟨.non, _, I.lset (its' := its ++ its2) hH e (by simp) (r.append r2) ?_, rfl, q⟩
  rw [List.length_append]
  omega
def rPop : V → List V → Hp → VK → Prop := fun x vs H Q => ∃ l xs y, x = .ref l ∧ vs = [] ∧ H l = some (.lst xs) ∧ xs[xs.length - 1]? = some y ∧ Q y (upd H l (.lst xs.dropLast))
def rPopAt : V → List V → Hp → VK → Prop := fun x vs H Q => ∃ l xs i k y, x = .ref l ∧ vs = [.int i] ∧ H l = some (.lst xs) ∧ -(2 ^ 63) ≤ i ∧ i < 2 ^ 63 ∧ seqIndex? i xs.length = some k ∧ xs[k]? = some y ∧ Q y (upd H l (.lst (xs.eraseIdx k)))
theorem mt_popAt : MtM X "list.pop" rPopAt := by
  intro pins s σ H x vs v us Q I rx rv h
  obtain ⟨l, xs, i, k, y, rfl, rfl, hH, h1, h2, hk, hy, q⟩ := h
  cases rx
  obtain ⟨u, rfl, ru⟩ := rv.one
  obtain ⟨t, rfl⟩ := ru
  obtain ⟨z, its, n, r, hl, e⟩ := I.lstM hH
  obtain ⟨w, hw, rw'⟩ := r.get hy
  refine call_meets F.slot_list_pop ⟨_, e, rfl⟩ F.entry_list_pop (F.args_list_pop_2 _ _)
    (MeetsSeq.list_pop_at l its.toArray n i t k w (fitsIndex_both h1 h2) (by rw [List.size_toArray, ← hl]; exact hk) (by rw [← Array.getElem?_toList]; exact hw) (by rw [List.size_toArray]; omega)) ⟨e, ?_⟩
  refine ⟨y, _, I.lset (its' := its.eraseIdx k) hH e ?_ (r.eraseIdx k) ?_, rw', q⟩
  · show its.toArray.eraseIdxIfInBounds k = (its.eraseIdx k).toArray
    rw [List.eraseIdxIfInBounds_toArray]
  · have := len_erase xs k
    omega
def rReverse : V → List V → Hp → VK → Prop := fun x vs H Q => ∃ l xs, x = .ref l ∧ vs = [] ∧ H l = some (.lst xs) ∧ Q .non (upd H l (.lst xs.reverse))
def rClear : V → List V → Hp → VK → Prop := fun x vs H Q => ∃ l xs, x = .ref l ∧ vs = [] ∧ H l = some (.lst xs) ∧ Q .non (upd H l (.lst []))
def rCat : R2 := fun x y H Q => ∃ l b xs zs, x = .ref l ∧ y = .ref b ∧ H l = some (.lst xs) ∧ H b = some (.lst zs) ∧ xs.length + zs.length ≤ sizeLine ∧ ∀ p, H p = none → Q (.ref p) (upd H p (.lst (xs ++ zs)))
theorem op_cat : OpR X (binaryOp .Add) rCat := by
  intro pins s σ H x y v u Q I rx ry h
  obtain ⟨l, b, xs, zs, rfl, rfl, hH, hB, hz, q⟩ := h
  cases rx
  cases ry
  obtain ⟨z, its, n, r, hl, e⟩ := I.lstM hH
  obtain ⟨z2, its2, n2, r2, hl2, e2⟩ := I.lstM hB
  refine PySem.P.add_list e e2 ?_ (by rw [List.size_toArray, List.size_toArray]; omega)
  have ea : its.toArray ++ its2.toArray = (its ++ its2).toArray := by simp
  rw [ea]
  exact ⟨.ref _, _, I.lnew (t' := s.toks) (r.append r2) (by rw [List.length_append]; omega), rfl, q _ I.fresh⟩
def rRep : R2 := fun x y H Q => ∃ l k xs, x = .ref l ∧ y = .int k ∧ H l = some (.lst xs) ∧ -(2 ^ 63) ≤ k ∧ k < 2 ^ 63 ∧ xs.length * k.toNat ≤ sizeLine ∧
  ∀ p, H p = none → Q (.ref p) (upd H p (.lst (List.replicate k.toNat xs).flatten))
end
section
variable {prog : Program} {w : World} {A : Around} {E : Value → Shared → Prop} {s : Shared}
end
section
variable {X : Cx}
end
end L2
namespace L2
open PySem PySem.Spec PyProof.Rows
section
variable {κ : Type} [DecidableEq κ]
def valV (kvs : List (κ × V)) (k : κ) : Option V := (kvs.find? fun kv => decide (kv.1 = k)).map (·.2)
def putK (kvs : List (κ × V)) (k : κ) (v : V) : List (κ × V) :=
  if (kvs.any fun kv => decide (kv.1 = k)) = true then kvs.map (fun kv => if kv.1 = k then (kv.1, v) else kv) else kvs ++ [(k, v)]
def dropK (kvs : List (κ × V)) (k : κ) : List (κ × V) := kvs.filter fun kv => decide (kv.1 ≠ k)
theorem valV_pos {p : κ × V} {r : List (κ × V)} {k : κ} (e : p.1 = k) : valV (p :: r) k = some p.2 := by simp [valV, List.find?_cons, e]
theorem valV_neg {p : κ × V} {r : List (κ × V)} {k : κ} (e : ¬ p.1 = k) : valV (p :: r) k = valV r k := by simp [valV, List.find?_cons, e]
theorem valV_any (k : κ) : ∀ kvs : List (κ × V), (kvs.any fun kv => decide (kv.1 = k)) = (valV kvs k).isSome
  | [] => rfl
  | p :: r => by
    rw [List.any_cons]
    by_cases e : p.1 = k
    · simp only [valV_pos e, decide_eq_true e, Bool.true_or, Option.isSome_some]
    · rw [valV_neg e, decide_eq_false e, Bool.false_or]; exact valV_any k r
theorem length_putK (kvs : List (κ × V)) (k : κ) (v : V) : (putK kvs k v).length ≤ kvs.length + 1 := by
  unfold putK
  split
  · rw [List.length_map]; omega
  · rw [List.length_append, List.length_cons, List.length_nil]; omega
theorem putK_new {kvs : List (κ × V)} {k : κ} (v : V) (h : valV kvs k = none) : putK kvs k v = kvs ++ [(k, v)] := by
  unfold putK
  rw [valV_any, h]
  exact if_neg (by decide)
theorem RelO.isSome_eq {o : Option V} {u : Option Value} (r : RelO o u) : o.isSome = u.isSome := by
  cases o with
  | none => cases u with
    | none => rfl
    | some _ => exact (show False from r).elim
  | some _ => cases u with
    | none => exact (show False from r).elim
    | some _ => rfl
theorem RelO.getD {o : Option V} {u : Option Value} {d : V} {d' : Value} (r : RelO o u) (rd : RelV d d') : RelV (o.getD d) (u.getD d') := by
  cases o with
  | none => cases u with
    | none => exact rd
    | some _ => exact (show False from r).elim
  | some _ => cases u with
    | none => exact (show False from r).elim
    | some _ => exact r
theorem KV.val {kvs : List (κ × V)} {vs : List (κ × Value)} (r : KV kvs vs) (k : κ) : RelO (valV kvs k) (valueAt vs k) := by
  unfold KV at r
  induction r with
  | nil => exact True.intro
  | @cons p q ps qs h t ih =>
    obtain ⟨h1, h2⟩ := h
    by_cases e : p.1 = k
    · have e' : q.1 = k := h1.symm.trans e
      have b : valueAt (q :: qs) k = some q.2 := by simp [valueAt, List.find?_cons, e']
      rw [valV_pos e, b]; exact h2
    · have e' : ¬ q.1 = k := fun z => e (h1.trans z)
      have b : valueAt (q :: qs) k = valueAt qs k := by simp [valueAt, List.find?_cons, e']
      rw [valV_neg e, b]; exact ih
theorem KV.any {kvs : List (κ × V)} {vs : List (κ × Value)} (r : KV kvs vs) (k : κ) : (kvs.any fun kv => decide (kv.1 = k)) = vs.any fun kv => decide (kv.1 = k) := by
  unfold KV at r
  induction r with
  | nil => rfl
  | cons h t ih => rw [List.any_cons, List.any_cons, ih, h.1]
theorem KV.repl {kvs : List (κ × V)} {vs : List (κ × Value)} (r : KV kvs vs) (k : κ) {y : V} {u : Value} (ry : RelV y u) :
    KV (kvs.map fun kv => if kv.1 = k then (kv.1, y) else kv) (vs.map fun kv => if kv.1 = k then (kv.1, u) else kv) := by
  unfold KV at r ⊢
  induction r with
  | nil => exact .nil
  | @cons p q ps qs h t ih =>
    rw [List.map_cons, List.map_cons]
    refine .cons ?_ ih
    obtain ⟨h1, h2⟩ := h
    by_cases e : p.1 = k
    · rw [if_pos e, if_pos (h1.symm.trans e)]; exact ⟨h1, ry⟩
    · rw [if_neg e, if_neg (fun z => e (h1.trans z))]; exact ⟨h1, h2⟩
theorem KV.put {kvs : List (κ × V)} {vs : List (κ × Value)} (r : KV kvs vs) (k : κ) {y : V} {u : Value} (ry : RelV y u) : KV (putK kvs k y) (stored vs k u) := by
  unfold putK stored
  rw [r.any k]
  by_cases e : (vs.any fun kv => decide (kv.1 = k)) = true
  · rw [if_pos e, if_pos e]; exact r.repl k ry
  · rw [if_neg e, if_neg e]; exact Paired.snoc r ⟨rfl, ry⟩
theorem KV.drop {kvs : List (κ × V)} {vs : List (κ × Value)} (r : KV kvs vs) (k : κ) : KV (dropK kvs k) (without vs k) := by
  unfold KV at r ⊢
  unfold dropK without
  induction r with
  | nil => exact .nil
  | @cons p q ps qs h t ih =>
    obtain ⟨h1, h2⟩ := h
    rw [List.filter_cons, List.filter_cons]
    by_cases e : p.1 = k
    · have a : ¬ decide (p.1 ≠ k) = true := by simp [e]
      have b : ¬ decide (q.1 ≠ k) = true := by simp [h1.symm.trans e]
      rw [if_neg a, if_neg b]; exact ih
    · have e' : ¬ q.1 = k := fun z => e (h1.trans z)
      have a : decide (p.1 ≠ k) = true := by simp [e]
      have b : decide (q.1 ≠ k) = true := by simp [e']
      rw [if_pos a, if_pos b]; exact .cons ⟨h1, h2⟩ ih
theorem KV.keys {kvs : List (κ × V)} {vs : List (κ × Value)} (r : KV kvs vs) : kvs.map (·.1) = vs.map (·.1) := by
  unfold KV at r
  induction r with
  | nil => rfl
  | cons h t ih => rw [List.map_cons, List.map_cons, ih, h.1]
theorem KV.length {kvs : List (κ × V)} {vs : List (κ × Value)} (r : KV kvs vs) : kvs.length = vs.length := Paired.length r
end
theorem kV_is {P : Program} {w : World} {k : Key} {u : Value} (r : RelV (kV k) u) : (mixKind P w).is k u = true := by
  cases k with
  | inl i => obtain ⟨t, e⟩ := (show ∃ t, u = Value.int i t from r); subst e; exact mixKind_int P w i t
  | inr x => obtain ⟨t, e⟩ := (show ∃ t, u = Value.str x t from r); subst e; exact mixKind_str P w x t
theorem items_are {P : Program} {w : World} : ∀ {ks : List Key} {us : List Value}, Vals (ks.map kV) us → ItemsAre (mixKind P w) ks us
  | [], _, r => by rw [List.map_nil] at r; cases r; exact .nil
  | k :: ks, _, r => by
    rw [List.map_cons] at r
    cases r with
    | cons h t => exact .cons (kV_is h) (items_are t)
abbrev KT (H : Hp) : List (List Key × V) → List (List Key × Addr × Value) → Prop := Paired fun p q => p.1 = q.1 ∧ H q.2.1 = some (.tup (p.1.map kV)) ∧ RelV p.2 q.2.2
theorem KT.val {H : Hp} {kvs : List (List Key × V)} {xs : List (List Key × Addr × Value)} (r : KT H kvs xs) (k : List Key) : RelO (valV kvs k) ((atKey xs k).map (·.2)) := by
  induction r with
  | nil => exact True.intro
  | @cons p q ps qs h t ih =>
    obtain ⟨h1, _, h2⟩ := h
    by_cases e : p.1 = k
    · have e' : q.1 = k := h1.symm.trans e
      have b : atKey (q :: qs) k = some q.2 := by simp [atKey, List.find?_cons, e']
      rw [valV_pos e, b]; exact h2
    · have e' : ¬ q.1 = k := fun z => e (h1.trans z)
      have b : atKey (q :: qs) k = atKey qs k := by simp [atKey, List.find?_cons, e']
      rw [valV_neg e, b]; exact ih
theorem KT.repl {H : Hp} {kvs : List (List Key × V)} {xs : List (List Key × Addr × Value)} (r : KT H kvs xs) (k : List Key) {y : V} {u : Value} (ry : RelV y u) :
    KT H (kvs.map fun kv => if kv.1 = k then (kv.1, y) else kv) (xs.map (putAt k u)) := by
  induction r with
  | nil => exact .nil
  | @cons p q ps qs h t ih =>
    rw [List.map_cons, List.map_cons]
    refine .cons ?_ ih
    obtain ⟨h1, h2, h3⟩ := h
    unfold putAt
    by_cases e : p.1 = k
    · rw [if_pos e, if_pos (h1.symm.trans e)]; exact ⟨h1, h2, ry⟩
    · rw [if_neg e, if_neg (fun z => e (h1.trans z))]; exact ⟨h1, h2, h3⟩
theorem KT.put {H : Hp} {kvs : List (List Key × V)} {xs : List (List Key × Addr × Value)} (r : KT H kvs xs) (k : List Key) {b : Addr} {y : V} {u : Value} (hb : H b = some (.tup (k.map kV))) (ry : RelV y u) :
    KT H (putK kvs k y) (storedH xs k b u) := by
  have e : (kvs.any fun kv => decide (kv.1 = k)) = (atKey xs k).isSome := by
    rw [valV_any, (r.val k).isSome_eq, Option.isSome_map]
  unfold putK storedH
  rw [e]
  by_cases q : (atKey xs k).isSome = true
  · rw [if_pos q, if_pos q]; exact r.repl k ry
  · rw [if_neg q, if_neg q]; exact Paired.snoc r ⟨rfl, hb, ry⟩
theorem KT.keeps {H H' : Hp} {kvs : List (List Key × V)} {xs : List (List Key × Addr × Value)} (r : KT H kvs xs) (ht : ∀ b ys, H b = some (.tup ys) → H' b = some (.tup ys)) : KT H' kvs xs :=
  Paired.mapP r fun _ _ z => ⟨z.1, ht _ _ z.2.1, z.2.2⟩
section
variable {P : Program} {w : World} {H : Hp} {h : Heap} {a : Addr}
theorem rd_of {u : HO} (ok : HOk P w H h) (e : Rd H a u) : ObjOk P w H h a u := e.ok ok
theorem dk_rd {kvs : List (Key × V)} (ok : HOk P w H h) (e : Rd H a (.dK kvs)) : kvs.length ≤ sizeLine ∧ (a == sysModules) = false ∧ ∃ vs, KV kvs vs ∧ h.DictOf (mixKind P w) a vs :=
  show ObjOk P w H h a (.dK kvs) from rd_of ok e
theorem dk_of {kvs : List (Key × V)} (ok : HOk P w H h) (e : H a = some (.dK kvs)) : kvs.length ≤ sizeLine ∧ (a == sysModules) = false ∧ ∃ vs, KV kvs vs ∧ h.DictOf (mixKind P w) a vs := dk_rd ok (.inl e)
theorem key_of {ks : List Key} (ok : HOk P w H h) (e : H a = some (.tup (ks.map kV))) : (tupleKind (mixKind P w)).is h ks a := by
  obtain ⟨_, its, r, o, h1, h2, n, h3⟩ := (show ObjOk P w H h a (.tup (ks.map kV)) from ok a _ e)
  exact ⟨o, its.toArray, n, h1, h2, h3, by simpa using items_are r⟩
theorem dt_rd {kvs : List (List Key × V)} (ok : HOk P w H h) (e : Rd H a (.dT kvs)) : kvs.length ≤ sizeLine ∧ (a == sysModules) = false ∧
    ∃ xs, KT H kvs xs ∧ h.DictOfH (tupleKind (mixKind P w)) a xs := by
  obtain ⟨z, y, xs, r, o, es, ep, h1, h2, h3, h4, h5⟩ := (show ObjOk P w H h a (.dT kvs) from rd_of ok e)
  refine ⟨z, y, xs, r, o, es, ep, h1, h2, h3, h4, fun x hx => ?_, h5⟩
  have all : ∀ {l : List (List Key × V)} {m : List (List Key × Addr × Value)}, KT H l m → ∀ x ∈ m, (tupleKind (mixKind P w)).is h x.1 x.2.1 := by
    intro l m q
    induction q with
    | nil => intro x hx; exact nomatch hx
    | @cons p q ps qs hq t ih =>
      intro x hx
      rcases List.mem_cons.mp hx with e | hx
      · subst e
        exact key_of ok (by rw [← hq.1]; exact hq.2.1)
      · exact ih x hx
  exact all r x hx
theorem dt_of {kvs : List (List Key × V)} (ok : HOk P w H h) (e : H a = some (.dT kvs)) : kvs.length ≤ sizeLine ∧ (a == sysModules) = false ∧
    ∃ xs, KT H kvs xs ∧ h.DictOfH (tupleKind (mixKind P w)) a xs := dt_rd ok (.inl e)
end
def DGet (H : Hp) (a : Addr) (y : V) (r : Option V) : Prop :=
  (∃ kvs k, Rd H a (.dK kvs) ∧ y = kV k ∧ r = valV kvs k) ∨ ∃ kvs k b, Rd H a (.dT kvs) ∧ y = .ref b ∧ H b = some (.tup (k.map kV)) ∧ r = valV kvs k
def DPut (H : Hp) (a : Addr) (y v : V) (H' : Hp) : Prop :=
  (∃ kvs k, H a = some (.dK kvs) ∧ y = kV k ∧ kvs.length < sizeLine ∧ H' = upd H a (.dK (putK kvs k v))) ∨
  ∃ kvs k b, H a = some (.dT kvs) ∧ y = .ref b ∧ H b = some (.tup (k.map kV)) ∧ kvs.length < sizeLine ∧ H' = upd H a (.dT (putK kvs k v))
theorem DGet.k {H : Hp} {a : Addr} {kvs : List (Key × V)} {k : Key} (e : H a = some (.dK kvs)) : DGet H a (kV k) (valV kvs k) := .inl ⟨kvs, k, .inl e, rfl, rfl⟩
theorem DGet.t {H : Hp} {a b : Addr} {kvs : List (List Key × V)} {k : List Key} (e : H a = some (.dT kvs)) (eb : H b = some (.tup (k.map kV))) : DGet H a (.ref b) (valV kvs k) := .inr ⟨kvs, k, b, .inl e, rfl, eb, rfl⟩
theorem DPut.k {H : Hp} {a : Addr} {kvs : List (Key × V)} {k : Key} {v : V} (e : H a = some (.dK kvs)) (hl : kvs.length < sizeLine) : DPut H a (kV k) v (upd H a (.dK (putK kvs k v))) := .inl ⟨kvs, k, e, rfl, hl, rfl⟩
theorem DPut.t {H : Hp} {a b : Addr} {kvs : List (List Key × V)} {k : List Key} {v : V} (e : H a = some (.dT kvs)) (eb : H b = some (.tup (k.map kV))) (hl : kvs.length < sizeLine) :
    DPut H a (.ref b) v (upd H a (.dT (putK kvs k v))) := .inr ⟨kvs, k, b, e, rfl, eb, hl, rfl⟩
section
variable {X : Cx} {pins : List (Addr × Obj)} {σ : St} {H : Hp} {s : Shared} {a : Addr} {y v : V} {u r : Value} {o : Option V} {A : Around} {E : Value → Shared → Prop}
theorem Inv.big (I : Inv X pins σ H s) : sysModules < s.heap.objs.size := by
  have h : mainGlobals < s.heap.objs.size := (I.mod.glob.keeps I.bk).lt
  exact Nat.lt_trans (by decide) h
theorem d_notIn {Q : Value → Shared → Prop} (hu : A.units + 1 < cLine) (I : Inv X pins σ H s) (g : DGet H a y o) (ry : RelV y u) (h : ∀ s', Inv X pins σ H s' → Q (.bool (!o.isSome)) s') :
    wpAny (model X.prog X.w) A (compareOp .NotIn u (.ref a)) Q E s := by
  rcases g with ⟨kvs, k, e, ey, l⟩ | ⟨kvs, k, b, e, ey, eb, l⟩
  · subst ey
    obtain ⟨z, hd, vs, rel, dd⟩ := dk_rd I.hok e
    refine wpAny_notIn_of (kV_is ry) hd dd.mapOf ?_
    rw [← (rel.val k).isSome_eq, ← l]
    exact h _ (I.tok _)
  · subst ey
    cases (show u = Value.ref b from ry)
    obtain ⟨z, hd, xs, rel, dd⟩ := dt_rd I.hok e
    refine wpAny_notIn_heap (tupleKind_room_in1 hu) (key_of I.hok eb) hd dd ?_
    have q := (rel.val k).isSome_eq
    rw [Option.isSome_map] at q
    rw [← q, ← l]
    exact h _ (I.tok _)
theorem d_write {h' : Heap} {t' : Nat} {ob : HO} (I : Inv X pins σ H s) (mu : Mut (H a)) (hs : Heap.SameBut a s.heap h') (he : ∃ q, h'.get? a = some q) (new : ObjOk X.prog X.w (upd H a ob) h' a ob) :
    Inv X pins σ (upd H a ob) { s with heap := h', toks := t' } :=
  I.write (x := a) (e := a) mu (.inl rfl) (fun b q hb z => (hs.2 b hb).trans z) he new
theorem dk_new {P : Program} {w : World} {H' : Hp} {h' : Heap} {kvs : List (Key × V)} {vs : List (Key × Value)} (z : kvs.length ≤ sizeLine) (hd : (a == sysModules) = false) (rel : KV kvs vs) (dd : h'.DictOf (mixKind P w) a vs) :
    ObjOk P w H' h' a (.dK kvs) := ⟨z, hd, vs, rel, dd⟩
theorem d_setItem {H' : Hp} {Q : Unit → Shared → Prop} (hu : A.units + 1 < cLine) (I : Inv X pins σ H s) (g : DPut H a y v H') (ry : RelV y u) (rv : RelV v r) (h : ∀ s', Inv X pins σ H' s' → Q () s') :
    wpAny (model X.prog X.w) A (setItem (.ref a) u r) Q E s := by
  rcases g with ⟨kvs, k, e, ey, l, eH⟩ | ⟨kvs, k, b, e, ey, eb, l, eH⟩
  · subst ey eH
    obtain ⟨z, hd, vs, rel, dd⟩ := dk_of I.hok e
    have hz : vs.length ≤ sizeLine := by rw [← rel.length]; exact z
    have hl : (putK kvs k v).length ≤ sizeLine := by have := length_putK kvs k v; omega
    refine wpAny_setItem_pairs (hsz := hz) (kV_is ry) dd fun h' dd' hs => h _ ?_
    have he : ∃ q, h'.get? a = some q := let ⟨q, _, _, hq, _⟩ := dd'; ⟨q, hq⟩
    exact d_write I (by rw [e]; exact True.intro) hs he (dk_new hl hd (rel.put k rv) dd')
  · subst ey eH
    cases (show u = Value.ref b from ry)
    obtain ⟨z, hd, xs, rel, dd⟩ := dt_of I.hok e
    have hz : xs.length ≤ sizeLine := by rw [← Paired.length rel]; exact z
    have hl : (putK kvs k v).length ≤ sizeLine := by have := length_putK kvs k v; omega
    refine wpAny_setItem_heap (hsz := hz) (tupleKind_room_in1 hu) (key_of I.hok eb) dd fun h' dd' hs => h _ ?_
    obtain ⟨q, es, ep, hq, h2, h3, h4, _, h5⟩ := dd'
    refine d_write I (by rw [e]; exact True.intro) hs ⟨q, hq⟩ ⟨hl, hd, _, (rel.put k eb rv).keeps fun c ys ec => ?_, q, es, ep, hq, h2, h3, h4, h5⟩
    rw [upd_ne (ne_of ec e (fun z => nomatch z))]
    exact ec
end
section
variable {X : Cx} {pins : List (Addr × Obj)} {σ : St} {H : Hp} {s : Shared} {a : Addr} {kvs : List (Key × V)} {k : Key} {u : Value} {A : Around} {E : Value → Shared → Prop}
end
def NoSl (i : Expr) : Prop := ∀ ov iv, subscripted i false ov iv = operate [ov, iv] (getItem ov iv)
def tDGet (td ty : TE) : TE := fun σ H Q => td σ H fun x H1 => ty σ H1 fun y H2 => ∃ a v, x = .ref a ∧ DGet H2 a y (some v) ∧ Q v H2
def tDIn (ty td : TE) : TE := fun σ H Q => ty σ H fun y H1 => td σ H1 fun x H2 => ∃ a o, x = .ref a ∧ DGet H2 a y o ∧ Q (.bl o.isSome) H2
def tDNotIn (ty td : TE) : TE := fun σ H Q => ty σ H fun y H1 => td σ H1 fun x H2 => ∃ a o, x = .ref a ∧ DGet H2 a y o ∧ Q (.bl (!o.isSome)) H2
def sDPut (td ty tv : TE) : TS := fun D σ H => tv σ H fun v H1 => td σ H1 fun x H2 => ty σ H2 fun y H3 => ∃ a H4, x = .ref a ∧ DPut H3 a y v H4 ∧ D.nx σ H4
def sDAug (td ty tv : TE) (rd : V → V → Hp → VK → Prop) : TS := fun D σ H => td σ H fun x H1 => ty σ H1 fun y H2 => ∃ a v, x = .ref a ∧ DGet H2 a y (some v) ∧
  tv σ H2 fun y2 H3 => rd v y2 H3 fun z H4 => ∃ H5, DPut H4 a y z H5 ∧ D.nx σ H5
def sDDel (td ty : TE) : TS := fun D σ H => td σ H fun x H1 => ty σ H1 fun y H2 => ∃ a kvs k, x = .ref a ∧ H2 a = some (.dK kvs) ∧ y = kV k ∧ (valV kvs k).isSome = true ∧ D.nx σ (upd H2 a (.dK (dropK kvs k)))
section
variable {X : Cx} {o i e value : Expr} {pos pos' tpos : Pos} {td ty tv : TE}
theorem pc_dnotin (hu : X.A.units + 1 < cLine) (hi : PE X i ty) (ho : PE X o td) : PC X .NotIn i o (tDNotIn ty td) := by
  intro pins s σ H Q I h
  refine thn (hi pins s σ H _ I h) fun iv s1 ⟨y, H1, I1, ry, q1⟩ => thn (ho pins s1 σ H1 _ I1 q1) fun u s2 ⟨x, H2, I2, rx, a, ov, ex, g, q2⟩ => ?_
  subst ex
  obtain rfl : u = Value.ref a := rx
  exact d_notIn hu I2 g ry fun s3 I3 => ⟨.bl (!ov.isSome), H2, I3, rfl, q2⟩
theorem ps_dput (hu : X.A.units + 1 < cLine) (ho : PE X o td) (hi : PE X i ty) (hv : PE X value tv) (hs : swapsWith value (some (.Subscript o i pos')) pos.line X.env = pure false) :
    PS X (.Assign [.Subscript o i pos'] value pos) (sDPut td ty tv) := by
  intro pins s σ H D I h
  refine wpAny_Assign_Subscript (thn (hv pins s σ H _ I h) fun r s1 ⟨v, H1, I1, rv, q1⟩ => thn (ho pins s1 σ H1 _ I1 q1) fun u s2 ⟨x, H2, I2, rx, q2⟩ => thn (hi pins s2 σ H2 _ I2 q2) fun iv s3 ⟨y, H3, I3, ry, a, H4, ex, g, q3⟩ => ?_) hs
  subst ex
  obtain rfl : u = Value.ref a := rx
  exact d_setItem hu I3 g ry rv fun s4 I4 => ⟨σ, H4, I4, q3⟩
end
theorem dt_empty {P : Program} {w : World} {H : Hp} (h : Heap) (hb : sysModules < h.objs.size) : ObjOk P w H (h.push { cls := .type "dict", data := .dict #[] }) h.objs.size (.dT []) :=
  ⟨Nat.zero_le _, beq_eq_false_iff_ne.mpr (Ne.symm (Nat.ne_of_lt hb)), [], .nil, _, #[], 0, Heap.get?_push_size _ rfl, ⟨rfl, rfl, rfl⟩, rfl, rfl, List.nodup_nil⟩
def tDNewK : TE := fun _ H Q => ∀ p, H p = none → Q (.ref p) (upd H p (.dK []))
def tDNewT : TE := fun _ H Q => ∀ p, H p = none → Q (.ref p) (upd H p (.dT []))
section
variable {X : Cx} {pos : Pos}
theorem pe_dnewT : PE X (.Dict [] [] pos) tDNewT := fun pins s σ H Q I h =>
  wpAny_Dict_empty ⟨.ref s.heap.objs.size, _, I.laid (a := s.heap.objs.size) (o := .dT []) (t' := s.toks) (fun _ _ q => Heap.get?_push_of_some _ q) (Nat.le_refl _) (dt_empty s.heap I.big), rfl, h _ (I.hok.fresh (Nat.le_refl _))⟩
end
def tPairs : List (TE × TE) → St → Hp → (List (V × V) → Hp → Prop) → Prop
  | [], _, H, Q => Q [] H
  | (tk, tv) :: r, σ, H, Q => tk σ H fun x H1 => tv σ H1 fun y H2 => tPairs r σ H2 fun ps H3 => Q ((x, y) :: ps) H3
abbrev VV : List (V × V) → List (Value × Value) → Prop := Paired fun p q => RelV p.1 q.1 ∧ RelV p.2 q.2
def PPs (X : Cx) (pos : Pos) (keys : List (Option Expr)) (values : List Expr) (trs : List (TE × TE)) : Prop :=
  ∀ (pins : List (Addr × Obj)) (s : Shared) (σ : St) (H : Hp) (Q : List (V × V) → Hp → Prop), Inv X pins σ H s → tPairs trs σ H Q →
    wpAny (model X.prog X.w) X.A (evalPairs (pairTrees keys values X.env pos)) (fun vs s' => ∃ ps H', Inv X pins σ H' s' ∧ VV ps vs ∧ Q ps H') X.xe s
def mergeK (kvs more : List (Key × V)) : List (Key × V) := more.foldl (fun acc kv => putK acc kv.1 kv.2) kvs
def tDisp (trs : List (TE × TE)) : TE := fun σ H Q => ∀ p, H p = none → tPairs trs σ (upd H p (.dK [])) fun ps H2 => H2 p = some (.dK []) ∧ ∃ kvs : List (Key × V), ps = kvs.map (fun kv => (kV kv.1, kv.2)) ∧ kvs.length ≤ 15 ∧ Q (.ref p) (upd H2 p (.dK (mergeK [] kvs)))
structure M1 (X : Cx) (o : Expr) (m : Str) (apos : Pos) (e : Expr) (cpos : Pos) : Prop where
  base : attributeBase o m X.env (eval o X.env) = eval o X.env
  few : ((backTo cpos (starEach [e] X.env)).all (fun x => !x.1) && (backToKw cpos (keywordEach [] X.env)).all (fun x => x.1.isSome)
    && decide (([e] : List Expr).length + ([] : List Keyword).length + (if ([] : List Keyword).isEmpty then 0 else 1) < 30)) = true
  line : (apos.endLine == cpos.line) = true
  trees : backTo cpos (starEach [e] X.env) = [(false, eval e X.env)]
structure M2 (X : Cx) (o : Expr) (m : Str) (apos : Pos) (e f : Expr) (cpos : Pos) : Prop where
  base : attributeBase o m X.env (eval o X.env) = eval o X.env
  few : ((backTo cpos (starEach [e, f] X.env)).all (fun x => !x.1) && (backToKw cpos (keywordEach [] X.env)).all (fun x => x.1.isSome)
    && decide (([e, f] : List Expr).length + ([] : List Keyword).length + (if ([] : List Keyword).isEmpty then 0 else 1) < 30)) = true
  line : (apos.endLine == cpos.line) = true
  trees : backTo cpos (starEach [e, f] X.env) = [(false, eval e X.env), (false, eval f X.env)]
def IsD (H : Hp) (a : Addr) : Prop := (∃ kvs, Rd H a (.dK kvs)) ∨ ∃ kvs, Rd H a (.dT kvs)
section
variable {X : Cx} {pins : List (Addr × Obj)} {σ : St} {H : Hp} {s : Shared} {a : Addr} {y d : V} {u r : Value} {o : Option V} {A : Around} {E : Value → Shared → Prop}
end
def tDGet1 (td ty : TE) : TE := fun σ H Q => td σ H fun x H1 => ∃ a, x = .ref a ∧ IsD H1 a ∧ ty σ H1 fun y H2 => ∃ o, DGet H2 a y o ∧ Q (o.getD .non) H2
def tDGet2 (td ty tx : TE) : TE := fun σ H Q => td σ H fun x H1 => ∃ a, x = .ref a ∧ IsD H1 a ∧ ty σ H1 fun y H2 => tx σ H2 fun z H3 => ∃ o, DGet H3 a y o ∧ Q (o.getD z) H3
def tDPop1 (td ty : TE) : TE := fun σ H Q => td σ H fun x H1 => ∃ a, x = .ref a ∧ IsD H1 a ∧ ty σ H1 fun y H2 => ∃ kvs k v, H2 a = some (.dK kvs) ∧ y = kV k ∧ valV kvs k = some v ∧ Q v (upd H2 a (.dK (dropK kvs k)))
def tDPop2 (td ty tx : TE) : TE := fun σ H Q => td σ H fun x H1 => ∃ a, x = .ref a ∧ IsD H1 a ∧ ty σ H1 fun y H2 => tx σ H2 fun z H3 => ∃ kvs k, H3 a = some (.dK kvs) ∧ y = kV k ∧
  (∀ v, valV kvs k = some v → Q v (upd H3 a (.dK (dropK kvs k)))) ∧ (valV kvs k = none → Q z H3)
section
variable {X : Cx} {o e f : Expr} {apos cpos : Pos} {td ty tx : TE}
end
section
variable {X : Cx} {pins : List (Addr × Obj)} {σ : St} {H : Hp} {s : Shared} {a : Addr} {kvs : List (Key × V)} {A : Around} {E : Value → Shared → Prop}
end
section
variable {X : Cx} {pins : List (Addr × Obj)} {σ : St} {H : Hp} {s : Shared} {a : Addr} {y : V} {u : Value} {A : Around} {E : Value → Shared → Prop}
end
end L2
namespace Att
open PySem PySem.W PySem.Calls PyProof.Rows
theorem ints_of_wellAll {P : Params} {h : Heap} : ∀ (ns : List Int) (vs : List Value), WellAll P h vs (ns.map WData.int) → IntsAre vs ns := by
  intro ns
  induction ns with
  | nil =>
    intro vs w
    rw [List.map_nil] at w
    cases w
    exact .nil
  | cons n ns ih =>
    intro vs w
    rw [List.map_cons] at w
    cases w with
    | cons a b =>
      cases a
      exact .cons _ _ (ih _ b)
theorem script_of {l : OpenLaw} {n : Nat} (hn : l.most = some n) {P : Params} {h : Heap} {args : List WData} {vals : List Value}
    (hpre : l.row.toRowW.claim.pre args = true) (hwl : WellAll P h vals args) :
    ∃ a vs ns, vals = [Value.ref a] ∧ args = [WData.list (ns.map WData.int)] ∧ h.get? a = some { cls := .type "list", data := .seq vs.toArray } ∧ IntsAre vs ns ∧ ns.length ≤ n := by
  have hsh : WShape.hasAll [] args [.list .int] = true := (pre_splitW hpre).1
  have hc : l.pre.holds [] { args := args } = true := (pre_splitW hpre).2
  obtain ⟨d, r, rfl, h1, h2⟩ := hasAllW_cons hsh
  obtain rfl := hasAllW_nil h2
  obtain ⟨xs, rfl, h3⟩ := hasW_list h1
  obtain ⟨ns, rfl⟩ := items_int h3
  have hlen : ns.length ≤ n := by
    unfold OpenLaw.pre at hc
    have h4 : (WTm.not (.lt (.lit (.int (n : Int))) (.len (.arg 0)))).holds [] { args := [.list (ns.map .int)] } = true := by
      have h4 := (holds_andW hc).1
      rw [hn] at h4
      exact h4
    have h5 := condW_of h4 (w_not (w_lt w_lit (w_len_list (w_arg rfl))))
    rw [List.length_map] at h5
    refine Nat.le_of_not_lt fun q => ?_
    have q' : (n : Int) < ((ns.length : Nat) : Int) := by omega
    first
      | (rw [decide_eq_true q'] at h5; exact absurd h5 (by decide))
      | (simp at h5; omega)
  cases hwl with
  | cons w1 w2 =>
    cases w2
    cases w1 with
    | list ho hall => exact ⟨_, _, ns, rfl, rfl, ho, ints_of_wellAll ns _ hall, hlen⟩
theorem post_true (l : OpenLaw) (args : List WData) : l.row.toRowW.claim.post args (.bool true) args = true :=
  postW_of (r := l.row.toRowW) (X := (true == true))
    (show WShape.has [] (.bool true) .bool = true by first | rfl | decide | simp [WShape.has, WShape.arms, WShape.armsAll])
    (show (WTm.eq .res (.lit (.bool true))).value [] { args := args, res := some (.bool true), after := args } = some (.bool (true == true)) from w_eq_bool (w_res rfl) w_lit) rfl
theorem attach_call {l : OpenLaw} {n : Nat} {q : Program} {loose : List Str} {XP : (Str → Option Value) → Heap → Prop} {YP : World → Heap → Prop} {d : DefRec}
    (hn : l.most = some n) (hdf : d.params.defaults = [])
    (call : ∀ (w : World) (s₀ s₁ : Shared) (mg mb : Str → Option Value) (fa : Addr) (o : Obj) (pm cd doc : Value) (a : Addr) (vs : List Value) (ns : List Int),
      Ground q loose [] XP w s₀ mg mb s₁.heap → YP w s₁.heap →
      s₁.heap.get? fa = some o → o.data = .func (docDef d.name d.params d.body d.scope pm cd doc) → s₁.heap.CodeRec cd d.name → mg d.name = some (.ref fa) →
      s₁.heap.get? a = some { cls := .type "list", data := .seq vs.toArray } → IntsAre vs ns → ns.length ≤ n → s₁.gens = #[] →
      codeAny (model l.prog w) callerA (.call (.ref fa) ⟨[.ref a], []⟩) (fun r s' => r = .ok (.ret (.bool true)) ∧ OldK s₁.heap s'.heap ∧ s'.os = s₁.os ∧ AllBare s'.gens) s₁) :
    WalkO q loose XP YP l.row.toRowW d [] (fun f vs => PySem.call f vs) := by
  intro w s₀ s₁ mg mb G Y fa o pm cd doc dV kV ho hd hcd hD hmg hg args vals as hpre hlay hrd hwl hlo
  obtain rfl : dV = .none := Dflts.none hD hdf
  obtain rfl : kV = .none := Dflts.noKw hD
  obtain ⟨a, vs, ns, rfl, rfl, hobj, hints, hlen⟩ := script_of hn hpre hwl
  refine enter_call (codeAny_mono (call w s₀ s₁ mg mb fa o pm cd doc a vs ns G Y ho (fd_plain hd) hcd hmg hobj hints hlen hg) fun r s' hq => ?_)
  obtain ⟨rfl, h2, h3, h4⟩ := hq
  exact ⟨.inl ⟨.bool true, .bool true, [], rfl, fun _ => rfl, .bool true, post_true l _, fun _ => ⟨List.Pairwise.nil, fun _ hm => (nomatch hm)⟩⟩, h2, h3, h4⟩
section
variable {prog : Program} {w : World} {A : Around} {E : Value → Shared → Prop} {s : Shared} {K : Frag}
def noObjs (h : Heap) : Heap := { h with objs := #[] }
def ledger (h : Heap) (L d : Addr) : List (Addr × Obj) := (List.range h.objs.size).filterMap fun a => if a = L ∨ a = d then none else (h.get? a).map fun o => (a, o)
end
end Att
namespace L2
open PySem PySem.Spec PyProof.Rows
theorem vals_ints : ∀ {vs : List Value} {ns : List Int}, IntsAre vs ns → Vals (ns.map V.int) vs
  | _, _, .nil => .nil
  | _, _, .cons n t h => .cons ⟨t, rfl⟩ (vals_ints h)
def Only (H : Hp) : Prop := ∀ b, H b = none ∨ ∃ o xs, H b = some (.frz o (.lst xs))
theorem law_call {P : Program} {w : World} {K : PySem.W.Frag} {mg mb : Str → Option Value} {CX : CXT} {k : Nat} {fa a : Addr} {fd : FuncData} {x : Str} {sp : Sp} {s₁ : Shared} {vs : List Value} {ns : List Int}
    (KX : K.In s₁.heap) (hns : s₁.heap.Ns mainGlobals mg) (hb : s₁.heap.Ns builtinsNs mb) (hbb : ∀ x : Str, x ≠ "__name__" → mb x = bootBuiltins x) (hlim : s₁.heap.NoLimit) (hg : s₁.gens = #[])
    (ha : s₁.heap.get? a = some { cls := .type "list", data := .seq vs.toArray }) (hi : IntsAre vs ns) (hl : ns.length ≤ sizeLine) (hr : Room k callerA)
    (F : ∀ base : Heap, K.In base → base.Ns mainGlobals mg → FnOk P w K mg base CX k fa fd [x] sp) (hbind : ∀ (s : Shared) (u : Value), BindsTo s fd ⟨[u], []⟩ [(x, u)])
    (hsp : ∀ H : Hp, Only H → SqL K H a (ns.map V.int) → sp [.ref a] H (fun v _ => v = .bl true) fun _ _ _ => False)
    (hCX : ∀ H e s', CX [] H s₁ (fun _ _ _ => False) e s' → False) :
    codeAny (model P w) callerA (.call (.ref fa) ⟨[.ref a], []⟩) (fun r s' => r = .ok (.ret (.bool true)) ∧ OldK s₁.heap s'.heap ∧ s'.os = s₁.os ∧ AllBare s'.gens) s₁ := by
  have rv := vals_ints hi
  have lenV := hi.length
  -- from an abstract heap in which nothing but the script may be tracked
  have core : ∀ H : Hp, Only H → SqL K H a (ns.map V.int) → HOk P w H s₁.heap → (∀ b, H b ≠ none → b = a) → (H a ≠ none → K.lookup a = none) →
      codeAny (model P w) callerA (.call (.ref fa) ⟨[.ref a], []⟩) (fun r s' => r = .ok (.ret (.bool true)) ∧ OldK s₁.heap s'.heap ∧ s'.os = s₁.os ∧ AllBare s'.gens) s₁ := by
    intro H hO hS hok hA hK
    have base_of : ∀ {b : Addr} {o : Obj}, s₁.heap.get? b = some o → H b = none → (hidT s₁.heap H).get? b = some o := fun e n => hidT_get e n
    have noA : ∀ {b : Addr} {o : Obj} {es : Array DictEntry} {ep : Nat}, s₁.heap.get? b = some o → o.data = .dict es ep → H b = none := fun {b o es ep} e d => by
      cases q : H b with
      | none => rfl
      | some u =>
        have e' : b = a := hA b (by rw [q]; simp)
        subst e'
        rw [ha] at e; cases e
        have d' : Data.seq vs.toArray _ = Data.dict es ep := d
        cases d'
    have nsK : ∀ {b : Addr} {m : Str → Option Value}, s₁.heap.Ns b m → (hidT s₁.heap H).Ns b m := fun {b m} ⟨o, es, ep, e, d, r⟩ => ⟨o, es, ep, base_of e (noA e d), d, r⟩
    have hKb : K.In (hidT s₁.heap H) := fun b o e => base_of (KX b o e) (by
      cases q : H b with
      | none => rfl
      | some u =>
        have e' : b = a := hA b (by rw [q]; simp)
        subst e'
        rw [hK (by rw [q]; simp)] at e; cases e)
    have hM : Mod K mg (hidT s₁.heap H) := ⟨hKb, nsK hns, ⟨mb, nsK hb, hbb⟩, let ⟨mc, h1, h2⟩ := hlim; ⟨mc, nsK h1, h2⟩⟩
    have e0 : Env0 P w K mg (hidT s₁.heap H) callerA [] s₁ H := ⟨rfl, hM, fun b o e => of_hidT e, Nat.le_of_eq (hidT_size _ _), trivial, fun b hb => absurd (show b ∈ ([] : List Addr) from hb) (by simp), hok, .of_eq hg⟩
    refine codeAny_mono ((F _ hKb (nsK hns)).run callerA [] s₁ H ⟨[.ref a], []⟩ [.ref a] [.ref a] _ _ hr e0 (hbind s₁ (.ref a)) (.cons rfl .nil) (hsp H hO hS)) fun r s' h => ?_
    cases r with
    | error e => exact (hCX H e s' h).elim
    | ok fl =>
      cases fl with
      | next => exact False.elim h
      | brk => exact False.elim h
      | cont => exact False.elim h
      | ret u =>
        obtain ⟨v, H', os, bare, un, hok', r', q⟩ := h
        have q' : v = .bl true := q
        subst q'
        obtain rfl : u = Value.bool true := r'
        refine ⟨rfl, OldK.of_keep fun b o e => ?_, os, bare⟩
        cases q : H b with
        | none => exact un.keep b o e q (by intro z; exact absurd (show b ∈ ([] : List Addr) from z) (by simp)) (by simp)
        | some u =>
          rcases hO b with z | ⟨ob, xs, z⟩
          · rw [q] at z; cases z
          · have z2 := un.frzs b ob _ z
            obtain ⟨e1, _⟩ := hok b _ z
            obtain ⟨e2, _⟩ := hok' b _ z2
            rw [e] at e1; cases e1
            exact e2
  cases hk : K.lookup a with
  | some o =>
    -- the script is one of the module's own objects
    have e := KX a o hk
    rw [ha] at e
    cases e
    refine core (fun _ => none) (fun _ => .inl rfl) (.inr ⟨_, vs.toArray, _, hk, rfl, rfl, rfl, by rw [List.size_toArray, lenV]; exact hl, by simpa using rv⟩) (fun b u z => by have z' : (none : Option HO) = some u := z; cases z') (fun b z => absurd rfl z) fun z => absurd rfl z
  | none =>
    refine core (fun b => if b = a then some (.frz { cls := .type "list", data := .seq vs.toArray } (.lst (ns.map V.int))) else none) (fun b => ?_) (.inl (.inr ⟨{ cls := .type "list", data := .seq vs.toArray }, if_pos rfl⟩)) (fun b u z => ?_) (fun b z => ?_) fun _ => hk
    · by_cases hb : b = a
      · exact .inr ⟨_, _, if_pos hb⟩
      · exact .inl (if_neg hb)
    · by_cases hb : b = a
      · have z' := (if_pos hb).symm.trans z
        cases z'
        subst hb
        exact ⟨ha, by rw [List.length_map]; exact hl, vs, _, rv, ha⟩
      · have z' := (if_neg hb).symm.trans z
        cases z'
    · by_cases hb : b = a
      · exact hb
      · exact absurd (if_neg hb) z
end L2
namespace L2
open PySem PySem.Spec PyProof.Rows
abbrev KOf {K : PySem.W.Frag} {h : Heap} (_ : K.In h) : PySem.W.Frag := K
theorem walk_of {l : PySem.W.OpenLaw} {n k : Nat} {q : Program} {loose : List Str} {XP : (Str → Option Value) → Heap → Prop} {YP : World → Heap → Prop} {d : DefRec} {K : Params → PySem.W.Frag} {CX : World → CXT} {sp : World → Sp} {x : Str}
    (hn : l.most = some n) (hn2 : n ≤ sizeLine) (hdf : d.params.defaults = []) (hr : Room k callerA)
    (hY : ∀ (w : World) (h : Heap), YP w h → (K w.params).In h)
    (F : ∀ (w : World) (mg : Str → Option Value) (fa : Addr) (h : Heap), (K w.params).In h → h.Ns mainGlobals mg → mg d.name = some (.ref fa) →
      ∃ fd : FuncData, (∀ (s : Shared) (u : Value), BindsTo s fd ⟨[u], []⟩ [(x, u)]) ∧
        ∀ base : Heap, (K w.params).In base → base.Ns mainGlobals mg → FnOk l.prog w (K w.params) mg base (CX w) k fa fd [x] (sp w))
    (hsp : ∀ (w : World) (H : Hp) (a : Addr) (ns : List Int), ns.length ≤ n → Only H → SqL (K w.params) H a (ns.map V.int) → sp w [.ref a] H (fun v _ => v = .bl true) fun _ _ _ => False)
    (hCX : ∀ (w : World) (H : Hp) (s : Shared) (e : Value) (s' : Shared), CX w [] H s (fun _ _ _ => False) e s' → False) :
    PySem.W.WalkO q loose XP YP l.row.toRowW d [] (fun f vs => PySem.call f vs) := by
  refine Att.attach_call hn hdf fun w s₀ s₁ mg mb fa o pm cd doc a vs ns G Y ho hd hcd hmg hobj hints hlen hg => ?_
  have KX := hY w _ Y
  obtain ⟨fd, hb, hF⟩ := F w mg fa _ KX G.T.g hmg
  exact law_call KX G.T.g G.T.b G.T.builtins G.T.nolimit hg hobj hints (Nat.le_trans hlen hn2) hr hF hb (fun H hO hS => hsp w H a ns hlen hO hS) fun H e s' => hCX w H s₁ e s'
end L2
namespace L2
open PySem PySem.Spec PyProof.Rows
def inClass (s : Stmt) (j : Nat) : Stmt := match s with
  | .ClassDef _ _ _ body _ _ _ _ _ _ _ => body.getD j (.Pass ⟨0, 0, 0, 0⟩)
  | _ => .Pass ⟨0, 0, 0, 0⟩
def defArgs (s : Stmt) : Arguments := match s with
  | .FunctionDef _ a _ _ _ _ _ _ _ _ => a
  | _ => { posonlyargs := [], args := [], vararg := none, kwonlyargs := [], kw_defaults := [], kwarg := none, defaults := [] }
def defBody (s : Stmt) : List Stmt := match s with
  | .FunctionDef _ _ b _ _ _ _ _ _ _ => b
  | _ => []
def defScope (s : Stmt) : Scope := match s with
  | .FunctionDef _ _ _ _ _ _ sc _ _ _ => sc
  | _ => { kind := .function, names := [], isGenerator := false, isCoroutine := false }
abbrev CX0 : CXT := fun _ _ _ _ _ _ => False
abbrev E0 : XK := fun _ _ _ => False
structure Fun (K : PySem.W.Frag) (x qual : Str) (st : Stmt) (f : Addr) (fd : FuncData) : Prop where
  ex : ∃ (oc : Value) (od : Option Addr) (kV doc pm : Value) (an : Option Addr) (cdv ct : Value) (osl : Array (Option Value)),
    fd = PySem.W.fnOf x qual (defArgs st) (defBody st) (defScope st) .none kV doc pm an cdv ct ∧ K.lookup f = some ⟨oc, od, .func fd, osl⟩ ∧ PySem.W.codeIn K cdv qual = true
  kp : PySem.W.keepIn K (.ref f) = true
section
variable {P : Program} {w : World} {K : PySem.W.Frag} {mg : Str → Option Value} {base : Heap}
theorem Fun.ok {x qual : Str} {st : Stmt} {f : Addr} {fd : FuncData} {N ps : List Str} {k : Nat} {sp : Sp} (F : Fun K x qual st f fd) (S : FnScope N ps (defScope st)) (len : ∀ vs H Q E, sp vs H Q E → vs.length = ps.length)
    (hbody : ∀ (cdv : Value) (A : Around) (outer : List Env) (s : Shared) (H : Hp) (vs : List V) (Q : VK) (E : XK), Room k (A.deeper (envOfC qual (defScope st) s.heap.objs.size f cdv)) → sp vs H Q E →
      ∃ t, PSs (cxOf CX0 P w K mg base N qual (defScope st) f cdv A outer s H E).nox (defBody st) t ∧ t { nx := fun _ H' => Q .non H', rt := Q } (start N vs) H) : FnOk P w K mg base CX0 (k + 1) f fd ps sp := by
  obtain ⟨oc, od, kV, doc, pm, an, cdv, ct, osl, rfl, lk, hcd⟩ := F.ex
  refine fn_of lk hcd S len fun A outer s H vs Q E hr hsp => ?_
  obtain ⟨t, h, q⟩ := hbody cdv A outer s H vs Q E hr hsp
  exact ⟨t, h.nox, q⟩
theorem Fun.binds {x qual : Str} {st : Stmt} {f : Addr} {fd : FuncData} {ps : List Str} (F : Fun K x qual st f fd)
    (h : ∀ (kV doc pm : Value) (an : Option Addr) (cdv ct : Value) (us : List Value), us.length = ps.length → bindArgs (PySem.W.fnOf x qual (defArgs st) (defBody st) (defScope st) .none kV doc pm an cdv ct) ⟨us, []⟩ = pure (ps.zip us)) : Binds K fd ps [] := by
  obtain ⟨oc, od, kV, doc, pm, an, cdv, ct, osl, rfl, lk, hcd⟩ := F.ex
  exact .all (h kV doc pm an cdv ct)
theorem fun_mk {x qual : Str} {st : Stmt} {f : Addr} {oc : Value} {od an : Option Addr} {osl : Array (Option Value)} {kV doc pm cdv ct : Value} (l : K.lookup f = some ⟨oc, od, .func (PySem.W.fnOf x qual (defArgs st) (defBody st) (defScope st) .none kV doc pm an cdv ct), osl⟩)
    (c : PySem.W.codeIn K cdv qual = true) (k : PySem.W.keepIn K (.ref f) = true) : Fun K x qual st f (PySem.W.fnOf x qual (defArgs st) (defBody st) (defScope st) .none kV doc pm an cdv ct) := ⟨⟨oc, od, kV, doc, pm, an, cdv, ct, osl, rfl, l, c⟩, k⟩
end
theorem hu_of {A : Around} {k : Nat} (hr : Room k A) : A.units + 1 < cLine := Nat.lt_of_le_of_lt (Nat.add_le_add_left (by decide : 1 ≤ 64) _) hr.units
section
variable {X : Cx}
theorem pv (i : Nat) {x : Str} {pos : Pos} (hN : X.N[i]? = some x := by rfl) (hv : Vis X.env.scope x := by first | exact Or.inl rfl | exact Or.inr (Or.inl rfl) | exact Or.inr (Or.inr rfl)) (hd : (x == ("__debug__" : Str)) = false := by decide)
    (hcd : (x == ("__classdict__" : Str)) = false := by decide) : PE X (.Name x pos) (tVar i) := pe_var hN hv hd hcd
end
theorem iteF {A B : Prop} (h : B) : if false = true then A else B := by
  rw [if_neg Bool.false_ne_true]
  exact h
theorem iteT {A B : Prop} (h : A) : if true = true then A else B := by
  rw [if_pos rfl]
  exact h
def Same (H H' : Hp) : Prop := ∀ b o, H b = some o → H' b = some o
theorem Same.refl (H : Hp) : Same H H := fun _ _ h => h
theorem Same.trans {H H1 H2 : Hp} (a : Same H H1) (b : Same H1 H2) : Same H H2 := fun c o h => b c o (a c o h)
theorem Same.free {H H' : Hp} (e : Same H H') {l : Addr} (h : H' l = Option.none) : H l = Option.none := by
  cases q : H l with
  | none => rfl
  | some o =>
    rw [e l o q] at h
    cases h
theorem Same.seq {K : PySem.W.Frag} {H H' : Hp} {a : Addr} {xs : List V} (e : Same H H') (h : SqL K H a xs) : SqL K H' a xs := by
  rcases h with (h | ⟨o, h⟩) | h
  · exact .inl (.inl (e _ _ h))
  · exact .inl (.inr ⟨o, e _ _ h⟩)
  · exact .inr h
section
variable {κ : Type} [DecidableEq κ]
end
end L2

section
set_option Elab.async false
set_option linter.all false
set_option maxRecDepth 100000
namespace L2
open PySem PySem.Spec PyProof.Rows
def Sz (n : Nat) (x : Int) : Prop := x.natAbs < 2 ^ n
theorem Sz.mono {m n : Nat} {x : Int} (h : Sz m x) (hmn : m ≤ n) : Sz n x := Nat.lt_of_lt_of_le h (Nat.pow_le_pow_right (by decide) hmn)
theorem Sz.le {n : Nat} {x y : Int} (h : Sz n y) (hxy : x.natAbs ≤ y.natAbs) : Sz n x := Nat.lt_of_le_of_lt hxy h
theorem Sz.add {n : Nat} {x y : Int} (hx : Sz n x) (hy : Sz n y) : Sz (n + 1) (x + y) := by
  unfold Sz at *
  have := Int.natAbs_add_le x y
  rw [Nat.pow_succ]; omega
theorem Sz.sub {n : Nat} {x y : Int} (hx : Sz n x) (hy : Sz n y) : Sz (n + 1) (x - y) := by
  unfold Sz at *
  have := Int.natAbs_sub_le x y
  rw [Nat.pow_succ]; omega
theorem Sz.neg {n : Nat} {x : Int} (hx : Sz n x) : Sz n (-x) := by unfold Sz at *; rw [Int.natAbs_neg]; exact hx
theorem Sz.mulOk {m n : Nat} {x y : Int} (hx : Sz m x) (hy : Sz n y) (hm : m + n ≤ 134217728 := by decide) : IntMulOk x y :=
  PySem.IntMulOk.of_le (PySem.intBits_le_iff.mpr hx) (PySem.intBits_le_iff.mpr hy) hm
section
variable {X : Cx}
theorem op_mulS : OpR X (binaryOp .Mult) (rI IntMulOk fun i j => .int (i * j)) := opI fun _ _ _ _ _ _ _ hc q => mul_int q hc
def CFd (_ j : Int) : Prop := j ≠ 0 ∧ Sz 9000 j
theorem CFd.np {i j : Int} (h : CFd i j) : Builtin.divisionGoesByPylong i j = false := by
  refine PyProof.noPylong_of_log2 ?_
  have h0 : j.natAbs ≠ 0 := fun e => h.1 (Int.natAbs_eq_zero.mp e)
  exact (Nat.log2_lt h0).mpr h.2
def CFp (_ j : Int) : Prop := 0 < j ∧ Sz 9000 j
theorem op_fdp : OpR X (binaryOp .FloorDiv) (rI CFp fun i j => .int (i / j)) := opI fun i j _ _ _ _ _ hc q => by
  have h1 : (0 : Int) < j := hc.1
  exact floordiv_int (by omega) (by rw [Int.fdiv_eq_ediv_of_nonneg i (by omega)]; exact q) (.inl (CFd.np ⟨by omega, hc.2⟩))
end
structure Has (P : Program) (w : World) (K : PySem.W.Frag) (mg : Str → Option Value) (base : Heap) (CX : CXT) (x : Str) (k : Nat) (ps : List Str) (sp : Sp) : Prop where
  ex : ∃ f fd, FnOk P w K mg base CX k f fd ps sp ∧ mg x = some (.ref f) ∧ PySem.W.keepIn K (.ref f) = true ∧ Binds K fd ps []
section
variable {X : Cx} {CX : CXT} {k j : Nat} {ps : List Str} {sp : Sp} {E : XK} {x : Str} {p pos : Pos} {e : Expr} {es : List Expr} {t : TA}
theorem pe_callH (h : Has X.prog X.w X.K X.mg X.base CX x k ps sp) (hr : Room j X.A) (hx : Passes CX X E) (ha : PA X (e :: es) t) (hk : k ≤ j := by decide) (hg : Gl X x := by rfl) (hdb : (x == ("__debug__" : Str)) = false := by decide)
    (he : starEach (e :: es) X.env = (false, eval e X.env) :: starEach es X.env := by rfl) (hpl : (backTo pos (starEach es X.env)).any (·.1) = false := by rfl) :
    PE X (.Call (.Name x p) (e :: es) [] pos) (tCall sp [] E t) := by
  obtain ⟨f, fd, F, hm, hkp, hb⟩ := h.ex
  exact pe_call F (hr.mono hk) hg hm hkp hb .nil hx ha hdb he hpl
end
inductive ClsV : V → Value → Prop where
  | ty (n : String) : ClsV (.ty n) (.type n)
  | ref (a : Addr) : ClsV (.ref a) (.ref a)
def rInst (K : PySem.W.Frag) : List V → Hp → VK → Prop := fun xs H Q => ∃ x c t u b, xs = [x, c] ∧ TyOf K H x t ∧ ClsV c u ∧ PySem.W.kitOne K t u = some b ∧ Q (.bl b) H
theorem call_inst {X : Cx} : CallR X (.builtin "isinstance") (rInst X.K) := by
  intro pins s σ H xs us Q I r h
  obtain ⟨x, c, t, u, b, rfl, ty, rc, e, q⟩ := h
  obtain ⟨u1, u2, rfl, r1, r2⟩ := vals2 r
  have e2 : u2 = u := by
    cases rc <;> (cases r2; rfl)
  subst e2
  exact isinst_ok I r1 ty e fun tk => ⟨.bl b, H, I.tok _, rfl, q⟩
section
variable {X : Cx} {pins : List (Addr × Obj)} {σ : St} {H : Hp} {s : Shared} {h' : Heap}
theorem Inv.turnedLay {t' : Nat} {ch : List Addr} {a : Addr} {o : HO} (I : Inv X pins σ H s) (k : ∀ b u, b ∉ ch → s.heap.get? b = some u → h'.get? b = some u) (hf : ∀ b ∈ ch, FpOk X pins H b) (hp : s.heap.objs.size ≤ a)
    (new : ObjOk X.prog X.w (upd H a o) h' a o) : Inv X pins σ (upd H a o) { s with heap := h', toks := t' } := by
  have hn := I.hok.fresh hp
  have nch : ∀ b u, H b = some u → b ∉ ch := fun b u e z => by rw [(hf b z).1] at e; cases e
  refine I.step (g' := s.gens) (d' := s.drawn) (ch := ch) (fun b hb => ?_) (fun b o _ _ hc e _ => k b o hc e) (fun b o _ _ hc e _ => ⟨o.slots, k b o hc e⟩) (fun b u _ e n => ?_) (fun b o hc e => ⟨o, k b o hc e⟩)
    (fun b xs e => by rw [upd_ne (ne_of_none e hn)]; exact e) (fun b u v e => by rw [upd_ne (ne_of_none e hn)]; exact e) (fun b ps e => ⟨#[], by rw [upd_ne (ne_of_none e hn), e]; simp⟩) (fun m hm => ?_) (fun b u e => ?_) I.bare
  · obtain ⟨f0, f1, f2, f3, f4, f5⟩ := hf b hb
    exact ⟨f3, f1, f4, f5⟩
  · rw [upd_ne (Nat.ne_of_lt (Nat.lt_of_lt_of_le (Heap.lt_size e) hp))]; exact n
  · obtain ⟨o, es, ep, ho, r⟩ := hm
    exact ⟨o, es, ep, k _ o (fun z => (hf _ z).2.1 rfl) ho, r⟩
  · by_cases hb : b = a
    · subst hb; rw [upd_same] at e; cases e; exact new
    · rw [upd_ne hb] at e
      refine (I.hok b u e).stay (fun c v hc q => k c v ?_ q) (fun c q => by rw [upd_ne (ne_of_none q hn)]; exact q) fun c xs q => by rw [upd_ne (ne_of_none q hn)]; exact q
      rcases hc with z | z
      · rw [z]; exact nch b u e
      · exact nch c _ z
theorem Inv.turnedL {t' : Nat} {ch : List Addr} (I : Inv X pins σ H s) (k : ∀ b u, b ∉ ch → s.heap.get? b = some u → h'.get? b = some u) (hf : ∀ b ∈ ch, FpOk X pins H b) : Inv X pins σ H { s with heap := h', toks := t' } := by
  have nch : ∀ b u, H b = some u → b ∉ ch := fun b u e z => by rw [(hf b z).1] at e; cases e
  refine I.step (g' := s.gens) (d' := s.drawn) (ch := ch) (fun b hb => ?_) (fun b o _ _ hc e _ => k b o hc e) (fun b o _ _ hc e _ => ⟨o.slots, k b o hc e⟩) (fun b u _ e n => n) (fun b o hc e => ⟨o, k b o hc e⟩)
    (fun b xs e => e) (fun b u v e => e) (fun b ps e => ⟨#[], by rw [e]; simp⟩) (fun m hm => ?_) (fun b u e => ?_) I.bare
  · obtain ⟨f0, f1, f2, f3, f4, f5⟩ := hf b hb
    exact ⟨f3, f1, f4, f5⟩
  · obtain ⟨o, es, ep, ho, r⟩ := hm
    exact ⟨o, es, ep, k _ o (fun z => (hf _ z).2.1 rfl) ho, r⟩
  · refine (I.hok b u e).stay (fun c v hc q => k c v ?_ q) (fun c q => q) fun c xs q => q
    rcases hc with z | z
    · rw [z]; exact nch b u e
    · exact nch c _ z
end
def Ite (K : PySem.W.Frag) (a : Addr) : It :=
  ⟨fun i H => ∃ xs x, SqL K H a xs ∧ xs[i]? = some x,
   fun i H x H' => ∃ p y, H p = none ∧ x = .ref p ∧ (∀ xs, SqL K H a xs → xs[i]? = some y) ∧ H' = upd H p (.tup [.int i, y]),
   fun i H => ∃ xs, SqL K H a xs ∧ xs.length ≤ i⟩
theorem turn_enum {P : Program} {w : World} {K : PySem.W.Frag} {elts : List Expr} {kx : Nat} {px : Pos} (a e it : Addr) (hne : e ≠ it) :
    Turn P w K (.Tuple elts kx px) (Ite K a) [e, it] e (fun i h => (∃ old, IsEnum h e it (i : Nat) old) ∧ h.IsListIter it a i) where
  mem := by simp
  obj := fun i h st b hb => by
    obtain ⟨⟨old, he⟩, hit⟩ := st
    rcases List.mem_cons.mp hb with rfl | hb
    · exact ⟨_, he, fun v z => by cases z⟩
    · obtain rfl : b = it := by simpa using hb
      obtain ⟨o, e1, c, d⟩ := hit
      exact ⟨o, e1, fun v z => by rw [d] at z; cases z⟩
  keep := fun i h h' st k => by
    obtain ⟨⟨old, he⟩, hit⟩ := st
    exact ⟨⟨old, k e (by simp) _ he⟩, hit.at fun o q => k it (by simp) o q⟩
  item := by
    intro X hP hw hK hc i pins s σ H E I hf st hg
    subst hP hw hK
    obtain ⟨⟨old, he⟩, hit⟩ := st
    obtain ⟨xs, x, hq, hx⟩ := hg
    obtain ⟨its, rv, p, hz⟩ := I.list hq
    obtain ⟨u, hu, ru⟩ := rv.get hx
    have helt : e < s.heap.objs.size := Heap.lt_size he
    have hilt : it < s.heap.objs.size := by obtain ⟨_, q, _⟩ := id hit; exact Heap.lt_size q
    refine wpAny_pyNext_enum_item he hit p.isList (x := u) (by simpa using hu) hne fun h' ho hit' hT hsz hk => ⟨_, rfl, ?_⟩
    refine wpAny_letOwnedTupleGo_enum ho fun h2 he2 hs2 => ?_
    replace hs2 : Heap.SameBut e h' h2 := hs2
    have hn : H s.heap.objs.size = none := I.hok.fresh (Nat.le_refl _)
    have kk : ∀ b o, b ∉ [e, it] → s.heap.get? b = some o → h2.get? b = some o := fun b o hb q => (hs2.2 b fun z => hb (by simp [z])).trans (hk b o (fun z => hb (by simp [z])) (fun z => hb (by simp [z])) q)
    have hT2 : h2.get? s.heap.objs.size = some { cls := .type "tuple", data := .seq #[.int i s.toks, u] } := (hs2.2 _ (Nat.ne_of_gt helt)).trans hT
    refine ⟨.ref s.heap.objs.size, upd H s.heap.objs.size (.tup [.int i, x]), Inv.turnedLay (s := s) (h' := h2) (t' := s.toks + 1) I kk hf (Nat.le_refl _) ⟨by simp only [List.length_cons, List.length_nil]; rw [sizeLine_eq]; decide, [.int i s.toks, u], .cons ⟨_, rfl⟩ (.cons ru .nil), ⟨_, hT2, rfl, _, rfl⟩⟩, rfl,
      ⟨_, x, hn, rfl, fun ys hy => by rw [I.list_inj hy hq]; exact hx, rfl⟩, ⟨⟨_, he2⟩, hit'.at fun o q => (hs2.2 it (Ne.symm hne)).trans q⟩, fun b hb => ?_⟩
    rw [upd_ne ?_]
    · exact (hf b hb).1
    · rcases List.mem_cons.mp hb with rfl | hb
      · exact Nat.ne_of_lt helt
      · obtain rfl : b = it := by simpa using hb
        exact Nat.ne_of_lt hilt
  done := by
    intro X hP hw hK hc i pins s σ H E I hf st hg
    subst hP hw hK
    obtain ⟨⟨old, he⟩, hit⟩ := st
    obtain ⟨xs, hq, hx⟩ := hg
    obtain ⟨its, rv, p, hz⟩ := I.list hq
    have hl := rv.length
    exact wpAny_pyNext_enum_end (I.ok.hd hc) he hit p.isList (by simp; omega) fun h' eb => ⟨rfl, Inv.turnedL (t' := s.toks) (ch := [e, it]) I (fun b o hb q => eb b o (fun z => hb (by simp [z])) q) hf⟩
  self := fun _ _ _ _ _ st h => by
    obtain ⟨⟨old, he⟩, hit⟩ := st
    exact wpAny_pyIter_enum he h
def iEnum (K : PySem.W.Frag) (ta : TA) : TI := fun σ H R => ta σ H fun vs H1 => ∃ a, vs = [.ref a] ∧ (∃ xs, SqL K H1 a xs) ∧ R (Ite K a) H1
theorem pi_enum {X : Cx} {l : Expr} {ta : TA} {p pos : Pos} {elts : List Expr} {kx : Nat} {px : Pos} (hm : X.mg "enumerate" = none) (ha : PA X [l] ta) (hg : Gl X "enumerate" := by rfl) (hs : starEach [l] X.env = [(false, eval l X.env)] := by rfl) :
    PI X (.Tuple elts kx px) (.Call (.Name "enumerate" p) [l] [] pos) (iEnum X.K ta) := by
  intro pins s σ H R I h
  refine Call_ (ld_blt I hg hm boot_enumerate (PyProof.Rows.callWith_type1 (thn (ha pos pins s σ H _ I h) fun us s1 ⟨vs, H1, I1, r1, q1⟩ => ?_) hs rfl))
  obtain ⟨a, rfl, ⟨xs, hq⟩, q⟩ := q1
  obtain ⟨u, rfl, ru⟩ := vals1 r1
  cases ru
  obtain ⟨its, rv, pl, hz⟩ := I1.list hq
  refine call_enumerate_list pl.isList fun h' he hit hsz hk => ?_
  refine wpAny_pyIter_enum he ?_
  have I2 : Inv X pins σ H1 { s1 with heap := h' } := I1.kept (t' := s1.toks) fun b o e => hk b o e
  refine ⟨_, [s1.heap.objs.size + 1, s1.heap.objs.size], _, _, H1, rfl, I2, turn_enum a _ _ (Nat.succ_ne_self _), ⟨⟨_, he⟩, hit⟩, fun b hb => ?_, q⟩
  rcases List.mem_cons.mp hb with rfl | hb
  · exact I1.fpOk (Nat.le_succ _) (I1.hok.fresh (Nat.le_succ _))
  · obtain rfl : b = s1.heap.objs.size := by simpa using hb
    exact I1.fpOk (Nat.le_refl _) (I1.hok.fresh (Nat.le_refl _))
theorem for_enum {K : PySem.W.Frag} {a : Addr} {xs : List V} {g : TG} {tb : TS} {D : Ends} {σ : St} {H : Hp} (Pv : Nat → St → Hp → Prop) (h0 : Pv 0 σ H) (hl : ∀ i σ H, i ≤ xs.length → Pv i σ H → SqL K H a xs)
    (hs : ∀ i x p σ H, xs[i]? = some x → Pv i σ H → H p = none → g (.ref p) σ (upd H p (.tup [.int i, x])) fun σ2 H2 => tb { D with nx := Pv (i + 1), ct := Pv (i + 1), bk := D.nx } σ2 H2) (hd : ∀ σ H, Pv xs.length σ H → D.nx σ H) :
    ∃ W : Nat → Nat → St → Hp → Prop, (∃ m, W 0 m σ H) ∧ ∀ i m σ H, W i m σ H →
      ((Ite K a).stop i H ∧ D.nx σ H) ∨ ((Ite K a).go i H ∧ ∃ N : St → Hp → Prop, (∀ σ' H', N σ' H' → ∃ m', m' < m ∧ W (i + 1) m' σ' H') ∧ ∀ x H', (Ite K a).yld i H x H' → g x σ H' fun σ2 H2 => tb { D with nx := N, ct := N, bk := D.nx } σ2 H2) := by
  refine ⟨fun i m σ H => m = xs.length - i ∧ i ≤ xs.length ∧ Pv i σ H, ⟨xs.length, by simp, Nat.zero_le _, h0⟩, ?_⟩
  rintro i m σ H ⟨rfl, hi, p⟩
  have q := hl i σ H hi p
  by_cases hlt : i < xs.length
  · refine .inr ⟨⟨xs, xs[i], q, by simp [hlt]⟩, Pv (i + 1), fun σ' H' p' => ⟨xs.length - (i + 1), by omega, rfl, hlt, p'⟩, fun x H' y => ?_⟩
    obtain ⟨r, y, hr, rfl, hy, rfl⟩ := y
    exact hs i y r σ H (hy xs q) p hr
  · have e : i = xs.length := by omega
    subst e
    exact .inl ⟨⟨xs, q, Nat.le_refl _⟩, hd σ H p⟩
section
variable {σ : St} {H : Hp} {Q : VK} {D : Ends}
theorem r_var {i : Nat} {v : V} (h : σ[i]? = some (some v)) (q : Q v H) : tVar i σ H Q := ⟨v, h, q⟩
theorem r_c {v : V} (q : Q v H) : tC v σ H Q := q
theorem r_op {r : R2} {ta tb : TE} (h : ta σ H fun x H1 => tb σ H1 fun y H2 => r x y H2 Q) : tOp r ta tb σ H Q := h
theorem r_un {r : V → Hp → VK → Prop} {ta : TE} (h : ta σ H fun x H1 => r x H1 Q) : tUn r ta σ H Q := h
theorem r_rI0 {g : Int → Int → V} {i j : Int} (q : Q (g i j) H) : rI0 g (.int i) (.int j) H Q := ⟨i, j, rfl, rfl, q⟩
theorem r_rI {C : Int → Int → Prop} {g : Int → Int → V} {i j : Int} (c : C i j) (q : Q (g i j) H) : rI C g (.int i) (.int j) H Q := ⟨i, j, rfl, rfl, c, q⟩
theorem r_rU {g : Int → V} {i : Int} (q : Q (g i) H) : rU g (.int i) H Q := ⟨i, rfl, q⟩
theorem r_eqI {i j : Int} (q : Q (.bl (decide (i = j))) H) : rEq (.int i) (.int j) H Q := ⟨rfl, by rw [dec_int, Bool.beq_eq_decide_eq]; exact q⟩
theorem r_neI {i j : Int} (q : Q (.bl (!decide (i = j))) H) : rNe (.int i) (.int j) H Q := ⟨rfl, by rw [dec_int, Bool.beq_eq_decide_eq]; exact q⟩
theorem r_seq {t u : TS} (h : t { D with nx := u D } σ H) : tSeq t u D σ H := h
theorem r_next (h : D.nx σ H) : tNext D σ H := h
theorem r_asg {te : TE} {g : TG} (h : te σ H fun x H1 => g x σ H1 D.nx) : tAsg te g D σ H := h
theorem r_gname {i : Nat} {v : V} {R : St → Hp → Prop} (h : R (σ.set i (some v)) H) : gName i v σ H R := h
theorem r_ret {te : TE} (h : te σ H D.rt) : tRet te D σ H := h
theorem r_drop {te : TE} (h : te σ H fun _ H1 => D.nx σ H1) : tDrop te D σ H := h
theorem r_ifS {c : TT} {t u : TS} (h : c σ H fun b H1 => if b = true then t D σ H1 else u D σ H1) : tIfS c t u D σ H := h
theorem r_test {t : TE} {R : Bool → Hp → Prop} (h : t σ H fun x H' => ∃ k, x = .bl k ∧ R k H') : tTest t σ H R := h
theorem r_B {t : TE} {R : Bool → Hp → Prop} (h : t σ H fun x H' => ∃ k, x = .bl k ∧ R k H') : tB t σ H R := h
theorem r_bl {k : Bool} {R : Bool → Prop} (h : R k) : ∃ k', V.bl k = .bl k' ∧ R k' := ⟨k, rfl, h⟩
theorem r_not {t : TT} {R : Bool → Hp → Prop} (h : t σ H fun c H1 => R (!c) H1) : tNot t σ H R := h
theorem r_and {t u : TT} {R : Bool → Hp → Prop} (h : t σ H fun c H1 => if c = true then u σ H1 R else R false H1) : tAnd t u σ H R := h
theorem r_or {t u : TT} {R : Bool → Hp → Prop} (h : t σ H fun c H1 => if c = true then R true H1 else u σ H1 R) : tOr t u σ H R := h
theorem r_andV {ta tb : TE} (h : ta σ H fun x H1 => ∃ c, x = .bl c ∧ if c = true then tb σ H1 Q else Q (.bl false) H1) : tAndV ta tb σ H Q := h
theorem r_nil {R : List V → Hp → Prop} (h : R [] H) : tNil σ H R := h
theorem r_cons {ta : TE} {tr : TA} {R : List V → Hp → Prop} (h : ta σ H fun x H1 => tr σ H1 fun xs H2 => R (x :: xs) H2) : tCons ta tr σ H R := h
theorem r_call {sp : Sp} {E : XK} {t : TA} (h : t σ H fun vs H1 => sp (vs ++ []) H1 Q E) : tCall sp [] E t σ H Q := h
theorem r_cb {r : List V → Hp → VK → Prop} {t : TA} (h : t σ H fun vs H1 => r vs H1 Q) : tCB r t σ H Q := h
theorem r_tup {t : TA} (h : t σ H fun xs H1 => xs.length ≤ sizeLine ∧ ∀ p, H1 p = none → Q (.ref p) (upd H1 p (.tup xs))) : tTup t σ H Q := h
theorem r_lst {t : TA} (h : t σ H fun xs H1 => xs.length ≤ sizeLine ∧ ∀ p, H1 p = none → Q (.ref p) (upd H1 p (.lst xs))) : tLst t σ H Q := h
theorem r_par {i j : Nat} {ta : TA} (h : ta σ H fun vs H1 => ∃ v w, vs = [v, w] ∧ D.nx ((σ.set i (some v)).set j (some w)) H1) : tPar i j ta D σ H := h
theorem r_for {wi : TI} {g : TG} {tb : TS} (h : wi σ H fun J H1 => ∃ W : Nat → Nat → St → Hp → Prop, (∃ m, W 0 m σ H1) ∧ ∀ i m σ H, W i m σ H →
  (J.stop i H ∧ D.nx σ H) ∨ (J.go i H ∧ ∃ N : St → Hp → Prop, (∀ σ' H', N σ' H' → ∃ m', m' < m ∧ W (i + 1) m' σ' H') ∧ ∀ x H', J.yld i H x H' → g x σ H' fun σ2 H2 => tb { D with nx := N, ct := N, bk := D.nx } σ2 H2)) : tFor wi g tb D σ H := h
theorem ifT {A B : Prop} (h : A) : if true = true then A else B := iteT h
theorem ifF {A B : Prop} (h : B) : if false = true then A else B := iteF h
theorem if2 {c A B : Prop} [Decidable c] (h1 : c → A) (h2 : ¬ c → B) : if decide c = true then A else B := by
  by_cases h : c
  · rw [decide_eq_true h]; exact iteT (h1 h)
  · rw [decide_eq_false h]; exact iteF (h2 h)
theorem if2n {c A B : Prop} [Decidable c] (h1 : ¬ c → A) (h2 : c → B) : if (!decide c) = true then A else B := by
  by_cases h : c
  · rw [decide_eq_true h]; exact iteF (h2 h)
  · rw [decide_eq_false h]; exact iteT (h1 h)
end
end L2
end
section
set_option Elab.async false
set_option linter.all false
set_option maxRecDepth 100000
namespace L2
open PySem PySem.Spec PyProof.Rows
theorem bt_len : bootBuiltins "len" = some (.builtin "len") := by decide +kernel
theorem bt_isinstance : bootBuiltins "isinstance" = some (.builtin "isinstance") := by decide +kernel
theorem bt_bool : bootBuiltins "bool" = some (.type "bool") := by decide +kernel
theorem bt_list : bootBuiltins "list" = some (.type "list") := by decide +kernel
theorem bt_ValueError : bootBuiltins "ValueError" = some (.type "ValueError") := by decide +kernel
structure Def (K : PySem.W.Frag) (mg : Str → Option Value) (x : Str) (st : Stmt) (ps : List Str) : Prop where
  ex : ∃ f fd, Fun K x x st f fd ∧ mg x = some (.ref f) ∧ Binds K fd ps []
section
variable {P : Program} {w : World} {K : PySem.W.Frag} {mg : Str → Option Value} {base : Heap}
theorem Def.has {x : Str} {st : Stmt} {N ps : List Str} {k : Nat} {sp : Sp} (D : Def K mg x st ps) (S : FnScope N ps (defScope st)) (len : ∀ vs H Q E, sp vs H Q E → vs.length = ps.length)
    (hbody : ∀ (f : Addr) (cdv : Value) (A : Around) (outer : List Env) (s : Shared) (H : Hp) (vs : List V) (Q : VK) (E : XK), Room k (A.deeper (envOfC x (defScope st) s.heap.objs.size f cdv)) → sp vs H Q E →
      ∃ t, PSs (cxOf CX0 P w K mg base N x (defScope st) f cdv A outer s H E).nox (defBody st) t ∧ t { nx := fun _ H' => Q .non H', rt := Q } (start N vs) H) : Has P w K mg base CX0 x (k + 1) ps sp := by
  obtain ⟨f, fd, F, hm, hb⟩ := D.ex
  exact ⟨⟨f, fd, F.ok S len fun cdv A outer s H vs Q E hr h => hbody f cdv A outer s H vs Q E hr h, hm, F.kp, hb⟩⟩
end
theorem Same.upd {H : Hp} {p : Addr} {o : HO} (h : H p = none) : Same H (upd H p o) := fun b u e => by rw [upd_ne (ne_of_none e h)]; exact e
section
variable {σ : St} {H : Hp} {Q : VK} {K : PySem.W.Frag}
theorem r_ixL {p : Addr} {xs : List V} {i : Int} {v : V} (h : SqL K H p xs) (hi : atI xs i = some v) (q : Q v H) : rIxL K (.ref p) (.int i) H Q := ⟨p, xs, i, v, rfl, rfl, h, hi, q⟩
theorem r_inst {x c : V} {t u : Value} {b : Bool} (ty : TyOf K H x t) (hc : ClsV c u) (e : PySem.W.kitOne K t u = some b) (q : Q (.bl b) H) : rInst K [x, c] H Q := ⟨x, c, t, u, b, rfl, ty, hc, e, q⟩
theorem r_gtup {n : Nat} {t : TGs} {a : Addr} {xs : List V} {R : St → Hp → Prop} (h : SqT K H a xs) (hl : xs.length = n) (q : t xs σ H R) : gTup K n t (.ref a) σ H R := ⟨a, xs, rfl, h, hl, q⟩
theorem r_gcons {t : TG} {u : TGs} {v : V} {vs : List V} {R : St → Hp → Prop} (q : t v σ H fun σ' H' => u vs σ' H' R) : gCons t u (v :: vs) σ H R := ⟨v, vs, rfl, q⟩
theorem r_gnil {R : St → Hp → Prop} (q : R σ H) : gNil [] σ H R := ⟨rfl, q⟩
end
end L2
namespace Fr
structure Low (a b t u : Int) : Prop where
  pos : 0 < u
  co : Int.gcd t u = 1
  eq : t * b = a * u
  ta : t.natAbs ≤ a.natAbs
  ub : u.natAbs ≤ b.natAbs
end Fr
namespace L2
open PySem PySem.Spec PyProof.Rows
theorem while_W {c : TT} {tb : TS} {D : Ends} {σ : St} {H : Hp} (Pv : St → Hp → Prop) (μ : St → Hp → Nat) (h0 : Pv σ H)
    (hs : ∀ σ H, Pv σ H → c σ H fun b H1 => if b = true then ∃ N : St → Hp → Prop, (∀ σ' H', N σ' H' → ∃ m', m' < μ σ H ∧ (m' = μ σ' H' ∧ Pv σ' H')) ∧ tb { D with nx := N, ct := N, bk := D.nx } σ H1 else D.nx σ H1) : tWhile c tb D σ H :=
  ⟨fun m σ H => m = μ σ H ∧ Pv σ H, ⟨_, rfl, h0⟩, by rintro m σ H ⟨rfl, p⟩; exact hs σ H p⟩
theorem w_turn {tb : TS} {r : VK} {bk : St → Hp → Prop} {σ : St} {H : Hp} {Pv : St → Hp → Prop} {μ : St → Hp → Nat} {m : Nat} (h : tb { nx := fun σ' H' => Pv σ' H' ∧ μ σ' H' < m, rt := r, bk := bk, ct := fun σ' H' => Pv σ' H' ∧ μ σ' H' < m } σ H) :
    ∃ N : St → Hp → Prop, (∀ σ' H', N σ' H' → ∃ m', m' < m ∧ (m' = μ σ' H' ∧ Pv σ' H')) ∧ tb { nx := N, rt := r, bk := bk, ct := N } σ H := ⟨_, fun _ _ p => ⟨_, p.2, rfl, p.1⟩, h⟩
theorem ifNT {A B : Prop} (h : B) : if (!true) = true then A else B := iteF h
theorem ifNF {A B : Prop} (h : A) : if (!false) = true then A else B := iteT h
theorem sl2 : 2 ≤ sizeLine := by rw [sizeLine_eq]; decide
theorem sl3 : 3 ≤ sizeLine := by rw [sizeLine_eq]; decide
end L2
namespace L2
open PySem PySem.Spec PyProof.Rows
theorem cx_K {CX : CXT} {P : Program} {w : World} {K : PySem.W.Frag} {mg : Str → Option Value} {base : Heap} {N : List Str} {q : Str} {sc : Scope} {f : Addr} {cd : Value} {A : Around} {o : List Env} {s : Shared} {H : Hp} {E : XK} : (cxOf CX P w K mg base N q sc f cd A o s H E).K = K := rfl
end L2
namespace L2
open PySem PySem.Spec PyProof.Rows
section
variable {K : PySem.W.Frag}
theorem kit_bb : PySem.W.kitOne K (.type "bool") (.type "bool") = some true := by kernel_rfl
end
end L2
namespace L2
open PySem PySem.Spec PyProof.Rows
theorem mulL {a b : Int} (h1 : -(2 ^ 64) < a) (h2 : a < 2 ^ 64) : IntMulOk a b := .of_left (intBits_le_64 h1 h2)
theorem Sz.s64 {n : Nat} {x : Int} (h1 : -(2 ^ 64) < x) (h2 : x < 2 ^ 64) (hn : 64 ≤ n) : Sz n x := Sz.mono (m := 64) (by unfold Sz; omega) hn
theorem cfp_lit {i j : Int} (h1 : 0 < j) (h2 : j < 2 ^ 64) : CFp i j := ⟨h1, Sz.s64 (by omega) h2 (by decide)⟩
section
variable {X : Cx} {a b : Expr} {i j v : Int} {op : Operator} {pos : Pos} {C : Int → Int → Prop} {g : Int → Int → V}
theorem pe_fold (ho : OpR X (binaryOp op) (rI C g)) (ha : PE X a (tC (.int i))) (hb : PE X b (tC (.int j))) (c : C i j) (e : g i j = .int v) : PE X (.BinOp a op b pos) (tC (.int v)) :=
  fun pins s σ H Q I h => pe_op ho ha hb pins s σ H Q I ⟨i, j, rfl, rfl, c, by rw [e]; exact h⟩
end
end L2
namespace L2
open PySem PySem.Spec PyProof.Rows
end L2
end
section
set_option Elab.async false
set_option linter.all false
set_option maxRecDepth 100000
namespace L2
open PySem PySem.Spec PySem.W PySem.Calls PyProof.Rows Builtin Builtin.ObjectAttr Builtin.Getset_descriptor
def ExcAt (C : Addr) (a : Addr) (h : Heap) : Prop := ∃ ob, h.get? a = some ob ∧ ob.cls = .ref C ∧ PySem.W.notCls ob = true
def excO (C a : Addr) : HO := .ext (ExcAt C a)
theorem ExcAt.stay {C a : Addr} {h h' : Heap} (x : ExcAt C a h) (k : ∀ o, h.get? a = some o → h'.get? a = some o) : ExcAt C a h' := let ⟨o, e, r⟩ := x; ⟨o, k o e, r⟩
theorem excO_ok {P : Program} {w : World} {H : Hp} {h : Heap} {C a : Addr} (x : ExcAt C a h) : ObjOk P w H h a (excO C a) :=
  ⟨x, let ⟨o, e, _⟩ := x; ⟨o, e⟩, fun _ _ y k => y.stay k⟩
theorem excO_at {P : Program} {w : World} {H : Hp} {h : Heap} {C a : Addr} (hk : HOk P w H h) (e : H a = some (excO C a)) : ExcAt C a h := (hk a _ e).1
theorem ExcAt.ty {C a : Addr} {h : Heap} {M : Model} (x : ExcAt C a h) : Looks M h (typeOf (.ref a)) (.ref C) := by
  obtain ⟨o, e, c, _⟩ := x
  exact c ▸ (Looks.ld e).andThen .now
structure ExCls (K : Frag) (D : Addr) : Prop where
  hga : findIn K (.ref D) "__getattribute__" = some (some (.builtin "BaseException.__getattribute__"))
  hgt : findIn K (.ref D) "__getattr__" = some none
  hmB : mroIn K D (.type "BaseException") = some true
  cl : (clsIn K D).isSome = true
  ha : findIn K (.ref D) "__class__" = some (some (.builtin "object.__class__"))
  hn : specialIn K (.builtin "object.__class__") "__get__" = some (some (.builtin "getset_descriptor.__get__"))
  htk : takesIn K (.builtin "object.__class__") = some true
  hm : mroIn K D (.type "object") = some true
section
variable {prog : Program} {w : World} {A : Around} {E : Value → Shared → Prop} {s : Shared} {K : Frag} {x D : Addr}
theorem ex_find {M : Model} {h : Heap} (X : K.In h) (c : ExCls K D) : Looks M h (find (.ref x) (.ref D) "__class__") (.bind (.builtin "getset_descriptor.__get__") (.builtin "object.__class__")) := by
  have l1 := looks_findIn (M := M) X c.ha
  have l2 : Looks M h (getOf (some (.builtin "object.__class__"))) (some (.builtin "getset_descriptor.__get__")) := looks_specialIn X c.hn
  have l3 := looks_takesIn (M := M) X c.htk
  refine l1.andThen (l2.andThen ?_)
  have l4 : Looks M h (dataDescriptor? (some (.builtin "object.__class__")) (some (.builtin "getset_descriptor.__get__"))) (some (.builtin "getset_descriptor.__get__", .builtin "object.__class__")) := l3.andThen .now
  exact l4.andThen (Looks.tag .now)
theorem ex_get {R : Result → Shared → Prop} {tp : Value} (X : K.In s.heap) (I : ExcAt D x s.heap) (c : ExCls K D) (h : R (.ok (.ret (.ref D))) s) :
    codeAny (model prog w) A (.call (.builtin "getset_descriptor.__get__") ⟨[.builtin "object.__class__", .ref x, tp], []⟩) R s := by
  obtain ⟨oo, e, cc, nc⟩ := I
  obtain ⟨ocls, od, odt, osl⟩ := oo
  have I' : ExcAt D x s.heap := ⟨_, e, cc, nc⟩
  obtain ⟨hh, g, dr, t, os⟩ := s
  have k0 := I'.ty (M := model prog w)
  have k1 := looks_mroIn (M := model prog w) X c.hm
  refine codeAny_call_builtin KF.slot_gs.plain KF.entry_gs (KF.slot_gs.check _ _ _ _ _ _ _ _ KF.type_class (KF.args_gs _ _ _) ?_)
  unfold Builtin.«getset_descriptor.__get__» descrGet
  rw [dga_obj]
  refine wpAny_bind (wpAny_pure ?_)
  unfold descrGetter descrCheckInstance descrNameAndClass isInstance
  simp only [KF.owner_class]
  repeat lk
  refine ⟨Code.quiet_builtin _ (by decide +kernel), codeAny_builtin KF.entry_class ?_⟩
  unfold Builtin.«object.__class__» shownTypeOf
  repeat lk
  exact h
theorem ex_check {M : Model} {nameV : Value} {Q : Unit → Shared → Prop} (X : K.In s.heap) (I : ExcAt D x s.heap) (hmB : mroIn K D (.type "BaseException") = some true) (hq : Q () s) : wpAny M A (checkBuiltinCall "BaseException.__getattribute__" ⟨[.ref x, nameV], []⟩) Q E s := by
  obtain ⟨hh, g, d, t, os⟩ := s
  have k0 := I.ty (M := M)
  have k1 := looks_mroIn (M := M) X hmB
  have hk : builtinKind "BaseException.__getattribute__" = some .slot := by decide +kernel
  have hs : splitId "BaseException.__getattribute__" = some ("BaseException", "__getattribute__") := by decide +kernel
  have ha := F.args_bexc_ga (.ref x) nameV
  simp only [checkBuiltinCall, hk, hs]
  refine wpAny_bind ?_
  unfold isInstance
  repeat (first | lk | wp_step)
  exact hq
theorem ex_entry {tk : Tok} {Q : PySem.Fin → Shared → Prop} (X : K.In s.heap) (I : ExcAt D x s.heap) (c : ExCls K D) (hq : Q (.done (.ret (.ref D))) s) :
    wpAny (model prog w) A (Builtin.«object.__getattribute__» ⟨[.ref x, .str "__class__" tk], []⟩) Q E s := by
  have I' := I
  have X' := X
  obtain ⟨hh, g, d, t, os⟩ := s
  have k0 := I.ty (M := model prog w)
  have k2 := ex_find (x := x) (M := model prog w) X c
  repeat (any_goals (first | assumption | with_reducible refine Looks.at (by assumption) ?_ | wp_step))
  refine ex_get (s := ⟨hh, g, d, t, os⟩) X' I' c ?_
  repeat (any_goals (first | assumption | wp_step))
theorem ex_call {tk : Tok} {R : Result → Shared → Prop} (X : K.In s.heap) (I : ExcAt D x s.heap) (c : ExCls K D) (hq : R (.ok (.ret (.ref D))) s) :
    codeAny (model prog w) A (.call (.builtin "BaseException.__getattribute__") ⟨[.ref x, .str "__class__" tk], []⟩) R s :=
  codeAny_call_builtin F.attr_ValueError.ga.plain F.entry_bexc_ga (ex_check X I c.hmB (ex_entry X I c hq))
theorem ex_class {Q : Option Value → Shared → Prop} (X : K.In s.heap) (I : ExcAt D x s.heap) (c : ExCls K D) (h : Q (some (.ref D)) { s with toks := s.toks + 1 }) : wpAny (model prog w) A (getAttr? (.ref x) "__class__") Q E s := by
  have I' := I
  have X' := X
  obtain ⟨hh, g, d, t, os⟩ := s
  have k0 := I.ty (M := model prog w)
  have k1 := looks_findIn (M := model prog w) X c.hga
  have k3 := looks_findIn (M := model prog w) X c.hgt
  have f3 := F.attr_ValueError.ga.bind (.ref x)
  have hx2 : (Value.builtin "BaseException.__getattribute__" == Value.builtin "object.__getattribute__") = false := by decide +kernel
  have hx1 : (onTheHeap (Value.ref D) && Value.builtin "BaseException.__getattribute__" == Value.builtin "object.__getattribute__") = false := by rw [hx2]; rfl
  have hx0 : (false && onTheHeap (Value.builtin "BaseException.__getattribute__")) = false := rfl
  unfold getAttr? getAttrBy?
  refine wpAny_bind (wpAny_mkText (wpAny_bind (wpAny_attempt ?_)))
  repeat (any_goals (first | assumption | with_reducible refine Looks.at (by assumption) ?_ | wp_step))
  refine ex_call (s := ⟨hh, g, d, t + 1, os⟩) X' I' c ?_
  repeat (any_goals (first | assumption | wp_step))
theorem kitx_exc (c : ExCls K D) : KitX K (.ref x) (.ref D) (ExcAt D x) where
  ty := fun _ _ _ I => I.ty
  it := fun _ _ X _ => by
    obtain ⟨cdD, hcD⟩ := Option.isSome_iff_exists.mp c.cl
    unfold clsIn at hcD
    split at hcD
    · rename_i c' d' cd' sl' ho
      intro A' Q' E' s' k q
      unfold isType loadHead
      exact wpAny_bind (wpAny_loadPart (k _ _ (X _ _ ho)) (wpAny_pure q))
    · cases hcD
  ne := fun h tp dd its n sl X htp => by
    obtain ⟨cdD, hcD⟩ := Option.isSome_iff_exists.mp c.cl
    refine Bool.eq_false_iff.mpr fun q => ?_
    have e : D = tp := Value.ref.inj (beq_iff_eq.mp q)
    subst e
    unfold clsIn at hcD
    split at hcD
    · rename_i c' d' cd' sl' ho
      have z := (X _ _ ho).symm.trans htp
      cases z
    · cases hcD
  ca := fun X I k => ex_class X I c k
end
end L2
end
section
set_option Elab.async false
set_option linter.all false
set_option maxRecDepth 100000
namespace L2
open PySem PySem.Spec PySem.W PySem.Calls PyProof.Rows
theorem ObjOk.there {P : Program} {w : World} {H : Hp} {h : Heap} {a : Addr} {o : HO} (x : ObjOk P w H h a o) : ∃ ob, h.get? a = some ob := by
  induction o with
  | lst xs => obtain ⟨_, _, _, _, e⟩ := x; exact ⟨_, e⟩
  | tup xs => obtain ⟨_, _, _, ob, e, _⟩ := x; exact ⟨ob, e⟩
  | dK kvs => obtain ⟨_, _, _, _, o, _, _, e, _⟩ := x; exact ⟨o, e⟩
  | dT kvs => obtain ⟨_, _, _, _, o, _, _, e, _⟩ := x; exact ⟨o, e⟩
  | set S n => obtain ⟨ob, _, _, _, e, _⟩ := x; exact ⟨ob, e⟩
  | ins C dx fs => obtain ⟨_, _, _, e, _⟩ := x; exact ⟨_, e⟩
  | own y => exact x
  | xd fs => obtain ⟨_, ⟨od, _, _, e, _⟩, _⟩ := x; exact ⟨od, e⟩
  | rng lo hi => obtain ⟨_, _, _, e⟩ := x; exact ⟨_, e⟩
  | frz ob u ih => obtain ⟨e, _⟩ := x; exact ⟨ob, e⟩
  | tbl ps => exact ⟨_, x⟩
  | met f y => exact ⟨_, x⟩
  | ext φ => obtain ⟨_, e, _⟩ := x; exact e
def Cover (B : Heap) (fr : List Addr) (h : Heap) : Prop := ∀ b o, h.get? b = some o → b ∉ fr → ∃ o', B.get? b = some o'
section
variable {X : Cx} {pins : List (Addr × Obj)} {σ : St} {H : Hp} {s : Shared} {B h' : Heap}
theorem Inv.flown {t' : Nat} (I : Inv X pins σ H s) (hex : X.ex = []) (b1 : B.StaysIn s.heap) (b2 : B.StaysIn h') (c0 : Cover B (frs X.stack) X.s₀.heap) (ct : ∀ b o, H b = some o → ∃ ob, B.get? b = some ob)
    (cp : ∀ p ∈ X.pn ++ pins, ∃ ob, B.get? p.1 = some ob) (up : s.heap.UpToSlots h') : Inv X pins σ H { s with heap := h', toks := t' } := by
  have inB : ∀ {b o ob}, s.heap.get? b = some o → B.get? b = some ob → h'.get? b = some o := fun {b o ob} e q => by
    have := b1 b ob q
    rw [e] at this; cases this
    exact b2 b _ q
  have nL : ∀ b o, X.s₀.heap.get? b = some o → b ∉ X.fs → b ∉ frs X.stack := fun b o e hb z => by
    rcases List.mem_cons.mp (I.stkSub b z) with q | q
    · exact absurd (Nat.lt_of_lt_of_le (Heap.lt_size e) I.ok.above) (by rw [q]; exact Nat.lt_irrefl _)
    · exact hb q
  have nex : ∀ b : Addr, b ∉ X.ex := fun b z => by rw [hex] at z; cases z
  have fr : ∀ b ∈ X.fs, ∃ o, s.heap.get? b = some o ∧ ∀ vs, o.data ≠ .fields vs := fun b hb => (I.funs.mem hb).2
  have cellK : ∀ {c v}, s.heap.IsCell c v → h'.IsCell c v := fun {c v} ⟨o, ho, hd⟩ => by
    obtain ⟨sl, e⟩ := up c o ho fun vs z => by rw [hd] at z; cases z
    exact ⟨_, e, hd⟩
  refine ⟨I.ok, I.os, I.bare, ⟨fun b o e n hb _ => ?_, fun b o e n hb _ => ?_, I.base.free, fun b o e _ => ?_, I.base.tups, I.base.frzs, I.base.tbls⟩, ?_, fun x c e => ?_, I.free, I.freeC, fun p hp => ?_, fun b u e => ?_, I.len⟩
  · obtain ⟨ob, q⟩ := c0 b o e (nL b o e hb)
    exact inB (I.base.keep b o e n hb (nex b)) q
  · obtain ⟨sl, q⟩ := I.base.slot b o e n hb (nex b)
    obtain ⟨o2, q2, nf⟩ := fr b hb
    obtain ⟨sl2, q3⟩ := up b o2 q2 nf
    rw [q] at q2; cases q2
    exact ⟨sl2, q3⟩
  · by_cases hb : b ∈ X.fs
    · obtain ⟨o2, q2, nf⟩ := fr b hb
      obtain ⟨sl2, q3⟩ := up b o2 q2 nf
      exact ⟨_, q3⟩
    · obtain ⟨ob, q⟩ := c0 b o e (nL b o e hb)
      exact ⟨ob, b2 b ob q⟩
  · obtain ⟨m, hn, hl⟩ := I.loc
    refine ⟨m, up.ns hn, fun i x v e1 e2 e3 => ?_⟩
    obtain ⟨u, r, l⟩ := hl i x v e1 e2 e3
    refine ⟨u, r, ?_⟩
    rcases l with l | ⟨k, c, e, z⟩
    · exact .inl l
    · exact .inr ⟨k, c, e, cellK z⟩
  · obtain ⟨v, z⟩ := I.cell x c e
    exact ⟨v, cellK z⟩
  · obtain ⟨e, n, ne, nf, d⟩ := I.pin p hp
    obtain ⟨ob, q⟩ := cp p hp
    exact ⟨inB e q, n, ne, nf, d⟩
  · refine (I.hok b u e).stay (fun c v hc q => ?_) (fun _ q => q) fun _ _ q => q
    rcases hc with z | z
    · subst z
      obtain ⟨ob, q2⟩ := ct c u e
      exact inB q q2
    · obtain ⟨ob, q2⟩ := ct c _ z
      exact inB q q2
end
structure FlyX (P : Program) (w : World) (outer : List Env) (H : Hp) (s : Shared) (a : Addr) (cls : Value) (H' : Hp) (s' : Shared) : Prop where
  os : s'.os = s.os
  bare : AllBare s'.gens
  un : Un (frs outer) [] H H' s.heap s'.heap
  hok : HOk P w H' s'.heap
  fly : ∃ B a0, Heap.FlyingW B outer a cls a0 s'.heap ∧ Cover B (frs outer) s.heap ∧ ∀ b o, H' b = some o → ∃ ob, B.get? b = some ob
  new : H' a = none
  fresh : s.heap.get? a = none
def CXe (P : Program) (w : World) : CXT := fun outer H s E e s' => ∃ a cls H', e = .ref a ∧ FlyX P w outer H s a cls H' s' ∧ E cls none H'
section
variable {X : Cx} {pins : List (Addr × Obj)} {σ : St} {H : Hp} {s : Shared}
structure Body (X : Cx) : Prop where
  ex : X.ex = []
  pn : X.pn = []
  stk : X.stack = X.env :: X.outer
  fr : X.env.frame = some X.env.locals
theorem body_of {CX : CXT} {P : Program} {w : World} {K : Frag} {mg : Str → Option Value} {base : Heap} {N : List Str} {qual : Str} {scope : Scope} {f : Addr} {cd : Value} {A : Around} {outer : List Env} {s : Shared} {H : Hp} {E : XK} :
    Body (cxOf CX P w K mg base N qual scope f cd A outer s H E) := ⟨rfl, rfl, rfl, rfl⟩
theorem Inv.none_of (I : Inv X pins σ H s) {a : Addr} (e : s.heap.get? a = none) : H a = none := by
  cases q : H a with
  | none => rfl
  | some o =>
    obtain ⟨ob, z⟩ := (I.hok a o q).there
    rw [e] at z; cases z
theorem Inv.fresh0 (I : Inv X pins σ H s) (hex : X.ex = []) {a : Addr} (e : s.heap.get? a = none) : X.s₀.heap.get? a = none := by
  cases q : X.s₀.heap.get? a with
  | none => rfl
  | some o =>
    obtain ⟨o', z⟩ := I.base.there a o q (by rw [hex]; simp)
    rw [e] at z; cases z
theorem leave_made {E : XK} {E' : Value → Shared → Prop} {h' : Heap} {e : Addr} {cls : Value} {vs : List Value} (I : Inv X pins σ H s) (hb : Body X) (hx : Heap.MadeExcOf s.heap h' e cls vs) (q : E cls none H) :
    wpAny (model X.prog X.w) X.A (leaving X.env (.ref e)) (fun _ s'' => CXe X.prog X.w X.outer X.H₀ X.s₀ E (.ref e) s'') E' { s with heap := h' } := by
  have hin : ∀ env ∈ X.stack, ∀ b, env.frame = some b → b ∈ X.stack.filterMap (·.frame) := fun env he b hb => List.mem_filterMap.mpr ⟨env, he, hb⟩
  have hkb : (hideAll s.heap (frs X.stack)).StaysIn s.heap := fun b o q => of_hideAll _ q
  have hfr : X.A.frames = some (X.env :: X.outer) := by rw [← hb.stk]; exact I.ok.frames
  have hl : s.heap.FunFrames (hideAll s.heap (frs X.stack)) (X.env :: X.outer) := by rw [← hb.stk]; exact funFrames_hide I.stack hin
  have cv : ∀ {b o}, s.heap.get? b = some o → b ∉ frs X.stack → (hideAll s.heap (frs X.stack)).get? b = some o := fun e n => hideAll_get _ e n
  have sub : ∀ b ∈ frs X.outer, b ∈ frs X.stack := fun b z => by rw [hb.stk]; unfold frs; rw [List.filterMap_cons, hb.fr]; exact List.mem_cons_of_mem _ z
  refine wpAny_leaves_madeW (base := hideAll s.heap (frs X.stack)) (s := { s with heap := h' }) hfr hb.fr hkb hl hx fun h2 t fly tup bt up => ?_
  have up2 : s.heap.UpToSlots h2 := (Heap.UpToSlots.of_keeps hx.keeps).trans up
  have c0 : Cover (hideAll s.heap (frs X.stack)) (frs X.stack) X.s₀.heap := fun b o e n => by
    obtain ⟨o', z⟩ := I.base.there b o e (by rw [hb.ex]; simp)
    exact ⟨o', cv z n⟩
  have ct : ∀ b o, H b = some o → ∃ ob, (hideAll s.heap (frs X.stack)).get? b = some ob := fun b o e => by
    obtain ⟨ob, z⟩ := (I.hok b o e).there
    exact ⟨ob, cv z fun m => by rw [I.stkFree b m] at e; cases e⟩
  have J : Inv X [] σ H { s with heap := h2, toks := s.toks } := Inv.flown (I.pins_of fun p hp => by cases hp) hb.ex hkb fly.1 c0 ct (fun p hp => by rw [hb.pn] at hp; cases hp) up2
  refine ⟨e, cls, H, rfl, ⟨J.os, J.bare, ?_, J.hok, ⟨_, _, fly, ?_, ct⟩, I.none_of hx.new, I.fresh0 hb.ex hx.new⟩, q⟩
  · have := J.base
    rw [hb.ex] at this
    exact this
  · intro b o e' n
    refine c0 b o e' fun m => ?_
    rw [hb.stk] at m
    unfold frs at m
    rw [List.filterMap_cons, hb.fr] at m
    rcases List.mem_cons.mp m with z | z
    · exact absurd (Nat.lt_of_lt_of_le (Heap.lt_size e') I.ok.above) (by rw [z]; exact Nat.lt_irrefl _)
    · exact n z
theorem FlyX.inv {a : Addr} {cls : Value} {H' : Hp} {s' : Shared} (I : Inv X pins σ H s) (F : FlyX X.prog X.w X.stack H s a cls H' s') : Inv X pins σ H' s' :=
  I.call' (ch := []) F.os F.un F.hok F.bare fun b z => by cases z
end
theorem passN {P : Program} {w : World} {X : Cx} : Passes (CXe P w) X E0 := by
  rintro pins σ H1 s1 e s' I ⟨a, cls, H', rfl, F, q⟩
  exact q.elim
end L2
end
section
set_option Elab.async false
set_option linter.all false
set_option maxRecDepth 100000
namespace L2
open PySem PySem.Spec PySem.W PySem.Calls PyProof.Rows
theorem exc_obj {K : Frag} {h : Heap} {C : Addr} {bmB : List Value} {newId : String} (X : K.In h) (q : excIn K C bmB newId = true) :
    ∃ bm N nm qn bs hdct sn sub ab col dd k0 k1 k2 k3 k5 mN, h.get? C = some (excClassObj nm qn C N bs bm hdct sn sub ab col dd k0 k1 k2 k3 k5 newId) ∧ h.Ns N mN ∧ mN "__init__" = none ∧ OwnTail h bmB bm := by
  unfold excIn at q
  split at q
  · rename_i dd cd sl ho
    split at q
    · rename_i C' bm k0 k1 k2 k3 n k5 hm hs
      simp only [Bool.and_eq_true, beq_iff_eq, Bool.not_eq_true'] at q
      obtain ⟨⟨⟨⟨⟨q1, q2⟩, hdel⟩, ht⟩, hok⟩, hni⟩ := q
      subst q1 q2
      obtain ⟨nm, bs, mro, ns, qn, hd, sn, sub, ab, col, del⟩ := cd
      dsimp only at hm hdel hok hni
      subst hm hdel
      obtain ⟨l⟩ := sl
      have hl : l = [k0, k1, k2, k3, some (.builtin n), k5] := hs
      subst hl
      exact ⟨bm, ns, nm, qn, bs, hd, sn, sub, ab, col, dd, k0, k1, k2, k3, k5, _, X _ _ ho, .of_isNs (isNs_of_in X hok), nsMap_none_of_in X hok hni, tail_of_in X ht⟩
    · cases q
  · cases q
def tRaise (Ex : XK) (C : Addr) (ta : TA) : TS := fun _ σ H => ta σ H fun vs H1 => vs.length ≤ sizeLine ∧ Ex (.ref C) none H1
theorem ps_raise {X : Cx} {x : Str} {C : Addr} {Bn newId initId : String} {bmB : List Value} {np cpos pos : Pos} {e : Expr} {es : List Expr} {ta : TA} {Ex : XK} (FB : ExcBaseFacts Bn newId initId bmB) (hq : excIn X.K C bmB newId = true) (hm : X.mg x = some (.ref C))
    (hc : X.calm = true) (ha : PA X (e :: es) ta)
    (hx : ∀ pins s σ H h' a vs, Inv X pins σ H s → Heap.MadeExcOf s.heap h' a (.ref C) vs → Ex (.ref C) none H → X.xe (.ref a) { s with heap := h' }) (hg : Gl X x := by rfl) (hdb : (x == ("__debug__" : Str)) = false := by decide)
    (he : starEach (e :: es) X.env = (false, eval e X.env) :: starEach es X.env := by rfl) (hpl : (backTo cpos (starEach es X.env)).any (·.1) = false := by rfl) :
    PS X (.Raise (some (.Call (.Name x np) (e :: es) [] cpos)) none pos) (tRaise Ex C ta) := by
  intro pins s σ H D I h
  obtain ⟨tl, N, nm, q, bs, hdct, sn, sub, ab, col, dd, k0, k1, k2, k3, k5, mN, hC, hN, hni, T⟩ := exc_obj I.ok.mod.kin hq
  refine wpAny_Raise_call_subT (C := C) (nm := nm) (q := q) (N := N) (bs := bs) (bm := tl) (hdct := hdct) (sn := sn) (sub := sub) (ab := ab) (col := col) (dd := dd) (k0 := k0) (k1 := k1) (k2 := k2) (k3 := k3) (k5 := k5)
    FB (mN := mN) (T.hasType FB.hasBase) (I.ok.hd hc) (by rw [he]; show (false || (backTo cpos (starEach es X.env)).any (·.1)) = false; rw [hpl]; rfl) hni (ld_glob I hg hm ⟨rfl, ?_⟩ hdb)
  have h2 := ha cpos pins s σ H _ I h
  rw [he] at h2 ⊢
  refine Calls.evalArgs_plain (wpAny_mono h2 (fun us s2 z => ?_) fun _ _ y => y)
  obtain ⟨vs, H1, I1, r1, hl, qx⟩ := z
  exact ⟨rfl, by rw [← r1.length]; exact hl, I1.bk _ _ hC, hN.keeps I1.bk, T.keeps I1.bk, fun h' a mk => hx pins s2 σ H1 h' a us I1 mk qx⟩
theorem raiseE {P : Program} {w : World} {K : Frag} {mg : Str → Option Value} {base : Heap} {N : List Str} {qual : Str} {scope : Scope} {f : Addr} {cd : Value} {A : Around} {outer : List Env} {s0 : Shared} {H0 : Hp} {E : XK} {C : Addr} :
    ∀ pins s σ H h' a vs, Inv (cxOf (CXe P w) P w K mg base N qual scope f cd A outer s0 H0 E) pins σ H s → Heap.MadeExcOf s.heap h' a (.ref C) vs → E (.ref C) none H →
      (cxOf (CXe P w) P w K mg base N qual scope f cd A outer s0 H0 E).xe (.ref a) { s with heap := h' } := fun pins s σ H h' a vs I mk q => leave_made I body_of mk q
section
variable {X : Cx} {pins : List (Addr × Obj)} {σ : St} {H : Hp} {s : Shared}
theorem Inv.track {a : Addr} {o : HO} (I : Inv X pins σ H s) (hn : H a = none) (new : ObjOk X.prog X.w (upd H a o) s.heap a o) (fr : X.s₀.heap.get? a = none) (nL : a ≠ X.env.locals) (nc : ∀ x c, X.env.cells.lookup x = some c → c ≠ a) (np : ∀ p ∈ X.pn ++ pins, p.1 ≠ a) :
    Inv X pins σ (upd H a o) s := by
  refine ⟨I.ok, I.os, I.bare, ⟨I.base.keep, I.base.slot, fun b u e n hx => ?_, I.base.there, fun b xs e => ?_, fun b u v e => ?_, fun b ps e => ?_⟩, I.loc, I.cell, ?_, fun x c e => ?_, fun p hp => ?_, fun b u e => ?_, I.len⟩
  · have hb : b ≠ a := fun z => by rw [z, fr] at e; cases e
    rw [upd_ne hb]; exact I.base.free b u e n hx
  · have z := I.base.tups b xs e
    rw [upd_ne (ne_of_none z hn)]; exact z
  · have z := I.base.frzs b u v e
    rw [upd_ne (ne_of_none z hn)]; exact z
  · obtain ⟨m, z⟩ := I.base.tbls b ps e
    exact ⟨m, by rw [upd_ne (ne_of_none z hn)]; exact z⟩
  · rw [upd_ne (Ne.symm nL)]; exact I.free
  · rw [upd_ne (nc x c e)]; exact I.freeC x c e
  · obtain ⟨e, n, r⟩ := I.pin p hp
    exact ⟨e, by rw [upd_ne (np p hp)]; exact n, r⟩
  · by_cases hb : b = a
    · subst hb; rw [upd_same] at e; cases e; exact new
    · rw [upd_ne hb] at e
      exact (I.hok b u e).stay (fun c v _ q => q) (fun c q => by rw [upd_ne (ne_of_none q hn)]; exact q) fun c xs q => by rw [upd_ne (ne_of_none q hn)]; exact q
theorem gone_ok {M : Model} {A : Around} {E : Value → Shared → Prop} {i : Nat} {x : Str} {pos : Pos} {Q : Unit → Shared → Prop} (I : Inv X pins σ H s) (hN : X.N.Nodup) (hi : X.N[i]? = some x) (hk : X.env.scope.names.lookup x = some .local)
    (h : ∀ s', Inv X pins (σ.set i none) H s' → Q () s') : wpAny M A (do bindName X.env x .none; unbindBehindTheSuite X.env x pos) Q E s := by
  obtain ⟨m, hn, hl⟩ := id I.loc
  have hcls : (X.env.scope.kind == .class || (X.env.scope.kind == .module && X.env.locals != X.env.globals)) = false := by rw [I.ok.kind]; rfl
  have hiσ : i < σ.length := by rw [I.len]; exact (List.getElem?_eq_some_iff.mp hi).1
  refine wpAny_nameGoes_keeps hk hn hcls fun h' v hn' hs => h _ ?_
  obtain ⟨oL, _, _, hoL, _⟩ := id hn
  have lt : ∀ b o, X.s₀.heap.get? b = some o → b ≠ X.env.locals := fun b o e => Nat.ne_of_lt (Nat.lt_of_lt_of_le (Heap.lt_size e) I.ok.above)
  refine ⟨I.ok, I.os, I.bare, ⟨fun b o e n hb hx => (hs.2 b (lt b o e)).trans (I.base.keep b o e n hb hx), fun b o e n hb hx => ?_, I.base.free, fun b o e hx => ?_, I.base.tups, I.base.frzs, I.base.tbls⟩, ⟨_, hn', fun j y v' e1 e2 e3 => ?_⟩, fun y c e => ?_, I.free, I.freeC, fun p hp => ?_, fun b u e => ?_, by simpa using I.len⟩
  · obtain ⟨sl, e1⟩ := I.base.slot b o e n hb hx
    exact ⟨sl, (hs.2 b (lt b o e)).trans e1⟩
  · obtain ⟨o', e1⟩ := I.base.there b o e hx
    exact ⟨o', (hs.2 b (lt b o e)).trans e1⟩
  · by_cases hj : j = i
    · subst hj
      rw [List.getElem?_set_self hiσ] at e2
      cases e2
    · rw [List.getElem?_set_ne (Ne.symm hj)] at e2
      obtain ⟨u', r', q⟩ := hl j y v' e1 e2 e3
      refine ⟨u', r', ?_⟩
      rcases q with ⟨k, e⟩ | ⟨k, c, e, z⟩
      · refine .inl ⟨k, ?_⟩
        have : y ≠ x := fun e => hj (nodup_ix hN e1 (e ▸ hi))
        simp [this, e]
      · exact .inr ⟨k, c, e, z.sameBut hs (I.cne y c e)⟩
  · obtain ⟨w', z⟩ := I.cell y c e
    exact ⟨w', z.sameBut hs (I.cne y c e)⟩
  · obtain ⟨e, n, ne, nf, d⟩ := I.pin p hp
    exact ⟨(hs.2 p.1 ne).trans e, n, ne, nf, d⟩
  · refine (I.hok b u e).stay (fun c w' hc q => (hs.2 c ?_).trans q) (fun _ q => q) fun _ _ q => q
    rintro rfl
    rcases hc with rfl | hc
    · rw [I.free] at e; cases e
    · rw [I.free] at hc; cases hc
def Cx.marked (X : Cx) (a : Addr) : Cx := { X with A := X.A.mark (some (.ref a)), calm := false, xe := fun _ _ => False }
theorem Inv.mark {a : Addr} (I : Inv X pins σ H s) : Inv (X.marked a) pins σ H s :=
  ⟨⟨I.ok.mod, I.ok.kind, I.ok.glob, I.ok.blt, I.ok.above, I.ok.inj, I.ok.has, I.ok.cab, (fun z => absurd (show false = true from z) Bool.false_ne_true), I.ok.frames, I.ok.stk, I.ok.exf, I.ok.bs, I.ok.bsz, I.ok.noex, I.ok.exfs, I.ok.funs, I.ok.frf⟩, I.os, I.bare, I.base, I.loc, I.cell, I.free, I.freeC, I.pin, I.hok, I.len⟩
theorem Inv.unmark {a : Addr} (J : X.Ok) (I : Inv (X.marked a) pins σ H s) : Inv X pins σ H s := ⟨J, I.os, I.bare, I.base, I.loc, I.cell, I.free, I.freeC, I.pin, I.hok, I.len⟩
end
def EX (X : Cx) (pins : List (Addr × Obj)) (σ : St) (Ex : XK) (e : Value) (s' : Shared) : Prop :=
  ∃ a cls H' s0 H0, e = .ref a ∧ Inv X pins σ H0 s0 ∧ FlyX X.prog X.w X.stack H0 s0 a cls H' s' ∧ Ex cls none H'
section
variable {X : Cx} {k j : Nat} {ps : List Str} {sp : Sp} {x : Str} {p pos : Pos} {e : Expr} {es : List Expr} {t : TA}
theorem callX (h : Has X.prog X.w X.K X.mg X.base (CXe X.prog X.w) x k ps sp) (hr : Room j X.A) (ha : PA X.nox (e :: es) t) (hk : k ≤ j := by decide) (hg : Gl X x := by rfl) (hdb : (x == ("__debug__" : Str)) = false := by decide)
    (he : starEach (e :: es) X.env = (false, eval e X.env) :: starEach es X.env := by rfl) (hpl : (backTo pos (starEach es X.env)).any (·.1) = false := by rfl)
    {pins : List (Addr × Obj)} {s : Shared} {σ : St} {H : Hp} {Q : VK} {Ex : XK} (I : Inv X pins σ H s) (hw : t σ H fun vs H1 => sp (vs ++ []) H1 Q Ex) :
    wpAny (model X.prog X.w) X.A (eval (.Call (.Name x p) (e :: es) [] pos) X.env) (EP X pins σ Q) (EX X pins σ Ex) s := by
  obtain ⟨f, fd, F, hm, hkp, hb⟩ := h.ex
  refine wpAny_Call_Name_kw (ld_glob I hg hm ?_ hdb)
  refine PySem.W.callWith_K (h₀ := X.base) I.ok.mod.kin hkp (wpAny_mono (ha pos pins s σ H _ (I.wish _) hw) (fun us s1 ⟨vs, H1, I1, r, q⟩ => ⟨I1.kIn, ?_⟩) fun _ _ z => False.elim z) he hpl
  have I1 := I1.unwish
  dsimp only at q
  rw [List.append_nil] at q
  have hl : us.length = ps.length := by rw [← r.length]; exact F.len _ _ _ _ q
  have hb' := hb s1 us I1.kIn (by rw [List.append_nil]; exact hl)
  rw [List.append_nil] at hb'
  refine wpAny_call (codeAny_mono (F.run X.A X.stack s1 H1 ⟨us, []⟩ us vs Q Ex (hr.mono hk) I1.env0 hb' r q) fun rr s' hq => ?_)
  cases rr with
  | error ev =>
    obtain ⟨a, cls, H', rfl, fl, qe⟩ := hq
    exact ⟨a, cls, H', s1, H1, rfl, I1, fl, qe⟩
  | ok fl =>
    cases fl with
    | ret u => exact I1.after hq
    | next => exact False.elim hq
    | brk => exact False.elim hq
    | cont => exact False.elim hq
end
def hAs (K : Frag) (M : Addr) (jn : Nat) (ts : TS) (D : Ends) (σ : St) : XK := fun cls _ H' => ∃ C, cls = .ref C ∧ exmOne K (.ref C) (.ref M) = some true ∧
  ∀ a, H' a = none → ts { nx := fun σ' H2 => D.nx (σ'.set jn none) H2, rt := D.rt, bk := fun σ' H2 => D.bk (σ'.set jn none) H2, ct := fun σ' H2 => D.ct (σ'.set jn none) H2 } (σ.set jn (some (.ref a))) (upd H' a (excO C a))
theorem clauseAs {X : Cx} {x n : Str} {M : Addr} {jn : Nat} {b₀ : Stmt} {suite : List Stmt} {ts : TS} {np pos : Pos} (hb : Body X) (hm : X.mg x = some (.ref M)) (hN : X.N.Nodup) (hj : X.N[jn]? = some n) (hl : X.env.scope.names.lookup n = some .local)
    (hs : ∀ a, PSs (X.marked a) (b₀ :: suite) ts) (hg : Gl X x := by rfl) (hdb : (x == ("__debug__" : Str)) = false := by decide)
    {pins : List (Addr × Obj)} {σ : St} {D : Ends} {e : Value} {s' : Shared} (h : EX X pins σ (hAs X.K M jn ts D σ) e s') :
    wpAny (model X.prog X.w) X.A (noteFrame e X.env) (fun _ s2 => wpAny (model X.prog X.w) X.A (setFlight e none) (fun _ s3 =>
      wpAny (model X.prog X.w) X.A (handleBy e X.env [.ExceptHandler (some (.Name x np)) (some n) (b₀ :: suite) pos]) (SP X pins D) X.xe s3) X.xe s2) X.xe s' := by
  obtain ⟨a, cls, H', s0, H0, rfl, I0, F, C, rfl, hx, q⟩ := h
  obtain ⟨B, a0, fly, cov, ct⟩ := F.fly
  have I' := F.inv I0
  have hfr : X.A.frames = some (X.env :: X.outer) := by rw [← hb.stk]; exact I0.ok.frames
  have c0 : Cover B (frs X.stack) X.s₀.heap := fun b o e n => by
    obtain ⟨o', z⟩ := I0.base.there b o e (by rw [hb.ex]; simp)
    exact cov b o' z n
  have np' : ∀ p ∈ X.pn ++ pins, p.1 ≠ a := fun p hp z => by
    have := (I0.pin p hp).1
    rw [z, F.fresh] at this; cases this
  have cp : ∀ p ∈ X.pn ++ pins, ∃ ob, B.get? p.1 = some ob := fun p hp => by
    obtain ⟨e, nn, ne, nf, d⟩ := I0.pin p hp
    refine cov _ _ e fun z => ?_
    rcases List.mem_cons.mp (I0.stkSub _ z) with r | r
    · exact ne r
    · exact nf r
  rw [hb.stk] at fly
  refine wpAny_looks_onW hfr hb.fr fly fun h4 held4 up4 => ?_
  refine wpAny_landsW held4 fun h5 fly5 up5 => ?_
  have J5 : Inv X pins σ H' { s' with heap := h5, toks := s'.toks } := Inv.flown I' hb.ex fly.1 fly5.1 c0 ct cp (up4.trans up5)
  obtain ⟨ob, hob, hobc⟩ := fly5.there
  have ty : Looks (model X.prog X.w) h5 (typeOf (.ref a)) (.ref C) := hobc ▸ (Looks.ld hob).andThen .now
  refine wpAny_handleBy_cons (codeAny_handlers_test (ld_glob (X := X.marked a) J5.mark hg hm ?_ hdb)) (by intro z; cases z)
  refine (exm_one J5.kIn ty hx).at ?_
  refine codeAny_handlers_suite_as ?_
  refine lands_againW (s := { s' with heap := h5 }) fly5 fun h6 fly6 up6 => ?_
  have J6 : Inv X pins σ H' { s' with heap := h6, toks := s'.toks } := Inv.flown I' hb.ex fly.1 fly6.1 c0 ct cp ((up4.trans up5).trans up6)
  obtain ⟨oe, ws, hoe, hoec, hoed, hoe0⟩ := fly6.first
  have ex : ExcAt C a h6 := ⟨oe, hoe, hoec, by unfold notCls; rw [hoed]⟩
  have nL : a ≠ X.env.locals := fun z => by
    obtain ⟨m, ⟨o, es, ep, ho, hd, _⟩, _⟩ := J6.loc
    have ho' : h6.get? X.env.locals = some o := ho
    rw [← z, hoe] at ho'; cases ho'
    rw [hoed] at hd; cases hd
  have nc : ∀ y c, X.env.cells.lookup y = some c → c ≠ a := fun y c e z => by
    obtain ⟨v, o, ho, hd⟩ := J6.cell y c e
    have ho' : h6.get? c = some o := ho
    rw [z, hoe] at ho'; cases ho'
    rw [hoed] at hd; cases hd
  have J7 : Inv X pins σ (upd H' a (excO C a)) { s' with heap := h6, toks := s'.toks } := Inv.track J6 F.new (excO_ok ex) (I0.fresh0 hb.ex F.fresh) nL nc np'
  refine store_ok (X := X.marked a) (v := .ref a) J7.mark hN hj (.inl hl) rfl (fun s8 J8 => ?_) (.inr hl)
  refine wpAny_mono (hs a pins s8 _ _ _ J8 (q a F.new)) (fun f s9 z => ?_) fun _ _ z => False.elim z
  cases f with
  | next =>
    obtain ⟨σ', H2, J9, r⟩ := z
    exact gone_ok (J9.unmark J7.ok) hN hj hl fun s10 J10 => ⟨_, H2, J10, r⟩
  | brk =>
    obtain ⟨σ', H2, J9, r⟩ := z
    exact gone_ok (J9.unmark J7.ok) hN hj hl fun s10 J10 => ⟨_, H2, J10, r⟩
  | cont =>
    obtain ⟨σ', H2, J9, r⟩ := z
    exact gone_ok (J9.unmark J7.ok) hN hj hl fun s10 J10 => ⟨_, H2, J10, r⟩
  | ret u =>
    obtain ⟨v, σ', H2, J9, rv, r⟩ := z
    exact gone_ok (J9.unmark J7.ok) hN hj hl fun s10 J10 => ⟨v, _, H2, J10, rv, r⟩
def tTryAs (K : Frag) (sp : Sp) (ta : TA) (M : Addr) (jn : Nat) (ts : TS) : TS := fun D σ H => ta σ H fun vs H1 => sp (vs ++ []) H1 (fun _ H2 => D.nx σ H2) (hAs K M jn ts D σ)
theorem ps_tryAs {X : Cx} {k j : Nat} {ps : List Str} {sp : Sp} {f x n : Str} {p1 p2 p3 : Pos} {e : Expr} {es : List Expr} {ta : TA} {M : Addr} {jn : Nat} {b₀ : Stmt} {suite : List Stmt} {ts : TS} {np hpos pos : Pos}
    (h : Has X.prog X.w X.K X.mg X.base (CXe X.prog X.w) f k ps sp) (hr : Room j X.A) (ha : PA X.nox (e :: es) ta) (hb : Body X) (hm : X.mg x = some (.ref M)) (hN : X.N.Nodup) (hj : X.N[jn]? = some n) (hl : X.env.scope.names.lookup n = some .local)
    (hs : ∀ a, PSs (X.marked a) (b₀ :: suite) ts) (hk : k ≤ j := by decide) (hgf : Gl X f := by rfl) (hdf : (f == ("__debug__" : Str)) = false := by decide)
    (he : starEach (e :: es) X.env = (false, eval e X.env) :: starEach es X.env := by rfl) (hpl : (backTo p2 (starEach es X.env)).any (·.1) = false := by rfl)
    (hg : Gl X x := by rfl) (hdb : (x == ("__debug__" : Str)) = false := by decide) (hsw : swapsWith (.Call (.Name f p1) (e :: es) [] p2) none p3.line X.env = pure false := by rfl) :
    PS X (.Try [.Expr (.Call (.Name f p1) (e :: es) [] p2) p3] [.ExceptHandler (some (.Name x np)) (some n) (b₀ :: suite) hpos] [] [] pos) (tTryAs X.K sp ta M jn ts) := by
  intro pins s σ H D I hw
  refine wpAny_Try_except ?_
  refine wpAny_execs_cons (wpAny_Expr_any (wpAny_mono (callX h hr ha hk hgf hdf he hpl I hw) (fun v s1 z => ?_) fun ev s1 z => ?_) I.quiet hsw)
  · obtain ⟨y, H1, I1, r1, q1⟩ := z
    exact wpAny_execs_nil (wpAny_execs_nil ⟨σ, H1, I1, q1⟩)
  · exact clauseAs hb hm hN hj hl hs hg hdb z
end L2
end
section
set_option Elab.async false
set_option linter.all false
set_option maxRecDepth 100000
namespace L2
open PySem PySem.Spec PySem.W PySem.Calls PyProof.Rows
section
variable {P : Program} {w : World} {K : PySem.W.Frag} {mg : Str → Option Value} {base : Heap}
theorem Def.hasN {x : Str} {st : Stmt} {N ps : List Str} {k : Nat} {sp : Sp} (D : Def K mg x st ps) (S : FnScope N ps (defScope st)) (len : ∀ vs H Q E, sp vs H Q E → vs.length = ps.length)
    (hbody : ∀ (f : Addr) (cdv : Value) (A : Around) (outer : List Env) (s : Shared) (H : Hp) (vs : List V) (Q : VK) (E : XK), Room k (A.deeper (envOfC x (defScope st) s.heap.objs.size f cdv)) → sp vs H Q E →
      ∃ t, PSs (cxOf (CXe P w) P w K mg base N x (defScope st) f cdv A outer s H E).nox (defBody st) t ∧ t { nx := fun _ H' => Q .non H', rt := Q } (start N vs) H) : Has P w K mg base (CXe P w) x (k + 1) ps sp := by
  obtain ⟨f, fd, F, hm, hb⟩ := D.ex
  have kp := F.kp
  obtain ⟨oc, od, kV, doc, pm, an, cdv, ct, osl, rfl, lk, hcd⟩ := F.ex
  refine ⟨⟨f, _, fn_of lk hcd S len fun A outer s H vs Q E hr hsp => ?_, hm, kp, hb⟩⟩
  obtain ⟨t, h, q⟩ := hbody f cdv A outer s H vs Q E hr hsp
  exact ⟨t, h.nox, q⟩
theorem Def.hasE {x : Str} {st : Stmt} {N ps : List Str} {k : Nat} {sp : Sp} (D : Def K mg x st ps) (S : FnScope N ps (defScope st)) (len : ∀ vs H Q E, sp vs H Q E → vs.length = ps.length)
    (hbody : ∀ (f : Addr) (cdv : Value) (A : Around) (outer : List Env) (s : Shared) (H : Hp) (vs : List V) (Q : VK) (E : XK), Room k (A.deeper (envOfC x (defScope st) s.heap.objs.size f cdv)) → sp vs H Q E →
      ∃ t, PSs (cxOf (CXe P w) P w K mg base N x (defScope st) f cdv A outer s H E) (defBody st) t ∧ t { nx := fun _ H' => Q .non H', rt := Q } (start N vs) H) : Has P w K mg base (CXe P w) x (k + 1) ps sp := by
  obtain ⟨f, fd, F, hm, hb⟩ := D.ex
  have kp := F.kp
  obtain ⟨oc, od, kV, doc, pm, an, cdv, ct, osl, rfl, lk, hcd⟩ := F.ex
  exact ⟨⟨f, _, fn_of lk hcd S len fun A outer s H vs Q E hr hsp => hbody f cdv A outer s H vs Q E hr hsp, hm, kp, hb⟩⟩
theorem Fun.okN {x : Str} {st : Stmt} {f : Addr} {fd : FuncData} {N ps : List Str} {k : Nat} {sp : Sp} (F : Fun K x x st f fd) (S : FnScope N ps (defScope st)) (len : ∀ vs H Q E, sp vs H Q E → vs.length = ps.length)
    (hbody : ∀ (cdv : Value) (A : Around) (outer : List Env) (s : Shared) (H : Hp) (vs : List V) (Q : VK) (E : XK), Room k (A.deeper (envOfC x (defScope st) s.heap.objs.size f cdv)) → sp vs H Q E →
      ∃ t, PSs (cxOf (CXe P w) P w K mg base N x (defScope st) f cdv A outer s H E).nox (defBody st) t ∧ t { nx := fun _ H' => Q .non H', rt := Q } (start N vs) H) : FnOk P w K mg base (CXe P w) (k + 1) f fd ps sp := by
  obtain ⟨oc, od, kV, doc, pm, an, cdv, ct, osl, rfl, lk, hcd⟩ := F.ex
  refine fn_of lk hcd S len fun A outer s H vs Q E hr hsp => ?_
  obtain ⟨t, h, q⟩ := hbody cdv A outer s H vs Q E hr hsp
  exact ⟨t, h.nox, q⟩
end
theorem cxe_false {P : Program} {w : World} {o : List Env} {H : Hp} {s : Shared} {e : Value} {s' : Shared} (h : CXe P w o H s (fun _ _ _ => False) e s') : False := by
  obtain ⟨_, _, _, _, _, z⟩ := h
  exact z
theorem body_nox {CX : CXT} {P : Program} {w : World} {K : Frag} {mg : Str → Option Value} {base : Heap} {N : List Str} {qual : Str} {scope : Scope} {f : Addr} {cd : Value} {A : Around} {outer : List Env} {s : Shared} {H : Hp} {E : XK} :
    Body (cxOf CX P w K mg base N qual scope f cd A outer s H E).nox := ⟨rfl, rfl, rfl, rfl⟩
inductive TyX (K : Frag) (H : Hp) : V → Value → Prop where
  | non : TyX K H .non (.type "NoneType")
  | exc {a C : Addr} (e : H a = some (excO C a)) (c : ExCls K C) : TyX K H (.ref a) (.ref C)
theorem TyX.kit {X : Cx} {pins : List (Addr × Obj)} {σ : St} {H : Hp} {s : Shared} {x : V} {t u : Value} (y : TyX X.K H x t) (I : Inv X pins σ H s) (r : RelV x u) : ∃ Hh, KitX X.K u t Hh ∧ Hh s.heap ∧ u ≠ .builtin "__main__.__loader__#opaque" := by
  cases y with
  | non => cases (show u = Value.none from r); exact ⟨_, kitx_none, trivial, fun z => nomatch z⟩
  | exc e c => cases (show u = Value.ref _ from r); exact ⟨_, kitx_exc c, excO_at I.hok e, fun z => nomatch z⟩
def rInstX (K : Frag) : List V → Hp → VK → Prop := fun xs H Q => ∃ x c t u b, xs = [x, c] ∧ TyX K H x t ∧ ClsV c u ∧ kitOne K t u = some b ∧ Q (.bl b) H
theorem call_instX {X : Cx} : CallR X (.builtin "isinstance") (rInstX X.K) := by
  intro pins s σ H xs us Q I r h
  obtain ⟨x, c, t, u, b, rfl, ty, rc, e, q⟩ := h
  obtain ⟨u1, u2, rfl, r1, r2⟩ := vals2 r
  have e2 : u2 = u := by
    cases rc <;> (cases r2; rfl)
  subst e2
  obtain ⟨Hh, Z, p, ne⟩ := ty.kit I r1
  exact kia_one Z I.kIn p e ne fun tk => ⟨.bl b, H, I.tok _, rfl, q⟩
def rInstT (K : Frag) : List V → Hp → VK → Prop := fun xs H Q => ∃ x tp cs t us b, xs = [x, .ref tp] ∧ TyX K H x t ∧ H tp = some (.tup cs) ∧ Paired ClsV cs us ∧ kitAny K t us = some b ∧ Q (.bl b) H
theorem cls_vals : ∀ {cs : List V} {us ws : List Value}, Paired ClsV cs us → Vals cs ws → ws = us
  | _, _, _, .nil, .nil => rfl
  | _, _, _, .cons r t, .cons q z => by
    have e := cls_vals t z
    subst e
    cases r <;> (cases q; rfl)
theorem call_instT {X : Cx} : CallR X (.builtin "isinstance") (rInstT X.K) := by
  intro pins s σ H xs us Q I r h
  obtain ⟨x, tp, cs, t, ws, b, rfl, ty, htp, pc, e, q⟩ := h
  obtain ⟨u1, u2, rfl, r1, r2⟩ := vals2 r
  cases (show u2 = Value.ref tp from r2)
  obtain ⟨Hh, Z, p, ne⟩ := ty.kit I r1
  obtain ⟨_, its, rv, ob, hob, hc, n, hd⟩ := (show ObjOk X.prog X.w H s.heap tp (.tup cs) from I.hok tp _ htp)
  have ei := cls_vals pc rv
  subst ei
  obtain ⟨oc, od, odt, osl⟩ := ob
  dsimp only at hc hd
  subst hc hd
  exact kia_tup Z I.kIn p hob e ne fun tk => ⟨.bl b, H, I.tok _, rfl, q⟩
section
variable {H : Hp} {Q : VK} {K : Frag}
theorem r_instX {x c : V} {t u : Value} {b : Bool} (ty : TyX K H x t) (hc : ClsV c u) (e : kitOne K t u = some b) (q : Q (.bl b) H) : rInstX K [x, c] H Q := ⟨x, c, t, u, b, rfl, ty, hc, e, q⟩
theorem r_instT {x : V} {tp : Addr} {cs : List V} {t : Value} {us : List Value} {b : Bool} (ty : TyX K H x t) (h : H tp = some (.tup cs)) (hc : Paired ClsV cs us) (e : kitAny K t us = some b) (q : Q (.bl b) H) : rInstT K [x, .ref tp] H Q := ⟨x, tp, cs, t, us, b, rfl, ty, h, hc, e, q⟩
theorem r_raise {Ex : XK} {C : Addr} {ta : TA} {D : Ends} {σ : St} (h : ta σ H fun vs H1 => vs.length ≤ sizeLine ∧ Ex (.ref C) none H1) : tRaise Ex C ta D σ H := h
theorem r_tryAs {sp : Sp} {ta : TA} {M : Addr} {jn : Nat} {ts : TS} {D : Ends} {σ : St} (h : ta σ H fun vs H1 => sp (vs ++ []) H1 (fun _ H2 => D.nx σ H2) (hAs K M jn ts D σ)) : tTryAs K sp ta M jn ts D σ H := h
end
end L2
end
section
set_option Elab.async false
set_option linter.all false
set_option maxRecDepth 100000
namespace L2
open PySem PySem.Spec PySem.W PySem.Calls PyProof.Rows
def rNe2 (K : Frag) : R2 := fun x y H Q => ∃ p q a b c d, x = .ref p ∧ y = .ref q ∧ SqT K H p [.int a, .int b] ∧ SqT K H q [.int c, .int d] ∧ Q (.bl (!decide (a = c ∧ b = d))) H
end L2
end
section
set_option Elab.async false
set_option linter.all false
set_option maxRecDepth 100000
namespace L2
open PySem PySem.Spec PySem.W PySem.Calls PyProof.Rows
def AllIn (cells : List (Str × Addr)) : List (Str × Addr) → Prop
  | [] => True
  | p :: r => cells.lookup p.1 = some p.2 ∧ AllIn cells r
theorem AllIn.get {cells : List (Str × Addr)} : ∀ {cl : List (Str × Addr)}, AllIn cells cl → ∀ {x c}, cl.lookup x = some c → cells.lookup x = some c
  | [], _, x, c, e => by cases e
  | (n, d) :: r, h, x, c, e => by
    rw [List.lookup_cons] at e
    cases q : x == n with
    | true =>
      rw [q] at e; cases e
      have z : x = n := by simpa using q
      subst z
      exact h.1
    | false => rw [q] at e; exact AllIn.get h.2 e
def PIfs (X : Cx) (ifs : List Expr) (t : TT) : Prop :=
  ∀ (pins : List (Addr × Obj)) (s : Shared) (σ : St) (H : Hp) (Q : Bool → Hp → Prop), Inv X pins σ H s → t σ H Q →
    wpAny (model X.prog X.w) X.A (forIn ifs true fun c r => if r = true then do let ok ← isTrue c X.env (eval c X.env); pure (ForInStep.yield ok) else pure (ForInStep.yield r)) (TP X pins σ Q) X.xe s
def tTrue : TT := fun _ H Q => Q true H
theorem pifs_nil {X : Cx} : PIfs X [] tTrue := fun _ _ _ H _ I h => wpAny_tests_nil ⟨H, I, h⟩
section
variable {prog : Program} {w : World} {A : Around} {R : Result → Shared → Prop} {s : Shared}
theorem comp_loop {elt target iter : Expr} {ifs : List Expr} {scope : Scope} {pos : Pos} {it acc : Value} {env : Env} (I : Nat → Shared → Prop)
    (turn : ∀ n s, I n s → wpAny (model prog w) A (pyNext it) (fun r s₁ => match r with
      | none => R (.ok .next) s₁
      | some v => wpAny (model prog w) A (letOwnedTupleGo target it v) (fun _ s1 => wpAny (model prog w) A (assign target env v) (fun _ s₂ =>
          wpAny (model prog w) A (forIn ifs true fun c r => if r = true then do let ok ← isTrue c env (eval c env); pure (ForInStep.yield ok) else pure (ForInStep.yield r)) (fun ok s₃ =>
            if ok = true then wpAny (model prog w) A (eval elt env) (fun x s₄ => wpAny (model prog w) A (call (.builtin "list.append") [acc, x]) (fun _ s₅ => ∃ m, m < n ∧ I m s₅) (fun _ _ => False) s₄) (fun _ _ => False) s₃
            else ∃ m, m < n ∧ I m s₃) (fun _ _ => False) s₂) (fun _ _ => False) s1) (fun _ _ => False) s₁) (fun _ _ => False) s)
    (n : Nat) (h : I n s) : codeAny (model prog w) A (.compLoop (.ListComp elt [⟨target, iter, ifs, 0⟩] scope pos) 0 it acc env) R s := by
  refine codeAny_loop rfl I (fun n s hI => ?_) n h
  show wpAny _ A ((compTurn (.ListComp elt [⟨target, iter, ifs, 0⟩] scope pos) 0 it acc env).onRaise (fun x => do noteFrame x env; theTreesLotGoes x)) _ _ s
  refine wpAny_noted ?_
  rw [compTurn_list]
  refine wpAny_bind (wpAny_standAt (wpAny_bind (wpAny_mono (turn n s hI) (fun r s₁ h₁ => ?_) fun _ _ z => False.elim z)))
  cases r with
  | none => exact wpAny_pure h₁
  | some v =>
    refine wpAny_bind (wpAny_mono h₁ (fun _ s1 h1 => wpAny_bind (wpAny_mono h1 (fun _ s₂ h₂ => wpAny_bind (wpAny_mono h₂ (fun ok s₃ h₃ => ?_) fun _ _ z => False.elim z)) fun _ _ z => False.elim z)) fun _ _ z => False.elim z)
    cases ok with
    | false => exact wpAny_pure ⟨rfl, h₃⟩
    | true =>
      exact wpAny_bind (wpAny_bind (wpAny_mono h₃ (fun x s₄ h₄ => wpAny_bind (wpAny_mono h₄ (fun _ s₅ h₅ => wpAny_pure (wpAny_pure ⟨rfl, h₅⟩)) fun _ _ z => False.elim z)) fun _ _ z => False.elim z))
end
def Cx.block (X : Cx) (scope : Scope) (cl : List (Str × Addr)) (C : Addr) (N : List Str) (fp : List Addr) (pins : List (Addr × Obj)) (s : Shared) (H : Hp) : Cx :=
  { X with N := N, s₀ := s, H₀ := H, env := compEnvC scope cl C X.env, outer := X.stack, ex := fp, fn := fun _ => false, pn := X.pn ++ pins, xe := fun _ _ => False }
def blockSt (n : Nat) (fr : List Nat) (σ : St) : St := List.replicate n none ++ fr.map fun i => (σ[i]?).join
structure BlockOk (X : Cx) (scope : Scope) (cl : List (Str × Addr)) (tg : List Str) (fr : List (Str × Nat)) : Prop where
  kind : scope.kind = .function
  nocell : ∀ y ∈ scope.names, y.2 ≠ .cell
  names : ∀ y ∈ scope.names, y.2 = .local → scope.names.lookup y.1 = some .local
  clos : closureFor scope X.env = pure cl
  allin : AllIn X.env.cells cl
  has : ((relabel scope X.env).names.all fun p => !(p.2 == .cell || p.2 == .free) || (cl.lookup p.1).isSome) = true
  frN : ∀ p ∈ fr, X.N[p.2]? = some p.1 ∧ Vis X.env.scope p.1 ∧ (cl.lookup p.1).isSome = true ∧ (relabel scope X.env).names.lookup p.1 = some .cell
  frL : ∀ p ∈ fr, X.env.kindOf p.1 = some .cell
section
variable {X : Cx} {pins : List (Addr × Obj)} {σ : St} {H : Hp} {s : Shared} {scope : Scope} {cl : List (Str × Addr)} {tg : List Str} {fr : List (Str × Nat)}
theorem lookup_mem {κ α : Type} [BEq κ] [LawfulBEq κ] : ∀ {l : List (κ × α)} {x : κ} {v : α}, l.lookup x = some v → (x, v) ∈ l
  | [], _, _, e => by cases e
  | (k, u) :: r, x, v, e => by
    rw [List.lookup_cons] at e
    cases q : x == k with
    | true =>
      rw [q] at e; cases e
      have z : x = k := by simpa using q
      subst z
      exact List.mem_cons_self
    | false => rw [q] at e; exact List.mem_cons_of_mem _ (lookup_mem e)
theorem block_start {C : Addr} {fp : List Addr} {h' : Heap} {t' : Nat} {m : Str → Option Value} (B : BlockOk X scope cl tg fr) (I : Inv X pins σ H s) (hf : ∀ b ∈ fp, FpOk X pins H b ∧ b < s.heap.objs.size) (hC : s.heap.objs.size ≤ C) (hn : h'.Ns C m) (k : ∀ b o, s.heap.get? b = some o → h'.get? b = some o)
    {H2 : Hp} (hu : Un (frs X.stack) fp H H2 s.heap h') (hok : HOk X.prog X.w H2 h') (hfree : H2 C = none) :
    Inv (X.block scope cl C (tg ++ fr.map (·.1)) fp pins s H) [] (blockSt tg.length (fr.map (·.2)) σ) H2 { s with heap := h', toks := t' } := by
  have cells : ∀ {x c}, cl.lookup x = some c → X.env.cells.lookup x = some c := fun e => B.allin.get e
  have cC : ∀ x c, X.env.cells.lookup x = some c → c ≠ C := fun x c e z => by
    obtain ⟨v, o, ho, _⟩ := I.cell x c e
    exact absurd (Nat.lt_of_lt_of_le (Heap.lt_size ho) hC) (by rw [z]; exact Nat.lt_irrefl _)
  have cellK : ∀ {c v}, s.heap.IsCell c v → h'.IsCell c v := fun {c v} ⟨o, e, d⟩ => ⟨o, k c o e, d⟩
  have cellH : ∀ x c, X.env.cells.lookup x = some c → c ∉ fp ∧ H2 c = none := fun x c e => by
    have nf : c ∉ fp := fun z => (hf c z).1.2.2.2.2.1 x c e rfl
    obtain ⟨v, o, ho, _⟩ := I.cell x c e
    exact ⟨nf, hu.free c o ho (I.freeC x c e) nf⟩
  have pinK : ∀ p ∈ X.pn ++ pins, p.1 ∉ fp ∧ H2 p.1 = none := fun p hp => by
    have nf : p.1 ∉ fp := fun z => (hf p.1 z).1.2.2.2.2.2 p hp rfl
    obtain ⟨e, n, _⟩ := I.pin p hp
    exact ⟨nf, hu.free p.1 _ e n nf⟩
  have stkC : ∀ b ∈ frs X.stack, b < s.heap.objs.size := fun b hb => by
    obtain ⟨_, o, ho, _⟩ := I.stack.mem hb
    exact Heap.lt_size ho
  refine ⟨⟨I.ok.mod, B.kind, I.ok.glob, I.ok.blt, hC, fun x y c h1 h2 => I.ok.inj x y c (cells h1) (cells h2), fun x hx => ?_, fun x c z => absurd (show false = true from z) Bool.false_ne_true, I.ok.hd, I.ok.frames, .inl rfl, fun b hb => ?_, fun b o e => ⟨?_, ?_⟩, ?_, fun b o e z => ?_, fun b hb z => ?_, I.stack, I.stkFree⟩,
    rfl, I.bare, hu, ⟨m, hn, fun i x v h1 h2 h3 => ?_⟩, fun x c e => ?_, hfree, fun x c e => (cellH x c (cells e)).2, fun p hp => ?_, hok, ?_⟩
  · have e : (relabel scope X.env).names.lookup x = some .cell ∨ (relabel scope X.env).names.lookup x = some .free := hx
    have mem : ∃ kk, (x, kk) ∈ (relabel scope X.env).names ∧ (kk == NameKind.cell || kk == NameKind.free) = true := by
      rcases e with e | e
      · exact ⟨_, lookup_mem e, rfl⟩
      · exact ⟨_, lookup_mem e, rfl⟩
    obtain ⟨kk, mm, hk⟩ := mem
    have z := List.all_eq_true.mp B.has _ mm
    simp only [hk, Bool.not_true, Bool.false_or] at z
    exact Option.isSome_iff_exists.mp z
  · exact ⟨fun z => absurd (Nat.lt_of_lt_of_le (hf b hb).2 hC) (by rw [z]; exact Nat.lt_irrefl _), fun x c e z => (cellH x c (cells e)).1 (z ▸ hb)⟩
  · exact (I.bs b o e).1
  · exact (I.bs b o e).2
  · exact Nat.le_trans I.ok.bsz I.sz
  · rcases (hf b z).1.2.2.2.1 with q | q
    · exact I.ok.noex b o e q
    · exact absurd (Nat.lt_of_lt_of_le (Heap.lt_size (I.ok.bs b o e).1) q) (Nat.lt_irrefl _)
  · have z' : b ∈ frs X.stack := z
    rcases List.mem_cons.mp (I.stkSub b z') with q | q
    · exact (hf b hb).1.2.1 q
    · exact (hf b hb).1.2.2.1 q
  · have hi : tg.length ≤ i := by
      refine Nat.le_of_not_lt fun z => ?_
      unfold blockSt at h2
      rw [List.getElem?_append_left (by simpa using z), List.getElem?_replicate, if_pos z] at h2
      cases h2
    have h1' : (fr.map (·.1))[i - tg.length]? = some x := by
      have z : (tg ++ fr.map (·.1))[i]? = some x := h1
      rw [List.getElem?_append_right hi] at z
      exact z
    have h2' : ((fr.map (·.2)).map fun i => (σ[i]?).join)[i - tg.length]? = some (some v) := by
      unfold blockSt at h2
      rw [List.getElem?_append_right (by simpa using hi)] at h2
      simpa using h2
    rw [List.getElem?_map] at h1'
    rw [List.getElem?_map, List.getElem?_map] at h2'
    cases q : fr[i - tg.length]? with
    | none => rw [q] at h1'; cases h1'
    | some p =>
      rw [q] at h1' h2'
      have ex : p.1 = x := Option.some.inj h1'
      have ev : (σ[p.2]?).join = some v := Option.some.inj h2'
      subst ex
      obtain ⟨f1, f2, f3, f4⟩ := B.frN p (List.mem_of_getElem? q)
      have eσ : σ[p.2]? = some (some v) := by
        cases z : σ[p.2]? with
        | none => rw [z] at ev; cases ev
        | some w' => rw [z] at ev; exact congrArg some ev
      obtain ⟨m0, hn0, hl0⟩ := I.loc
      obtain ⟨u, r, l⟩ := hl0 p.2 p.1 v f1 eσ f2
      refine ⟨u, r, ?_⟩
      obtain ⟨c, hc⟩ := Option.isSome_iff_exists.mp f3
      have hk := B.frL p (List.mem_of_getElem? q)
      rcases l with ⟨kl, _⟩ | ⟨_, c', hc', z⟩
      · rw [hk] at kl; cases kl
      · have e' := cells hc
        rw [hc'] at e'
        cases e'
        exact .inr ⟨.inl f4, c, hc, cellK z⟩
  · obtain ⟨v, z⟩ := I.cell x c (cells e)
    exact ⟨v, cellK z⟩
  · rw [List.append_nil] at hp
    obtain ⟨e, n, ne, nf, d⟩ := I.pin p hp
    refine ⟨k _ _ e, (pinK p hp).2, fun z => absurd (Nat.lt_of_lt_of_le (Heap.lt_size e) hC) (by rw [z]; exact Nat.lt_irrefl _), fun z => ?_, d⟩
    rcases List.mem_cons.mp (I.stkSub _ z) with q | q
    · exact ne q
    · exact nf q
  · unfold blockSt
    show _ = (tg ++ fr.map (·.1)).length
    simp
end
end L2
end
section
set_option Elab.async false
set_option linter.all false
set_option maxRecDepth 100000
namespace L2
open PySem PySem.Spec PySem.W PySem.Calls PyProof.Rows
def tComp (wi : TI) (g : TG) (tt : TT) (te : TE) (n : Nat) (fr : List Nat) : TE := fun σ H Q => wi σ H fun J H1 => ∀ acc, H1 acc = none → ∃ W : Nat → Nat → St → List V → Hp → Prop, (∃ m, W 0 m (blockSt n fr σ) [] (upd H1 acc (.lst []))) ∧
  ∀ i m σ' ys H2, W i m σ' ys H2 → ((J.stop i H2 ∧ Q (.ref acc) H2) ∨ (J.go i H2 ∧ ∀ x H3, J.yld i H2 x H3 → g x σ' H3 fun σ2 H4 => tt σ2 H4 fun b H5 =>
    if b = true then te σ2 H5 fun y H6 => H6 acc = some (.lst ys) ∧ ys.length < sizeLine ∧ ∃ m', m' < m ∧ W (i + 1) m' σ2 (ys ++ [y]) (upd H6 acc (.lst (ys ++ [y]))) else ∃ m', m' < m ∧ W (i + 1) m' σ2 ys H5))
section
variable {X : Cx} {scope : Scope} {cl : List (Str × Addr)} {tg : List Str} {fr : List (Str × Nat)} {elt target iter : Expr} {ifs : List Expr} {wi : TI} {g : TG} {tt : TT} {te : TE} {pos : Pos}
theorem comp_core (B : BlockOk X scope cl tg fr) (hc : X.calm = true) (hi : PI X target iter wi)
    (hg : ∀ C fp pins s H, PG (X.block scope cl C (tg ++ fr.map (·.1)) fp pins s H) target g) (ht : ∀ C fp pins s H, PIfs (X.block scope cl C (tg ++ fr.map (·.1)) fp pins s H) ifs tt) (he : ∀ C fp pins s H, PE (X.block scope cl C (tg ++ fr.map (·.1)) fp pins s H) elt te)
    {pins : List (Addr × Obj)} {σ : St} {H : Hp} {s : Shared} {Q : VK} (I : Inv X pins σ H s) (hw : tComp wi g tt te tg.length (fr.map (·.2)) σ H Q) {RR : Value → Addr → Result → Shared → Prop}
    (hRR : ∀ D C s1 H5 m, Inv X pins σ H5 s1 → s1.heap.Ns C m → H5 C = none → C ≠ X.env.locals → X.s₀.heap.objs.size ≤ C → (∀ x c, X.env.cells.lookup x = some c → c ≠ C) → (∀ p ∈ X.pn ++ pins, p.1 ≠ C) → Q (.ref D) H5 → RR (.ref D) C (.ok .next) s1) :
    wpAny (model X.prog X.w) X.A (eval iter X.env) (fun xv s1 => wpAny (model X.prog X.w) X.A (pyIter xv) (fun it s2 => wpAny (model X.prog X.w) X.A (newList []) (fun acc s3 =>
      wpAny (model X.prog X.w) X.A (newFunctionEnv scope X.env.globals cl [] X.env.qual none .none (some X.env)) (fun cenv s4 =>
        codeAny (model X.prog X.w) X.A (.compStart (.ListComp elt [⟨target, iter, ifs, 0⟩] scope pos) 0 it acc { cenv with scope := relabel scope X.env }) (RR acc cenv.locals) s4) X.xe s3) X.xe s2) X.xe s1) X.xe s := by
  refine wpAny_mono (hi pins s σ H _ I hw) (fun xv s1 h1 => wpAny_mono h1 (fun itv s2 h2 => ?_) fun _ _ z => z) fun _ _ z => z
  obtain ⟨it, fp, tn, J, H1, rfl, I2, T, tn0, f2, hw2⟩ := h2
  have flt : ∀ b ∈ fp, b < s2.heap.objs.size := fun b hb => by
    obtain ⟨o, e, _⟩ := T.obj _ _ tn0 b hb
    exact Heap.lt_size e
  refine wpAny_newObj_type (wpAny_newFunctionEnv B.nocell (by intro y hy; simp at hy) (fun h3 hns hsb => ?_) B.kind)
  dsimp only at hns hsb ⊢
  generalize hP : s2.heap.push { cls := .type "list", dict := none, data := .seq ([] : List Value).toArray } = hp at hns hsb ⊢
  have hC : hp.objs.size = s2.heap.objs.size + 1 := by rw [← hP, Heap.size_push]
  have hlt : s2.heap.objs.size < hp.objs.size := by rw [hC]; exact Nat.lt_succ_self _
  have k3 : ∀ b o, s2.heap.get? b = some o → h3.get? b = some o := fun b o e => by
    have l := Heap.lt_size e
    refine hsb.extBut b o (Nat.ne_of_lt (Nat.lt_trans l hlt)) (Heap.get?_push_of_some _ (hP ▸ Heap.get?_push_of_some _ e))
  have hD : H1 s2.heap.objs.size = none := I2.hok.fresh (Nat.le_refl _)
  have hacc : h3.get? s2.heap.objs.size = some { cls := .type "list", dict := none, data := .seq ([] : List Value).toArray } := hsb.extBut _ _ (Nat.ne_of_lt hlt) (Heap.get?_push_of_some _ (hP ▸ Heap.get?_push_size _ rfl))
  obtain ⟨W, ⟨m0, w0⟩, turn⟩ := hw2 _ hD
  have un0 : Un (frs X.stack) fp H1 (upd H1 s2.heap.objs.size (.lst [])) s2.heap h3 := Un.laid k3 (Nat.le_refl _) hD
  have ok0 : HOk X.prog X.w (upd H1 s2.heap.objs.size (.lst [])) h3 := I2.hok.laid k3 (Nat.le_refl _) ⟨Nat.zero_le _, [], 0, .nil, hacc⟩
  have fC : upd H1 s2.heap.objs.size (.lst []) hp.objs.size = none := by rw [upd_ne (Nat.ne_of_gt hlt)]; exact I2.hok.fresh (Nat.le_of_lt hlt)
  have ltL := I2.lt
  have nL : hp.objs.size ≠ X.env.locals := Nat.ne_of_gt (Nat.lt_trans ltL hlt)
  have s0C : X.s₀.heap.objs.size ≤ hp.objs.size := Nat.le_trans I2.sz (Nat.le_of_lt hlt)
  have cC : ∀ x c, X.env.cells.lookup x = some c → c ≠ hp.objs.size := fun x c e z => by
    obtain ⟨v, o, ho, _⟩ := I2.cell x c e
    exact absurd (Nat.lt_trans (Heap.lt_size ho) hlt) (by rw [z]; exact Nat.lt_irrefl _)
  have pC : ∀ p ∈ X.pn ++ pins, p.1 ≠ hp.objs.size := fun p hp' z => by
    exact absurd (Nat.lt_trans (Heap.lt_size (I2.pin p hp').1) hlt) (by rw [z]; exact Nat.lt_irrefl _)
  have J0 := block_start (t' := s2.toks + ([] : List (Str × Value)).length) B I2 (fun b hb => ⟨f2 b hb, flt b hb⟩) (Nat.le_of_lt hlt) hns k3 un0 ok0 fC
  have fpX : ∀ {H' : Hp} {pl : List (Addr × Obj)}, (∀ b ∈ fp, H' b = none) → (∀ p ∈ pl, p.1 ∉ fp) → ∀ b ∈ fp, FpOk (X.block scope cl hp.objs.size (tg ++ fr.map (·.1)) fp pins s2 H1) pl H' b := fun hn hpl b hb => by
    obtain ⟨g0, g1, g2, g3, g4, g5⟩ := f2 b hb
    refine ⟨hn b hb, fun z => ?_, fun z => ?_, .inl hb, fun x c e => g4 x c (B.allin.get e), fun p hp' z => ?_⟩
    · have z' : b = hp.objs.size := z
      exact absurd (Nat.lt_trans (flt b hb) hlt) (by rw [z']; exact Nat.lt_irrefl _)
    · rcases List.mem_cons.mp (I2.stkSub b z) with q | q
      · exact g1 q
      · exact g2 q
    · rcases List.mem_append.mp hp' with q | q
      · exact g5 p q z
      · exact hpl p q (z ▸ hb)
  have loop : ∀ s3 : Shared, s3 = { s2 with heap := h3, toks := s2.toks + ([] : List (Str × Value)).length } →
      codeAny (model X.prog X.w) X.A (.compLoop (.ListComp elt [⟨target, iter, ifs, 0⟩] scope pos) 0 (.ref it) (.ref s2.heap.objs.size) (compEnvC scope cl hp.objs.size X.env)) (RR (.ref s2.heap.objs.size) hp.objs.size) s3 := by
    rintro s3 rfl
    refine comp_loop (fun n s' => ∃ i σ' ys H5, Inv (X.block scope cl hp.objs.size (tg ++ fr.map (·.1)) fp pins s2 H1) [] σ' H5 s' ∧ tn i s'.heap ∧ (∀ b ∈ fp, H5 b = none) ∧ W i n σ' ys H5) ?_ m0
      ⟨0, _, [], _, J0, T.keep _ _ _ tn0 fun b hb o e => k3 b o e, fun b hb => ?_, w0⟩
    · rintro n s' ⟨i, σ', ys, H5, J5, t5, f5, w5⟩
      rcases turn i n σ' ys H5 w5 with ⟨stop, q⟩ | ⟨go, step⟩
      · refine wpAny_mono (T.done (X.block scope cl hp.objs.size (tg ++ fr.map (·.1)) fp pins s2 H1) rfl rfl rfl hc i [] s' σ' H5 (fun _ _ => False) J5 (fpX f5 (by simp)) t5 stop) (fun r s6 ⟨hr, J6⟩ => ?_) fun _ _ z => z
        subst hr
        obtain ⟨m6, hn6, _⟩ := J6.loc
        exact hRR _ _ _ H5 m6 (I2.call' (ch := fp) J6.os J6.base J6.hok J6.bare fun b hb => by obtain ⟨g0, g1, g2, g3, g4, g5⟩ := f2 b hb; exact ⟨g3, g1, g4, g5⟩) hn6 J6.free nL s0C cC pC q
      · refine wpAny_mono (T.item (X.block scope cl hp.objs.size (tg ++ fr.map (·.1)) fp pins s2 H1) rfl rfl rfl hc i [] s' σ' H5 (fun _ _ => False) J5 (fpX f5 (by simp)) t5 go) (fun r s6 ⟨u, hr, h6⟩ => ?_) fun _ _ z => z
        subst hr
        refine wpAny_mono h6 (fun _ s7 ⟨x, H7, J7, r7, y7, t7, f7⟩ => ?_) fun _ _ z => z
        have J7' := J7.pinned (fpX f7 (by simp)) (T.obj _ _ t7)
        have again : ∀ {σ8 : St} {H8 : Hp} {s8 : Shared} {ys' : List V}, Inv (X.block scope cl hp.objs.size (tg ++ fr.map (·.1)) fp pins s2 H1) ([] ++ pinsAt fp s7.heap) σ8 H8 s8 → (∃ m', m' < n ∧ W (i + 1) m' σ8 ys' H8) →
            ∃ m', m' < n ∧ ∃ i σ' ys H5, Inv (X.block scope cl hp.objs.size (tg ++ fr.map (·.1)) fp pins s2 H1) [] σ' H5 s8 ∧ tn i s8.heap ∧ (∀ b ∈ fp, H5 b = none) ∧ W i m' σ' ys H5 := fun {σ8 H8 s8 ys'} J8 ⟨m', hm, w8⟩ => by
          refine ⟨m', hm, i + 1, σ8, ys', H8, J8.unpinned, T.keep _ _ _ t7 fun b hb o e => (J8.pin (b, o) (List.mem_append_right _ (List.mem_append_right _ (mem_pinsAt hb e)))).1, fun b hb => ?_, w8⟩
          obtain ⟨o, e, d⟩ := T.obj _ _ t7 b hb
          exact (J8.pin (b, o) (List.mem_append_right _ (List.mem_append_right _ (mem_pinsAt hb e)))).2.1
        refine wpAny_mono (hg _ _ _ _ _ _ s7 σ' H7 x u _ J7' r7 (step x H7 y7)) (fun _ s8 ⟨σ8, H8, J8, q8⟩ => ?_) fun _ _ z => z
        refine wpAny_mono (ht _ _ _ _ _ _ s8 σ8 H8 _ J8 q8) (fun b s9 ⟨H9, J9, q9⟩ => ?_) fun _ _ z => z
        cases b with
        | false =>
          rw [if_neg Bool.false_ne_true] at q9 ⊢
          exact again J9 q9
        | true =>
          rw [if_pos rfl] at q9 ⊢
          refine wpAny_mono (he _ _ _ _ _ _ s9 σ8 H9 _ J9 q9) (fun y s10 ⟨v, H10, J10, r10, ha10, hl10, q10⟩ => ?_) fun _ _ z => z
          refine wpAny_mono (mt_append (X := X.block scope cl hp.objs.size (tg ++ fr.map (·.1)) fp pins s2 H1) _ s10 σ8 H10 (.ref s2.heap.objs.size) [v] (.ref s2.heap.objs.size) [y] (fun _ H11 => ∃ m', m' < n ∧ W (i + 1) m' σ8 (ys ++ [v]) H11) J10 rfl (.cons r10 .nil) ⟨_, ys, v, rfl, rfl, ha10, hl10, q10⟩) (fun _ s11 ⟨_, H11, J11, _, q11⟩ => ?_) fun _ _ z => z
          exact again J11 q11
    · have l := flt b hb
      rw [upd_ne (Nat.ne_of_lt l)]; exact (f2 b hb).1
  exact codeAny_compStart_list (loop _ rfl) (T.self X.A 0 _ _ _ (T.keep _ _ _ tn0 fun b hb o e => k3 b o e) (loop _ rfl))
theorem pe_comp (B : BlockOk X scope cl tg fr) (hc : X.calm = true) (hi : PI X target iter wi)
    (hg : ∀ C fp pins s H, PG (X.block scope cl C (tg ++ fr.map (·.1)) fp pins s H) target g) (ht : ∀ C fp pins s H, PIfs (X.block scope cl C (tg ++ fr.map (·.1)) fp pins s H) ifs tt) (he : ∀ C fp pins s H, PE (X.block scope cl C (tg ++ fr.map (·.1)) fp pins s H) elt te)
    (hs : ∀ x, foldedSetIterable iter X.env x = pure x := by intro _; rfl) : PE X (.ListComp elt [⟨target, iter, ifs, 0⟩] scope pos) (tComp wi g tt te tg.length (fr.map (·.2))) := by
  intro pins s σ H Q I hw
  rw [eval_ListComp]
  refine wpAny_comprehension_free (use := none) rfl hs B.clos B.kind B.names (comp_core B hc hi hg ht he I hw (RR := fun acc C => compPost (model X.prog X.w) X.A X.xe none (EP X pins σ Q) acc C) fun D C s1 H5 m J hn f0 f1 f2 f3 f4 q => ?_)
  refine ⟨m, hn, fun h' sb => ⟨.ref D, H5, ?_, rfl, q⟩⟩
  exact J.turned (t' := s1.toks) (fun b o hb e => (sb.2 b hb).trans e) f0 f1 (.inr f2) f3 f4
theorem ps_setC {i : Nat} {y : Str} {py spos : Pos} (hN : X.N.Nodup) (hy : X.N[i]? = some y) (hl : Loc X.env.scope y) (B : BlockOk X scope cl tg fr) (hc : X.calm = true) (hi : PI X target iter wi)
    (hg : ∀ C fp pins s H, PG (X.block scope cl C (tg ++ fr.map (·.1)) fp pins s H) target g) (ht : ∀ C fp pins s H, PIfs (X.block scope cl C (tg ++ fr.map (·.1)) fp pins s H) ifs tt) (he : ∀ C fp pins s H, PE (X.block scope cl C (tg ++ fr.map (·.1)) fp pins s H) elt te)
    (hs : ∀ x, foldedSetIterable iter X.env x = pure x := by intro _; rfl) (hsw : swapsWith (.ListComp elt [⟨target, iter, ifs, 0⟩] scope pos) (some (.Name y py)) spos.line X.env = pure true := by rfl)
    (hf : X.fn y = true ∨ X.env.scope.names.lookup y = some .local := by first | exact .inl rfl | exact .inr rfl | assumption) :
    PS X (.Assign [.Name y py] (.ListComp elt [⟨target, iter, ifs, 0⟩] scope pos) spos) (tAsg (tComp wi g tt te tg.length (fr.map (·.2))) (gName i)) := by
  intro pins s σ H D I hw
  rw [exec_Assign_Name_used _ _ _ _ hsw]
  refine wpAny_bind (wpAny_standAt (wpAny_bind ?_))
  show wpAny _ _ (do let _ ← comprehension (.ListComp elt [⟨target, iter, ifs, 0⟩] scope pos) scope X.env _ (newList []) false (eval iter X.env) (some (assign (.Name y py) X.env))) _ _ s
  refine wpAny_bind (wpAny_mono (wpAny_comprehension_free (use := some (assign (.Name y py) X.env)) (Q := fun _ s' => SP X pins D .next s') rfl hs B.clos B.kind B.names
    (comp_core B hc hi hg ht he I hw (RR := fun acc C => compPost (model X.prog X.w) X.A X.xe (some (assign (.Name y py) X.env)) (fun _ s' => SP X pins D .next s') acc C) fun R C s1 H5 m J hn f0 f1 f2 f3 f4 q => ?_)) (fun _ s' hq => wpAny_pure (wpAny_pure hq)) fun _ _ z => z)
  show wpAny _ _ (assign (.Name y py) X.env (.ref R)) _ _ _
  refine wpAny_assign_Name (store_ok2 (v := .ref R) J hN hy hl rfl (fun s2 J2 ⟨a, sb, ha⟩ => ?_) hf)
  have na : C ≠ a := by
    rcases ha with z | z
    · rw [z]; exact f1
    · exact Ne.symm (f3 y a z)
  refine ⟨m, hn.sameBut sb na, fun h' sb' => ⟨_, H5, ?_, q⟩⟩
  exact J2.turned (t' := s2.toks) (fun b o hb e => (sb'.2 b hb).trans e) f0 f1 (.inr f2) f3 f4
end
end L2
end
section
set_option Elab.async false
set_option linter.all false
set_option maxRecDepth 100000
namespace L2
open PySem PySem.Spec PySem.W PySem.Calls PyProof.Rows
section
variable {X : Cx}
def rInsert : V → List V → Hp → VK → Prop := fun x vs H Q => ∃ l xs y, ∃ k : Nat, x = .ref l ∧ vs = [.int k, y] ∧ H l = some (.lst xs) ∧ k ≤ xs.length ∧ xs.length < sizeLine ∧ Q .non (upd H l (.lst (xs.take k ++ y :: xs.drop k)))
theorem mt_insert : MtM X "list.insert" rInsert := by
  intro pins s σ H x vs v us Q I rx rv h
  obtain ⟨l, xs, y, k, rfl, rfl, hH, hk, hz, q⟩ := h
  cases rx
  obtain ⟨u1, u2, rfl, ⟨t, rfl⟩, ru⟩ := vals2 rv
  obtain ⟨z, its, n, r, hl, e⟩ := I.lstM hH
  have h63 := line63
  have fit : ¬ (!Builtin.List.listFitsIndex (k : Int)) = true := by
    have : Builtin.List.listFitsIndex (k : Int) = true := by
      unfold Builtin.List.listFitsIndex
      simp only [Bool.and_eq_true, decide_eq_true_eq]
      constructor <;> omega
    rw [this]; decide
  have ek : (if (k : Int) < 0 then ((k : Int) + (its.toArray.size : Int)).toNat else min (k : Int).toNat its.toArray.size) = k := by
    rw [if_neg (by omega), Int.toNat_natCast, List.size_toArray]
    omega
  have ee : (its.toArray.extract 0 k).push u2 ++ its.toArray.extract k = (its.take k ++ u2 :: its.drop k).toArray := by
    apply Array.ext'
    simp
    rw [List.take_of_length_le (by rw [List.length_drop]; omega)]
  have rr : Vals (xs.take k ++ y :: xs.drop k) (its.take k ++ u2 :: its.drop k) := Vals.append (Vals.take k r) (.cons ru (Vals.drop k r))
  have hz2 : (xs.take k ++ y :: xs.drop k).length ≤ sizeLine := by
    rw [List.length_append, List.length_cons, List.length_take, List.length_drop]
    omega
  have sz : its.toArray.size ≤ sizeLine := by rw [List.size_toArray]; omega
  have fin : ∀ f : Array Value → Array Value, f its.toArray = (its.take k ++ u2 :: its.drop k).toArray → EP X pins σ Q Value.none { s with heap := s.heap.update l (Obj.mapSeq f), toks := s.toks } := fun f hf =>
    ⟨.non, _, I.lset (its' := its.take k ++ u2 :: its.drop k) (ys := xs.take k ++ y :: xs.drop k) hH e hf rr hz2, rfl, q⟩
  have fin2 : EP X pins σ Q Value.none { s with heap := s.heap.update l (Obj.mapSeq fun xs => have kk := if (k : Int) < 0 then ((k : Int) + (xs.size : Int)).toNat else min (k : Int).toNat xs.size; (xs.extract 0 kk).push u2 ++ xs.extract kk), toks := s.toks } := by
    refine fin _ ?_
    dsimp only
    rw [ek]
    exact ee
  clear fin ek ee rr hz2 q
  generalize (k : Int) = x at fit fin2 ⊢
  generalize its.toArray = items at e sz
  exact call_meets F.slot_list_insert ⟨_, e, rfl⟩ F.entry_list_insert (F.args_list_insert_3 _ _ _) (AutoSeq1.list_insert_list_int_val_1 l items n x t u2 fit sz) ⟨e, fin2⟩
def rSorted (K : Frag) : List V → Hp → VK → Prop := fun vs H Q => ∃ (a : Addr) (ns : List Int), vs = [.ref a] ∧ SqL K H a (ns.map V.int) ∧ ns.length < 64 ∧ ∀ (ns' : List Int) p, ns'.Perm ns → ns'.Pairwise (· ≤ ·) → H p = none → Q (.ref p) (upd H p (.lst (ns'.map V.int)))
end
section
variable {X : Cx}
theorem call_sorted : CallR X (.builtin "sorted") (rSorted X.K) := by
  intro pins s σ H xs us Q I r h
  obtain ⟨a, ns, rfl, ha, hl, q⟩ := h
  obtain ⟨u, rfl, ru⟩ := vals1 r
  cases ru
  obtain ⟨its, rv, pl, hz⟩ := I.list ha
  have hI : IntsAre its ns := intsAre_of rv
  have len := rv.length
  rw [List.length_map] at len
  refine sorted_ints pl.isList hI (by omega) fun out ns' h1 h2 h3 => ?_
  have lo := h1.length
  obtain ⟨ep, k1⟩ := sortedAll_at s.heap its out
  have hl2 := h2.length_eq
  have hz2 : (ns'.map V.int).length ≤ sizeLine := by rw [List.length_map, PySem.sizeLine_eq]; omega
  have new : ObjOk X.prog X.w (upd H (s.heap.objs.size + 1) (.lst (ns'.map V.int))) (sortedAll s.heap its out) (s.heap.objs.size + 1) (.lst (ns'.map V.int)) := ⟨hz2, out.toList, ep, vals_ints h1, by simpa [seqObj] using k1⟩
  exact ⟨.ref (s.heap.objs.size + 1), _, I.laid (t' := s.toks) (fun b o e => sortedAll_old e) (Nat.le_succ _) new, rfl, q ns' _ h2 h3 (I.hok.fresh (Nat.le_succ _))⟩
end
mutual
inductive Rds (H : Hp) : V → PyData → Prop where
  | int (i : Int) : Rds H (.int i) (.int i)
  | lst {a : Addr} {vs : List V} {ds : List PyData} : H a = some (.lst vs) → RdsAll H vs ds → Rds H (.ref a) (.list ds)
  | tup {a : Addr} {vs : List V} {ds : List PyData} : H a = some (.tup vs) → RdsAll H vs ds → Rds H (.ref a) (.tuple ds)
inductive RdsAll (H : Hp) : List V → List PyData → Prop where
  | nil : RdsAll H [] []
  | cons {v : V} {vs : List V} {d : PyData} {ds : List PyData} : Rds H v d → RdsAll H vs ds → RdsAll H (v :: vs) (d :: ds)
end
section
variable {X : Cx} {pins : List (Addr × Obj)} {σ : St} {H : Hp} {s : Shared}
mutual
theorem Rds.reads (I : Inv X pins σ H s) : ∀ {v : V} {d : PyData} {u : Value}, Rds H v d → RelV v u → ∃ as, Reads s.heap u d as
  | _, _, u, .int i, r => by
    obtain ⟨t, rfl⟩ := r
    exact ⟨_, .int i t⟩
  | _, _, u, .lst (a := a) (vs := vs) e h, r => by
    cases (show u = Value.ref a from r)
    obtain ⟨_, its, n, rv, g⟩ := (show ObjOk X.prog X.w H s.heap a (.lst vs) from I.hok a _ e)
    obtain ⟨as, ra⟩ := RdsAll.reads I h rv
    exact ⟨_, .list g rfl rfl (by simpa using ra)⟩
  | _, _, u, .tup (a := a) (vs := vs) e h, r => by
    cases (show u = Value.ref a from r)
    obtain ⟨_, its, rv, o, g, hc, n, hd⟩ := (show ObjOk X.prog X.w H s.heap a (.tup vs) from I.hok a _ e)
    obtain ⟨as, ra⟩ := RdsAll.reads I h rv
    exact ⟨_, .tuple g hc hd (by simpa using ra)⟩
theorem RdsAll.reads (I : Inv X pins σ H s) : ∀ {vs : List V} {ds : List PyData} {us : List Value}, RdsAll H vs ds → Vals vs us → ∃ as, ReadsAll s.heap us ds as
  | _, _, _, .nil, .nil => ⟨_, .nil⟩
  | _, _, _, .cons h t, .cons r q => by
    obtain ⟨as, ra⟩ := Rds.reads I h r
    obtain ⟨bs, rb⟩ := RdsAll.reads I t q
    exact ⟨_, .cons ra rb⟩
end
end
def rEqD (neg : Bool) : R2 := fun x y H Q => ∃ da db, Rds H x da ∧ Rds H y db ∧ SeqAt.shaped da = true ∧ SeqAt.shaped db = true ∧ Q (.bl (if neg then !PyData.eqv da db else PyData.eqv da db)) H
theorem op_eqD {X : Cx} (hu : X.A.units + 64 < cLine) : OpR X (compareOp .Eq) (rEqD false) := by
  intro pins s σ H x y v u Q I rx ry h
  obtain ⟨da, db, ra, rb, ha, hb, q⟩ := h
  obtain ⟨as, r1⟩ := Rds.reads I ra rx
  obtain ⟨bs, r2⟩ := Rds.reads I rb ry
  exact SeqAt.compareEq_shaped r1 r2 ha hb hu (fin_bl I q rfl)
theorem op_neD {X : Cx} (hu : X.A.units + 64 < cLine) : OpR X (compareOp .NotEq) (rEqD true) := by
  intro pins s σ H x y v u Q I rx ry h
  obtain ⟨da, db, ra, rb, ha, hb, q⟩ := h
  obtain ⟨as, r1⟩ := Rds.reads I ra rx
  obtain ⟨bs, r2⟩ := Rds.reads I rb ry
  exact SeqAt.compareNe_shaped r1 r2 ha hb hu (fin_bl I q rfl)
def dInts (l : List Int) : PyData := .list (l.map .int)
def dGrid (L : List (List Int)) : PyData := .list (L.map dInts)
def dPair (p : Int × Int) : PyData := .tuple [.int p.1, .int p.2]
def dPairs (L : List (Int × Int)) : PyData := .list (L.map dPair)
theorem lay_ints : ∀ l : List Int, PyData.canLayAll0 (l.map .int) = true ∧ PyData.depthAll (l.map .int) = 0
  | [] => ⟨by simp [PyData.canLayAll0], by simp [PyData.depthAll]⟩
  | i :: l => by
    obtain ⟨h1, h2⟩ := lay_ints l
    simp [PyData.canLayAll0, PyData.depthAll, PyData.canLay0, PyData.depth, h1, h2]
theorem lay_grid : ∀ L : List (List Int), PyData.canLayAll0 (L.map dInts) = true ∧ PyData.depthAll (L.map dInts) ≤ 1
  | [] => ⟨by simp [PyData.canLayAll0], by simp [PyData.depthAll]⟩
  | l :: L => by
    obtain ⟨h1, h2⟩ := lay_grid L
    obtain ⟨h3, h4⟩ := lay_ints l
    simp [PyData.canLayAll0, PyData.depthAll, PyData.canLay0, PyData.depth, dInts, h1, h3, h4]
    omega
theorem eqv_ints : ∀ l m : List Int, PyData.eqvAll (l.map .int) (m.map .int) = decide (l = m)
  | [], [] => by simp [PyData.eqvAll]
  | [], _ :: _ => by simp [PyData.eqvAll]
  | _ :: _, [] => by simp [PyData.eqvAll]
  | i :: l, j :: m => by
    simp only [List.map_cons, PyData.eqvAll, PyData.eqv, eqv_ints l m]
    by_cases h1 : i = j <;> by_cases h2 : l = m <;> simp [h1, h2]
theorem eqv_grids : ∀ L M : List (List Int), PyData.eqvAll (L.map dInts) (M.map dInts) = decide (L = M)
  | [], [] => by simp [PyData.eqvAll]
  | [], _ :: _ => by simp [PyData.eqvAll]
  | _ :: _, [] => by simp [PyData.eqvAll]
  | i :: l, j :: m => by
    rw [List.map_cons, List.map_cons, PyData.eqvAll, eqv_grids l m]
    have e : PyData.eqv (dInts i) (dInts j) = decide (i = j) := by unfold dInts; rw [PyData.eqv]; exact eqv_ints i j
    rw [e]
    by_cases h1 : i = j <;> by_cases h2 : l = m <;> simp [h1, h2]
theorem eqv_grid (L M : List (List Int)) : PyData.eqv (dGrid L) (dGrid M) = decide (L = M) := by
  unfold dGrid; rw [PyData.eqv]; exact eqv_grids L M
end L2
end
section
set_option Elab.async false
set_option linter.all false
set_option maxRecDepth 100000
namespace L2
open PySem PySem.Spec PySem.W PySem.Calls PyProof.Rows
theorem bt_min : bootBuiltins "min" = some (.builtin "min") := by decide +kernel
theorem bt_sorted : bootBuiltins "sorted" = some (.builtin "sorted") := by decide +kernel
theorem cfp_big {i j : Int} (h1 : 0 < j) (h2 : j < 2 ^ 250) : CFp i j := ⟨h1, Sz.mono (m := 250) (by unfold Sz; omega) (by decide)⟩
theorem nth_int {ns : List Int} {k : Int} (h0 : 0 ≤ k) (h1 : k < ns.length) : ∃ n, atI (ns.map V.int) k = some (V.int n) := by
  obtain ⟨j, rfl⟩ := Int.eq_ofNat_of_zero_le h0
  have hj : j < ns.length := by omega
  exact ⟨ns[j], atI_nat (by simp [hj])⟩
end L2
end
section
set_option Elab.async false
set_option linter.all false
set_option maxRecDepth 100000
namespace L2
open PySem PySem.Spec PySem.W PySem.Calls PyProof.Rows
theorem fm_nil {α : Type} {p : α → Prop} : ∀ x ∈ ([] : List α), p x := fun _ h => by cases h
theorem fm_cons {α : Type} {p : α → Prop} {a : α} {l : List α} (h : p a) (t : ∀ x ∈ l, p x) : ∀ x ∈ a :: l, p x := List.forall_mem_cons.mpr ⟨h, t⟩
end L2
namespace L2
open PySem PySem.Spec PySem.W PySem.Calls PyProof.Rows
section
variable {σ : St} {H : Hp} {Q : VK} {D : Ends} {K : Frag}
theorem r_bm {T : String} {r : V → List V → Hp → VK → Prop} {to : TE} {t : TA} (h : to σ H fun x H1 => tyV K T x H1 ∧ t σ H1 fun xs H2 => r x xs H2 Q) : tBM K T r to t σ H Q := h
theorem r_true {R : Bool → Hp → Prop} (h : R true H) : tTrue σ H R := h
theorem r_append {l : Addr} {xs : List V} {y : V} (h : H l = some (.lst xs)) (hl : xs.length < sizeLine) (q : Q .non (upd H l (.lst (xs ++ [y])))) : rAppend (.ref l) [y] H Q := ⟨l, xs, y, rfl, rfl, h, hl, q⟩
theorem r_insert {l : Addr} {xs : List V} {y : V} {i : Int} {k : Nat} (hi : i = k) (h : H l = some (.lst xs)) (hk : k ≤ xs.length) (hl : xs.length < sizeLine) (q : Q .non (upd H l (.lst (xs.take k ++ y :: xs.drop k)))) : rInsert (.ref l) [.int i, y] H Q := ⟨l, xs, y, k, rfl, by rw [hi], h, hk, hl, q⟩
theorem r_in {p : Addr} {x : Int} {ns : List Int} {neg : Bool} (h : SqL K H p (ns.map V.int)) (q : Q (.bl (if neg then !decide (x ∈ ns) else decide (x ∈ ns))) H) : rIn K neg (.int x) (.ref p) H Q := by
  have e : inV (.int x) (ns.map V.int) = decide (x ∈ ns) := by
    unfold inV
    rw [List.any_map]
    have : (fun y => eqV y (V.int x)) ∘ V.int = fun y => y == x := by funext y; rfl
    rw [this]
    clear this q h
    induction ns with
    | nil => simp
    | cons a l ih =>
      rw [List.any_cons, ih]
      by_cases h1 : a = x
      · subst h1; simp
      · have h2 : ¬ x = a := fun z => h1 z.symm
        simp [h1, h2]
  refine ⟨p, _, rfl, .inl h, rfl, ?_, by rw [e]; exact q⟩
  rw [List.all_map]
  simp [flatV]
theorem cturn {n i : Nat} {A : Prop} (hi : i < n) (h : A) : ∃ m', m' < n - i ∧ (m' = n - (i + 1) ∧ i + 1 ≤ n ∧ A) := ⟨_, by omega, rfl, hi, h⟩
theorem comp_range {R : Hp → Prop} {acc : Addr} {lo : Int} {n : Nat} {g : TG} {tt : TT} {te : TE} (Pv : Nat → St → List V → Hp → Prop) (h0 : Pv 0 σ [] H)
    (hs : ∀ i σ ys H, i < n → Pv i σ ys H → g (.int (lo + i)) σ H fun σ2 H4 => tt σ2 H4 fun b H5 => if b = true then te σ2 H5 fun y H6 => H6 acc = some (.lst ys) ∧ ys.length < sizeLine ∧ ∃ m', m' < n - i ∧ (m' = n - (i + 1) ∧ i + 1 ≤ n ∧ Pv (i + 1) σ2 (ys ++ [y]) (upd H6 acc (.lst (ys ++ [y])))) else ∃ m', m' < n - i ∧ (m' = n - (i + 1) ∧ i + 1 ≤ n ∧ Pv (i + 1) σ2 ys H5))
    (hd : ∀ σ ys H, Pv n σ ys H → R H) :
    ∃ W : Nat → Nat → St → List V → Hp → Prop, (∃ m, W 0 m σ [] H) ∧ ∀ i m σ' ys H2, W i m σ' ys H2 → (((Itr lo n).stop i H2 ∧ R H2) ∨ ((Itr lo n).go i H2 ∧ ∀ x H3, (Itr lo n).yld i H2 x H3 → g x σ' H3 fun σ2 H4 => tt σ2 H4 fun b H5 =>
      if b = true then te σ2 H5 fun y H6 => H6 acc = some (.lst ys) ∧ ys.length < sizeLine ∧ ∃ m', m' < m ∧ W (i + 1) m' σ2 (ys ++ [y]) (upd H6 acc (.lst (ys ++ [y]))) else ∃ m', m' < m ∧ W (i + 1) m' σ2 ys H5)) := by
  refine ⟨fun i m σ ys H => m = n - i ∧ i ≤ n ∧ Pv i σ ys H, ⟨n, by simp, Nat.zero_le _, h0⟩, ?_⟩
  rintro i m σ ys H ⟨rfl, hi, p⟩
  by_cases hlt : i < n
  · refine .inr ⟨hlt, fun x H' y => ?_⟩
    obtain ⟨e, y⟩ := y
    subst e y
    exact hs i σ ys _ hlt p
  · have e : i = n := by omega
    subst e
    exact .inl ⟨Nat.le_refl _, hd σ ys H p⟩
theorem comp_list {R : Hp → Prop} {acc a : Addr} {xs : List V} {g : TG} {tt : TT} {te : TE} (Pv : Nat → St → List V → Hp → Prop) (h0 : Pv 0 σ [] H) (hl : ∀ i σ ys H, i ≤ xs.length → Pv i σ ys H → SqL K H a xs)
    (hs : ∀ i x σ ys H, xs[i]? = some x → i < xs.length → Pv i σ ys H → g x σ H fun σ2 H4 => tt σ2 H4 fun b H5 => if b = true then te σ2 H5 fun y H6 => H6 acc = some (.lst ys) ∧ ys.length < sizeLine ∧ ∃ m', m' < xs.length - i ∧ (m' = xs.length - (i + 1) ∧ i + 1 ≤ xs.length ∧ Pv (i + 1) σ2 (ys ++ [y]) (upd H6 acc (.lst (ys ++ [y])))) else ∃ m', m' < xs.length - i ∧ (m' = xs.length - (i + 1) ∧ i + 1 ≤ xs.length ∧ Pv (i + 1) σ2 ys H5))
    (hd : ∀ σ ys H, Pv xs.length σ ys H → R H) :
    ∃ W : Nat → Nat → St → List V → Hp → Prop, (∃ m, W 0 m σ [] H) ∧ ∀ i m σ' ys H2, W i m σ' ys H2 → (((Itl K a).stop i H2 ∧ R H2) ∨ ((Itl K a).go i H2 ∧ ∀ x H3, (Itl K a).yld i H2 x H3 → g x σ' H3 fun σ2 H4 => tt σ2 H4 fun b H5 =>
      if b = true then te σ2 H5 fun y H6 => H6 acc = some (.lst ys) ∧ ys.length < sizeLine ∧ ∃ m', m' < m ∧ W (i + 1) m' σ2 (ys ++ [y]) (upd H6 acc (.lst (ys ++ [y]))) else ∃ m', m' < m ∧ W (i + 1) m' σ2 ys H5)) := by
  refine ⟨fun i m σ ys H => m = xs.length - i ∧ i ≤ xs.length ∧ Pv i σ ys H, ⟨xs.length, by simp, Nat.zero_le _, h0⟩, ?_⟩
  rintro i m σ ys H ⟨rfl, hi, p⟩
  have q := hl i σ ys H hi p
  by_cases hlt : i < xs.length
  · refine .inr ⟨⟨xs, xs[i], q, by simp [hlt]⟩, fun x H' y => ?_⟩
    obtain ⟨e, y⟩ := y
    subst e
    exact hs i x σ ys _ (y xs q) hlt p
  · have e : i = xs.length := by omega
    subst e
    exact .inl ⟨⟨xs, q, Nat.le_refl _⟩, hd σ ys H p⟩
theorem r_comp {wi : TI} {g : TG} {tt : TT} {te : TE} {n : Nat} {fr : List Nat} (h : wi σ H fun J H1 => ∀ acc, H1 acc = none → ∃ W : Nat → Nat → St → List V → Hp → Prop, (∃ m, W 0 m (blockSt n fr σ) [] (upd H1 acc (.lst []))) ∧
  ∀ i m σ' ys H2, W i m σ' ys H2 → ((J.stop i H2 ∧ Q (.ref acc) H2) ∨ (J.go i H2 ∧ ∀ x H3, J.yld i H2 x H3 → g x σ' H3 fun σ2 H4 => tt σ2 H4 fun b H5 =>
    if b = true then te σ2 H5 fun y H6 => H6 acc = some (.lst ys) ∧ ys.length < sizeLine ∧ ∃ m', m' < m ∧ W (i + 1) m' σ2 (ys ++ [y]) (upd H6 acc (.lst (ys ++ [y]))) else ∃ m', m' < m ∧ W (i + 1) m' σ2 ys H5))) : tComp wi g tt te n fr σ H Q := h
end
end L2
end
section
set_option Elab.async false
set_option linter.all false
set_option maxRecDepth 100000
namespace Gm
open PySem L2
def put (l : List Int) (k : Nat) (x : Int) : List Int := l.take k ++ x :: l.drop k
theorem put_perm (l : List Int) (k : Nat) (x : Int) : (put l k x).Perm (x :: l) := by
  unfold put
  refine List.perm_middle.trans ?_
  rw [List.take_append_drop]
theorem mem_put {l : List Int} {k : Nat} {x y : Int} : y ∈ put l k x ↔ y = x ∨ y ∈ l := by rw [(put_perm l k x).mem_iff, List.mem_cons]
theorem nodup_put {l : List Int} {k : Nat} {x : Int} (h : x ∉ l) (n : l.Nodup) : (put l k x).Nodup := (put_perm l k x).nodup_iff.mpr (List.nodup_cons.mpr ⟨h, n⟩)
theorem map_put {l : List Int} {k : Nat} {x : Int} : (l.map V.int).take k ++ V.int x :: (l.map V.int).drop k = (put l k x).map V.int := by simp [put, List.map_take, List.map_drop]
structure IsMap (L : List (List Int)) : Prop where
  nd : ∀ (i : Nat) (l : List Int), L[i]? = some l → l.Nodup
  rg : ∀ (i : Nat) (l : List Int), L[i]? = some l → ∀ x ∈ l, 0 ≤ x ∧ x < L.length ∧ x ≠ i
  sy : ∀ (i : Nat) (l : List Int), L[i]? = some l → ∀ x ∈ l, ∀ j : Nat, x = j → ∀ m, L[j]? = some m → (i : Int) ∈ m
structure Made (n one other : Nat) (L : List (List Int)) : Prop where
  len : L.length = n
  map : IsMap L
  bd : ∀ (i : Nat) (l : List Int), L[i]? = some l → ∀ x ∈ l, (i < one ∧ x < one) ∨ (i = one ∧ x < other) ∨ (x = one ∧ i < other)
theorem Made.skip {n one other : Nat} {L : List (List Int)} (h : Made n one other L) : Made n one (other + 1) L :=
  ⟨h.len, h.map, fun i l e x hx => by have := h.bd i l e x hx; omega⟩
theorem Made.next {n one : Nat} {L : List (List Int)} (h : Made n one one L) : Made n (one + 1) 0 L :=
  ⟨h.len, h.map, fun i l e x hx => by have := h.bd i l e x hx; omega⟩
theorem Made.start {n : Nat} {L : List (List Int)} (h : L.length = n) (e : ∀ (i : Nat) (l : List Int), L[i]? = some l → l = []) : Made n 0 0 L := by
  refine ⟨h, ⟨fun i l q => by rw [e i l q]; exact List.nodup_nil, fun i l q x hx => ?_, fun i l q x hx => ?_⟩, fun i l q x hx => ?_⟩ <;> (rw [e i l q] at hx; cases hx)
theorem set2 {L : List (List Int)} {a b i : Nat} {x y l : List Int} (h : ((L.set a x).set b y)[i]? = some l) : (i = b ∧ l = y) ∨ (i ≠ b ∧ i = a ∧ l = x) ∨ (i ≠ b ∧ i ≠ a ∧ L[i]? = some l) := by
  by_cases hb : i = b
  · subst hb
    rw [List.getElem?_set] at h
    rw [if_pos rfl] at h
    split at h
    · exact .inl ⟨rfl, (Option.some.inj h).symm⟩
    · cases h
  · rw [List.getElem?_set_ne (fun z => hb z.symm)] at h
    by_cases ha : i = a
    · subst ha
      rw [List.getElem?_set, if_pos rfl] at h
      split at h
      · exact .inr (.inl ⟨hb, rfl, (Option.some.inj h).symm⟩)
      · cases h
    · rw [List.getElem?_set_ne (fun z => ha z.symm)] at h
      exact .inr (.inr ⟨hb, ha, h⟩)
theorem Made.step {n one other k1 k2 : Nat} {L : List (List Int)} {l1 l2 : List Int} (h : Made n one other L) (ho : other < one) (hn : one < n) (e1 : L[one]? = some l1) (e2 : L[other]? = some l2) :
    Made n one (other + 1) ((L.set one (put l1 k1 other)).set other (put l2 k2 one)) := by
  have n1 : (other : Int) ∉ l1 := fun z => by have := h.bd _ _ e1 _ z; omega
  have n2 : (one : Int) ∉ l2 := fun z => by have := h.bd _ _ e2 _ z; omega
  have hl := h.len
  refine ⟨by rw [List.length_set, List.length_set]; exact hl, ⟨fun i l e => ?_, fun i l e x hx => ?_, fun i l e x hx j hj m em => ?_⟩, fun i l e x hx => ?_⟩
  · rcases set2 e with ⟨_, rfl⟩ | ⟨_, _, rfl⟩ | ⟨_, _, q⟩
    · exact nodup_put n2 (h.map.nd _ _ e2)
    · exact nodup_put n1 (h.map.nd _ _ e1)
    · exact h.map.nd _ _ q
  · rw [List.length_set, List.length_set]
    rcases set2 e with ⟨rfl, rfl⟩ | ⟨_, rfl, rfl⟩ | ⟨_, _, q⟩
    · rcases mem_put.mp hx with z | z
      · omega
      · exact h.map.rg _ _ e2 _ z
    · rcases mem_put.mp hx with z | z
      · omega
      · exact h.map.rg _ _ e1 _ z
    · exact h.map.rg _ _ q _ hx
  · rcases set2 e with ⟨rfl, rfl⟩ | ⟨hb, rfl, rfl⟩ | ⟨hb, ha, q⟩
    · rcases set2 em with ⟨rfl, rfl⟩ | ⟨jb, rfl, rfl⟩ | ⟨jb, ja, qm⟩
      · rcases mem_put.mp hx with z | z
        · omega
        · have := h.map.rg _ _ e2 _ z; omega
      · exact mem_put.mpr (.inl rfl)
      · rcases mem_put.mp hx with z | z
        · omega
        · exact h.map.sy _ _ e2 _ z _ hj _ qm
    · rcases set2 em with ⟨rfl, rfl⟩ | ⟨jb, rfl, rfl⟩ | ⟨jb, ja, qm⟩
      · exact mem_put.mpr (.inl rfl)
      · rcases mem_put.mp hx with z | z
        · omega
        · have := h.map.rg _ _ e1 _ z; omega
      · rcases mem_put.mp hx with z | z
        · omega
        · exact h.map.sy _ _ e1 _ z _ hj _ qm
    · rcases set2 em with ⟨rfl, rfl⟩ | ⟨jb, rfl, rfl⟩ | ⟨jb, ja, qm⟩
      · exact mem_put.mpr (.inr (h.map.sy _ _ q _ hx _ hj _ e2))
      · exact mem_put.mpr (.inr (h.map.sy _ _ q _ hx _ hj _ e1))
      · exact h.map.sy _ _ q _ hx _ hj _ qm
  · rcases set2 e with ⟨rfl, rfl⟩ | ⟨_, rfl, rfl⟩ | ⟨_, _, q⟩
    · rcases mem_put.mp hx with z | z
      · omega
      · have := h.bd _ _ e2 _ z; omega
    · rcases mem_put.mp hx with z | z
      · omega
      · have := h.bd _ _ e1 _ z; omega
    · have := h.bd _ _ q _ hx; omega
structure Grid (H : Hp) (p : Addr) (as : List Addr) (L : List (List Int)) : Prop where
  top : H p = some (.lst (as.map V.ref))
  len : as.length = L.length
  row : ∀ (i : Nat) (a : Addr) (l : List Int), as[i]? = some a → L[i]? = some l → H a = some (.lst (l.map V.int))
section
variable {H H' : Hp} {p : Addr} {as : List Addr} {L : List (List Int)}
theorem Grid.at (g : Grid H p as L) {i : Nat} (hi : i < L.length) : ∃ a l, as[i]? = some a ∧ L[i]? = some l ∧ H a = some (.lst (l.map V.int)) := by
  have h2 : i < as.length := by rw [g.len]; exact hi
  exact ⟨as[i], L[i], by simp [h2], by simp [hi], g.row i _ _ (by simp [h2]) (by simp [hi])⟩
theorem Grid.same (g : Grid H p as L) (e : Same H H') : Grid H' p as L := ⟨e _ _ g.top, g.len, fun i a l h1 h2 => e _ _ (g.row i a l h1 h2)⟩
theorem Grid.set (g : Grid H p as L) (nd : (p :: as).Nodup) {i : Nat} {a : Addr} {l' : List Int} (hi : as[i]? = some a) : Grid (upd H a (.lst (l'.map V.int))) p as (L.set i l') := by
  have hp : p ≠ a := fun z => (List.nodup_cons.mp nd).1 (z ▸ List.mem_of_getElem? hi)
  refine ⟨by rw [upd_ne hp]; exact g.top, by rw [List.length_set]; exact g.len, fun j b l h1 h2 => ?_⟩
  by_cases hj : j = i
  · subst hj
    rw [hi] at h1
    cases h1
    rw [List.getElem?_set, if_pos rfl] at h2
    split at h2
    · cases h2; exact upd_same
    · cases h2
  · rw [List.getElem?_set_ne (fun z => hj z.symm)] at h2
    have hb : b ≠ a := fun z => by
      subst z
      obtain ⟨q1, w1⟩ := List.getElem?_eq_some_iff.mp h1
      obtain ⟨q2, w2⟩ := List.getElem?_eq_some_iff.mp hi
      exact hj ((List.getElem_inj (List.nodup_cons.mp nd).2).mp (w1.trans w2.symm))
    rw [upd_ne hb]
    exact g.row j b l h1 h2
theorem Grid.ix (g : Grid H p as L) {i : Nat} {a : Addr} (hi : as[i]? = some a) : atI (as.map V.ref) (i : Int) = some (V.ref a) := atI_nat (by rw [List.getElem?_map, hi]; rfl)
theorem rds_ints {H : Hp} : ∀ l : List Int, RdsAll H (l.map V.int) (l.map PyData.int)
  | [] => .nil
  | i :: l => .cons (.int i) (rds_ints l)
theorem rds_row {a : Addr} {l : List Int} (h : H a = some (.lst (l.map V.int))) : Rds H (.ref a) (dInts l) := .lst h (rds_ints l)
theorem rds_rows : ∀ {as : List Addr} {L : List (List Int)}, as.length = L.length → (∀ (i : Nat) (a : Addr) (l : List Int), as[i]? = some a → L[i]? = some l → H a = some (.lst (l.map V.int))) → RdsAll H (as.map V.ref) (L.map dInts)
  | [], [], _, _ => .nil
  | [], _ :: _, h, _ => by simp at h
  | _ :: _, [], h, _ => by simp at h
  | a :: as, l :: L, h, r => .cons (rds_row (r 0 a l rfl rfl)) (rds_rows (by simpa using h) fun i b m h1 h2 => r (i + 1) b m (by simpa using h1) (by simpa using h2))
theorem Grid.rds (g : Grid H p as L) : Rds H (.ref p) (dGrid L) := .lst g.top (rds_rows g.len g.row)
end
theorem Same.fresh {H H' : Hp} {a : Addr} {o : HO} (e : Same H H') (h : H a = none) : Same H (upd H' a o) := fun b u q => by rw [upd_ne (fun z => by rw [z, h] at q; cases q)]; exact e b u q
inductive Reach (L : List (List Int)) (s : Int) : Int → Prop where
  | here : Reach L s s
  | step {i : Nat} {l : List Int} {x : Int} : Reach L s i → L[i]? = some l → x ∈ l → Reach L s x
theorem len_le {α : Type} [BEq α] [LawfulBEq α] : ∀ {l r : List α}, l.Nodup → (∀ x ∈ l, x ∈ r) → l.length ≤ r.length
  | [], _, _, _ => Nat.zero_le _
  | x :: l, r, n, h => by
    have hx : x ∈ r := h x List.mem_cons_self
    have n2 := List.nodup_cons.mp n
    have ih := len_le (r := r.erase x) n2.2 fun y hy => by
      have ne : y ≠ x := fun z => n2.1 (z ▸ hy)
      exact (List.mem_erase_of_ne ne).mpr (h y (List.mem_cons_of_mem _ hy))
    rw [List.length_erase_of_mem hx] at ih
    have := List.length_pos_of_mem hx
    rw [List.length_cons]; omega
theorem len_range {n : Nat} {l : List Int} (h : l.Nodup) (r : ∀ x ∈ l, 0 ≤ x ∧ x < n) : l.length ≤ n := by
  have := len_le (r := (List.range n).map fun i : Nat => (i : Int)) h fun x hx => by
    have := r x hx
    exact List.mem_map.mpr ⟨x.toNat, List.mem_range.mpr (by omega), by omega⟩
  simpa using this
theorem len_eq {α : Type} [BEq α] [LawfulBEq α] {l r : List α} (h1 : l.Nodup) (h2 : r.Nodup) (h : ∀ x, x ∈ l ↔ x ∈ r) : l.length = r.length :=
  Nat.le_antisymm (len_le h1 fun x => (h x).mp) (len_le h2 fun x => (h x).mpr)
theorem Reach.rg {L : List (List Int)} {s x : Int} (h : Reach L s x) (m : IsMap L) (hs : 0 ≤ s ∧ s < L.length) : 0 ≤ x ∧ x < L.length := by
  cases h with
  | here => exact hs
  | step _ e hx => have := m.rg _ _ e _ hx; exact ⟨this.1, this.2.1⟩
end Gm
namespace Gm
open PySem L2
theorem Made.small {n i j : Nat} {L : List (List Int)} (m : Made n i j L) {k : Nat} {l : List Int} (h : L[k]? = some l) : l.length ≤ n :=
  len_range (m.map.nd _ _ h) fun x hx => by have := m.map.rg _ _ h _ hx; have := m.len; omega
theorem small_line {n : Nat} (h : n ≤ 1000) : n < sizeLine := by rw [PySem.sizeLine_eq]; omega
end Gm
end
section
set_option Elab.async false
set_option linter.all false
set_option maxRecDepth 100000
namespace Gm
open PySem L2
def rowF (i : Nat) (l : List Int) : Nat → List Int
  | 0 => []
  | j + 1 => rowF i l j ++ (if ((i + 1 + j : Nat) : Int) ∈ l then [((i + 1 + j : Nat) : Int)] else [])
def dueF (L : List (List Int)) : Nat → List (Int × Int)
  | 0 => []
  | k + 1 => dueF L k ++ (rowF k (L.getD k []) (L.length - (k + 1))).map fun x => ((k : Int), x)
theorem mem_rowF {i : Nat} {l : List Int} : ∀ {j : Nat} {x : Int}, x ∈ rowF i l j ↔ (i : Int) < x ∧ x < (i + 1 + j : Nat) ∧ x ∈ l
  | 0, x => by simp only [rowF, List.not_mem_nil, false_iff]; intro h; omega
  | j + 1, x => by
    rw [rowF, List.mem_append, mem_rowF]
    by_cases h : ((i + 1 + j : Nat) : Int) ∈ l
    · rw [if_pos h, List.mem_singleton]
      constructor
      · rintro (⟨h1, h2, h3⟩ | rfl)
        · exact ⟨h1, by omega, h3⟩
        · exact ⟨by omega, by omega, h⟩
      · rintro ⟨h1, h2, h3⟩
        by_cases e : x = ((i + 1 + j : Nat) : Int)
        · exact .inr e
        · exact .inl ⟨h1, by omega, h3⟩
    · rw [if_neg h]
      simp only [List.not_mem_nil, or_false]
      constructor
      · rintro ⟨h1, h2, h3⟩
        exact ⟨h1, by omega, h3⟩
      · rintro ⟨h1, h2, h3⟩
        have : x ≠ ((i + 1 + j : Nat) : Int) := fun z => h (z ▸ h3)
        exact ⟨h1, by omega, h3⟩
theorem sorted_rowF {i : Nat} {l : List Int} : ∀ j, (rowF i l j).Pairwise (· < ·)
  | 0 => .nil
  | j + 1 => by
    rw [rowF, List.pairwise_append]
    refine ⟨sorted_rowF j, by split <;> simp, fun a ha b hb => ?_⟩
    have := mem_rowF.mp ha
    split at hb
    · rw [List.mem_singleton] at hb; omega
    · cases hb
theorem strict {l : List Int} (h : l.Pairwise (· ≤ ·)) (n : l.Nodup) : l.Pairwise (· < ·) := by
  have := h.and n
  exact this.imp fun ⟨x, y⟩ => by omega
abbrev PR (H : Hp) : List Addr → List (Int × Int) → Prop := Paired fun a x => H a = some (.tup [.int x.1, .int x.2])
theorem PR.lst {H : Hp} {t : Addr} {xs zs : List V} {ps : List Addr} {T : List (Int × Int)} (h : PR H ps T) (ht : H t = some (.lst xs)) : PR (upd H t (.lst zs)) ps T :=
  Paired.mapP h fun a x e => by
    rw [upd_ne (fun z => by rw [z, ht] at e; cases e)]; exact e
theorem PR.same {H H' : Hp} {ps : List Addr} {T : List (Int × Int)} (h : PR H ps T) (e : Same H H') : PR H' ps T := Paired.mapP h fun a x q => e _ _ q
theorem PR.rds {H : Hp} : ∀ {ps : List Addr} {T : List (Int × Int)}, PR H ps T → RdsAll H (ps.map V.ref) (T.map dPair)
  | _, _, .nil => .nil
  | _, _, .cons r t => .cons (.tup r (.cons (.int _) (.cons (.int _) .nil))) (PR.rds t)
theorem PR.len {H : Hp} {ps : List Addr} {T : List (Int × Int)} (h : PR H ps T) : ps.length = T.length := Paired.length h
theorem PR.get {H : Hp} : ∀ {ps : List Addr} {T : List (Int × Int)}, PR H ps T → ∀ {i : Nat} {a : Addr}, ps[i]? = some a → ∃ x : Int × Int, H a = some (.tup [.int x.1, .int x.2])
  | _, _, .nil, _, _, e => by simp at e
  | _, _, .cons r t, 0, _, e => by simp at e; subst e; exact ⟨_, r⟩
  | _, _, .cons r t, i + 1, _, e => PR.get t (by simpa using e)
end Gm
end
section
set_option Elab.async false
set_option linter.all false
set_option maxRecDepth 100000
namespace Gm
open PySem L2
structure Fl (L : List (List Int)) (s : Int) (ks ws : List Int) : Prop where
  nd : ks.Nodup
  nw : ws.Nodup
  st : s ∈ ks
  re : ∀ x ∈ ks, Reach L s x
  sub : ∀ x ∈ ws, x ∈ ks
  cl : ∀ (i : Nat) (l : List Int), (i : Int) ∈ ks → (i : Int) ∉ ws → L[i]? = some l → ∀ x ∈ l, x ∈ ks
structure Fi (L : List (List Int)) (s : Int) (ks ws : List Int) (pl : Nat) (l : List Int) (k : Nat) : Prop where
  nd : ks.Nodup
  nw : ws.Nodup
  st : s ∈ ks
  re : ∀ x ∈ ks, Reach L s x
  sub : ∀ x ∈ ws, x ∈ ks
  pk : (pl : Int) ∈ ks
  cl : ∀ (i : Nat) (m : List Int), (i : Int) ∈ ks → (i : Int) ∉ ws → i ≠ pl → L[i]? = some m → ∀ x ∈ m, x ∈ ks
  tk : ∀ x ∈ l.take k, x ∈ ks
section
variable {L : List (List Int)} {s : Int} {ks ws : List Int} {pl k : Nat} {l : List Int} {x : Int}
theorem Fl.start : Fl L s [s] [s] := ⟨by simp, by simp, by simp, fun x h => by rw [List.mem_singleton.mp h]; exact .here, fun x h => h, fun i l h1 h2 => absurd h1 h2⟩
theorem snoc_nd {l : List Int} {x : Int} : (l ++ [x]).Nodup ↔ x ∉ l ∧ l.Nodup := by
  rw [(List.perm_append_singleton x l).nodup_iff, List.nodup_cons]
theorem Fl.pop (h : Fl L s ks (ws ++ [(pl : Int)])) : Fi L s ks ws pl l 0 :=
  ⟨h.nd, (snoc_nd.mp h.nw).2, h.st, h.re, fun x hx => h.sub x (List.mem_append_left _ hx), h.sub _ (by simp), fun i m h1 h2 h3 h4 x hx => h.cl i m h1 (fun z => by
    rcases List.mem_append.mp z with z | z
    · exact h2 z
    · have := List.mem_singleton.mp z; omega) h4 x hx, fun x hx => by simp at hx⟩
theorem take_mem {l : List Int} {k : Nat} {x y : Int} (h : l[k]? = some x) (hy : y ∈ l.take (k + 1)) : y ∈ l.take k ∨ y = x := by
  rw [List.take_succ, h] at hy
  simpa using hy
theorem Fi.add (h : Fi L s ks ws pl l k) (e : l[k]? = some x) (n : x ∉ ks) (hl : L[pl]? = some l) : Fi L s (ks ++ [x]) (ws ++ [x]) pl l (k + 1) := by
  refine ⟨snoc_nd.mpr ⟨n, h.nd⟩, snoc_nd.mpr ⟨fun z => n (h.sub _ z), h.nw⟩, List.mem_append_left _ h.st, fun y hy => ?_, fun y hy => ?_, List.mem_append_left _ h.pk, fun i m h1 h2 h3 h4 y hy => ?_, fun y hy => ?_⟩
  · rcases List.mem_append.mp hy with z | z
    · exact h.re y z
    · rw [List.mem_singleton.mp z]; exact .step (h.re _ h.pk) hl (List.mem_of_getElem? e)
  · rcases List.mem_append.mp hy with z | z
    · exact List.mem_append_left _ (h.sub y z)
    · exact List.mem_append_right _ z
  · refine List.mem_append_left _ (h.cl i m ?_ (fun z => h2 (List.mem_append_left _ z)) h3 h4 y hy)
    rcases List.mem_append.mp h1 with z | z
    · exact z
    · exact absurd (List.mem_append_right _ z) h2
  · rcases take_mem e hy with z | z
    · exact List.mem_append_left _ (h.tk y z)
    · rw [z]; exact List.mem_append_right _ (by simp)
theorem Fi.skip (h : Fi L s ks ws pl l k) (e : l[k]? = some x) (n : x ∈ ks) : Fi L s ks ws pl l (k + 1) :=
  ⟨h.nd, h.nw, h.st, h.re, h.sub, h.pk, h.cl, fun y hy => by
    rcases take_mem e hy with z | z
    · exact h.tk y z
    · rw [z]; exact n⟩
theorem Fi.done (h : Fi L s ks ws pl l l.length) (hl : L[pl]? = some l) : Fl L s ks ws :=
  ⟨h.nd, h.nw, h.st, h.re, h.sub, fun i m h1 h2 h3 x hx => by
    by_cases e : i = pl
    · subst e
      rw [hl] at h3
      cases h3
      exact h.tk x (by rw [List.take_length]; exact hx)
    · exact h.cl i m h1 h2 e h3 x hx⟩
theorem Fl.all (h : Fl L s ks []) (x : Int) : x ∈ ks ↔ Reach L s x := by
  refine ⟨h.re x, fun r => ?_⟩
  induction r with
  | here => exact h.st
  | step _ e hx ih => exact h.cl _ _ ih (by simp) e _ hx
theorem Fl.len (m : IsMap L) (hs : 0 ≤ s ∧ s < L.length) {ks : List Int} (nd : ks.Nodup) (re : ∀ x ∈ ks, Reach L s x) : ks.length ≤ L.length := len_range nd fun x hx => (re x hx).rg m hs
end
def Clo (L : List (List Int)) (fs : List Int) : Prop := ∀ (i : Nat) (l : List Int), L[i]? = some l → (∃ x, x ∈ l ∧ x ∈ fs) → (i : Int) ∈ fs
structure Pa (L : List (List Int)) (fs : List Int) (k : Nat) : Prop where
  nd : fs.Nodup
  st : (0 : Int) ∈ fs
  re : ∀ x ∈ fs, Reach L 0 x
  gr : Clo L fs ∨ k + 1 ≤ fs.length
structure Pi (L : List (List Int)) (fs0 fs : List Int) (j : Nat) : Prop where
  nd : fs.Nodup
  st : (0 : Int) ∈ fs
  re : ∀ x ∈ fs, Reach L 0 x
  kp : Clo L fs0 → fs = fs0
  gr : fs0.length < fs.length ∨ (fs = fs0 ∧ ∀ (i : Nat) (l : List Int), i < j → L[i]? = some l → (∃ x, x ∈ l ∧ x ∈ fs) → (i : Int) ∈ fs)
section
variable {L : List (List Int)} {fs0 fs : List Int} {j k : Nat} {l : List Int}
theorem Pa.start : Pa L [0] 0 := ⟨by simp, by simp, fun x h => by rw [List.mem_singleton.mp h]; exact .here, .inr (by simp)⟩
theorem Pi.done (h : Pi L fs0 fs L.length) (h0 : Pa L fs0 k) : Pa L fs (k + 1) := by
  refine ⟨h.nd, h.st, h.re, ?_⟩
  rcases h.gr with z | ⟨rfl, z⟩
  · rcases h0.gr with c | c
    · rw [h.kp c]; exact .inl c
    · exact .inr (by omega)
  · exact .inl fun i l e => z i l (List.getElem?_eq_some_iff.mp e).1 e
theorem Pi.add (h : Pi L fs0 fs j) (m : IsMap L) (hl : L[j]? = some l) (n : (j : Int) ∉ fs) {x : Int} (hx : x ∈ l) (hf : x ∈ fs) : Pi L fs0 (fs ++ [(j : Int)]) (j + 1) := by
  have hr := m.rg _ _ hl x hx
  have rj : Reach L 0 (j : Int) := by
    have hxn : x = (x.toNat : Int) := by omega
    obtain ⟨lx, hlx⟩ : ∃ lx, L[x.toNat]? = some lx := ⟨L[x.toNat]'(by omega), by simp⟩
    exact .step (i := x.toNat) (by rw [← hxn]; exact h.re x hf) hlx (m.sy _ _ hl x hx _ hxn _ hlx)
  refine ⟨snoc_nd.mpr ⟨n, h.nd⟩, List.mem_append_left _ h.st, fun y hy => ?_, fun c => ?_, .inl ?_⟩
  · rcases List.mem_append.mp hy with z | z
    · exact h.re y z
    · rw [List.mem_singleton.mp z]; exact rj
  · have e := h.kp c
    subst e
    exact absurd (c j l hl ⟨x, hx, hf⟩) n
  · rw [List.length_append]
    rcases h.gr with z | ⟨z, _⟩
    · simp; omega
    · rw [z]; simp
theorem Pi.skip (h : Pi L fs0 fs j) (c : (j : Int) ∈ fs ∨ ∀ l, L[j]? = some l → ∀ x ∈ l, x ∉ fs) : Pi L fs0 fs (j + 1) := by
  refine ⟨h.nd, h.st, h.re, h.kp, ?_⟩
  rcases h.gr with z | ⟨z1, z2⟩
  · exact .inl z
  · refine .inr ⟨z1, fun i l hi hl ⟨x, hx, hf⟩ => ?_⟩
    by_cases e : i = j
    · subst e
      rcases c with c | c
      · exact c
      · exact absurd hf (c l hl x hx)
    · exact z2 i l (by omega) hl ⟨x, hx, hf⟩
theorem Pa.all (h : Pa L fs L.length) (m : IsMap L) (hn : 0 < L.length) (x : Int) : x ∈ fs ↔ Reach L 0 x := by
  have c : Clo L fs := by
    rcases h.gr with z | z
    · exact z
    · have := Fl.len m ⟨Int.le_refl 0, by omega⟩ h.nd h.re
      omega
  refine ⟨h.re x, fun r => ?_⟩
  induction r with
  | here => exact h.st
  | step r e hx ih =>
    rename_i i l y
    have hr := m.rg _ _ e y hx
    have hyn : y = (y.toNat : Int) := by omega
    obtain ⟨ly, hly⟩ : ∃ ly, L[y.toNat]? = some ly := ⟨L[y.toNat]'(by omega), by simp⟩
    rw [hyn]
    exact c y.toNat ly hly ⟨_, m.sy _ _ e y hx _ hyn _ hly, ih⟩
end
end Gm
namespace Gm
open PySem L2
theorem shaped_ints (l : List Int) : SeqAt.shaped (dInts l) = true := by
  obtain ⟨h1, h2⟩ := lay_ints l
  unfold SeqAt.shaped dInts
  simp [PyData.canLay0, PyData.depth, h1, h2]
theorem eqv_row (l m : List Int) : PyData.eqv (dInts l) (dInts m) = decide (l = m) := by unfold dInts; rw [PyData.eqv]; exact eqv_ints l m
end Gm
end
section
set_option Elab.async false
set_option linter.all false
set_option maxRecDepth 100000
namespace L2
open PySem PySem.Spec PySem.W PySem.Calls PyProof.Rows
section
variable {X : Cx} {K : Frag}
theorem ix_listK (h : X.K = K) : IxR X (rIxL K) := h ▸ ix_list
theorem call_list_ofK (h : X.K = K) : CallR X (.type "list") (fun xs H Q => ∃ p ys, xs = [.ref p] ∧ (SqL K H p ys ∨ SqT K H p ys) ∧ ∀ l, H l = none → Q (.ref l) (upd H l (.lst ys))) := by subst h; exact call_list_of
end
end L2
end
section
set_option Elab.async false
set_option linter.all false
set_option maxRecDepth 100000
namespace L2
open PySem PySem.Spec PySem.W PySem.Calls PyProof.Rows HT
section
open PySem.SeqAt
open PySem.AutoSeq1 (wpAny_loadPart')
open PySem.MeetsSeq PySem.MeetsSeq2 PySem.MeetsSeq3
theorem ints_at {vs : List Value} {ns : List Int} (h : IntsAre vs ns) {i : Nat} (hi : i < ns.length) : ∃ t, vs[i]? = some (.int ns[i] t) := by
  induction h generalizing i with
  | nil => simp at hi
  | cons a t r ih =>
    cases i with
    | zero => exact ⟨t, rfl⟩
    | succ i =>
      obtain ⟨u, hu⟩ := ih (i := i) (by simpa using hi)
      exact ⟨u, by simpa using hu⟩
end
end L2
end
section
set_option Elab.async false
set_option linter.all false
set_option maxRecDepth 100000
namespace L2
open PySem PySem.Spec PySem.W PySem.Calls PyProof.Rows HT
section
variable {prog : Program} {w : World} {A : Around} {E : Value → Shared → Prop} {s : Shared} {l b : Addr} {us vs : Array Value} {ns ms : List Int}
end
def rLtL (K : Frag) : R2 := fun x y H Q => ∃ (a b : Addr) (ns ms : List Int), x = .ref a ∧ y = .ref b ∧ SqL K H a (ns.map V.int) ∧ SqL K H b (ms.map V.int) ∧ Q (.bl (lexLt ns ms)) H
theorem lex_irr : ∀ a : List Int, lexLt a a = false
  | [] => rfl
  | x :: a => by rw [lexLt_cons, if_pos rfl]; exact lex_irr a
theorem lex_trans : ∀ {a b c : List Int}, lexLt a b = true → lexLt b c = true → lexLt a c = true
  | [], [], _, h, _ => by cases h
  | [], _ :: _, [], _, h => by cases h
  | [], _ :: _, _ :: _, _, _ => rfl
  | _ :: _, [], _, h, _ => by cases h
  | _ :: _, _ :: _, [], _, h => by cases h
  | x :: a, y :: b, z :: c, h1, h2 => by
    rw [lexLt_cons] at h1 h2 ⊢
    by_cases e1 : x = y
    · subst e1
      by_cases e2 : x = z
      · subst e2
        rw [if_pos rfl] at h1 h2 ⊢
        exact lex_trans h1 h2
      · rw [if_neg e2] at h2 ⊢; exact h2
    · rw [if_neg e1] at h1
      have g1 : x < y := of_decide_eq_true h1
      by_cases e2 : y = z
      · subst e2
        rw [if_neg e1]; exact h1
      · rw [if_neg e2] at h2
        have g2 : y < z := of_decide_eq_true h2
        rw [if_neg (by omega)]
        exact decide_eq_true (by omega)
theorem lex_tot : ∀ {a b : List Int}, lexLt a b = false → lexLt b a = false → a = b
  | [], [], _, _ => rfl
  | [], _ :: _, h, _ => by cases h
  | _ :: _, [], _, h => by cases h
  | x :: a, y :: b, h1, h2 => by
    rw [lexLt_cons] at h1 h2
    by_cases e : x = y
    · subst e
      rw [if_pos rfl] at h1 h2
      rw [lex_tot h1 h2]
    · rw [if_neg e] at h1
      rw [if_neg (fun z => e z.symm)] at h2
      have g1 := of_decide_eq_false h1
      have g2 := of_decide_eq_false h2
      omega
def Le (a b : List Int) : Prop := lexLt b a = false
theorem Le.refl (a : List Int) : Le a a := lex_irr a
theorem Le.trans {a b c : List Int} (h1 : Le a b) (h2 : Le b c) : Le a c := by
  unfold Le at *
  cases q : lexLt c a with
  | false => rfl
  | true =>
    by_cases e : lexLt a b = true
    · have := lex_trans q e; rw [h2] at this; cases this
    · have e2 : a = b := lex_tot (by simpa using e) h1
      subst e2
      rw [h2] at q; cases q
theorem Le.anti {a b : List Int} (h1 : Le a b) (h2 : Le b a) : a = b := lex_tot h2 h1
end L2
end
section
set_option Elab.async false
set_option linter.all false
set_option maxRecDepth 100000
namespace L2
open PySem PySem.Spec PySem.W PySem.Calls PyProof.Rows
section
variable {cmp : Nat → Nat → (Bool → Shared → Prop) → Shared → Prop} {n : Nat} {f : Nat → List Int} {s : Shared}
def Asks (cmp : Nat → Nat → (Bool → Shared → Prop) → Shared → Prop) (n : Nat) (f : Nat → List Int) (s : Shared) : Prop := ∀ i j C, i < n → j < n → C (HT.lexLt (f i) (f j)) s → cmp i j C s
structure Arr (n : Nat) (p : Array Nat) : Prop where
  size : p.size = n
  perm : p.Perm (List.toArray (List.range n))
def kf (f : Nat → List Int) (p : Array Nat) (i : Nat) : List Int := f (p.getD i 0)
theorem Arr.lt {p : Array Nat} (h : Arr n p) {i : Nat} (hi : i < n) : p.getD i 0 < n := by
  have e : p.getD i 0 = p[i]'(by rw [h.size]; exact hi) := by simp [Array.getD, h.size, hi]
  have m : p[i]'(by rw [h.size]; exact hi) ∈ p := Array.getElem_mem _
  have := (h.perm.mem_iff).mp m
  rw [e]
  simpa using this
def Up (f : Nat → List Int) (p : Array Nat) (m : Nat) : Prop := ∀ i, i + 1 < m → Le (kf f p i) (kf f p (i + 1))
def Dn (f : Nat → List Int) (p : Array Nat) (m : Nat) : Prop := ∀ i, i + 1 < m → Le (kf f p (i + 1)) (kf f p i)
theorem Up.le {p : Array Nat} {m : Nat} (h : Up f p m) {i j : Nat} (hij : i ≤ j) (hj : j < m) : Le (kf f p i) (kf f p j) := by
  induction j with
  | zero => obtain rfl : i = 0 := by omega
            exact Le.refl _
  | succ j ih =>
    by_cases e : i = j + 1
    · rw [e]; exact Le.refl _
    · exact (ih (by omega) (by omega)).trans (h j hj)
theorem Dn.le {p : Array Nat} {m : Nat} (h : Dn f p m) {i j : Nat} (hij : i ≤ j) (hj : j < m) : Le (kf f p j) (kf f p i) := by
  induction j with
  | zero => obtain rfl : i = 0 := by omega
            exact Le.refl _
  | succ j ih =>
    by_cases e : i = j + 1
    · rw [e]; exact Le.refl _
    · exact (h j hj).trans (ih (by omega) (by omega))
def Flt (f : Nat → List Int) (p : Array Nat) (m q : Nat) : Prop := ∀ i, m - (q + 1) ≤ i → i < m → kf f p i = kf f p (m - 1)
end
end L2
end
section
set_option Elab.async false
set_option linter.all false
set_option maxRecDepth 100000
namespace L2
open PySem PySem.Spec PySem.W PySem.Calls PyProof.Rows
def RowsAt (h : Heap) (vs : List Value) (f : Nat → List Int) : Prop := ∀ i, i < vs.length → ∃ b us, vs[i]? = some (.ref b) ∧ h.IsList b us ∧ IntsAre us.toList (f i)
theorem RowsAt.keep {h h' : Heap} {vs : List Value} {f : Nat → List Int} (r : RowsAt h vs f) (k : ∀ (i : Nat) (b : Addr), vs[i]? = some (.ref b) → ∀ o, h.get? b = some o → h'.get? b = some o) : RowsAt h' vs f := fun i hi => by
  obtain ⟨b, us, e, l, q⟩ := r i hi
  exact ⟨b, us, e, l.at fun o z => k i b e o z, q⟩
def outOf (vs : List Value) (p : Array Nat) : Array Value := List.toArray (p.toList.map fun i => vs.getD i Value.none)
def midH (h : Heap) (a : Addr) (vs : List Value) : Heap := ((h.update a (Obj.mapSeq fun _ => #[])).push (seqObj "tuple" vs.toArray 0)).push (seqObj "list" #[] 0)
section
variable {prog : Program} {w : World} {A : Around} {E : Value → Shared → Prop} {s : Shared} {vs : List Value} {f : Nat → List Int}
end
end L2
end
section
set_option Elab.async false
set_option linter.all false
set_option maxRecDepth 100000
namespace L2
open PySem PySem.Spec PySem.W PySem.Calls PyProof.Rows
section
variable {prog : Program} {w : World} {A : Around} {R : Result → Shared → Prop} {I : Addr} {fp wr : List Addr} {n : Nat} {P : Nat → Value → Prop} {St : Nat → Heap → Prop} {Kp : Heap → Prop} {bt : Nat → Nat → Bool} {S : Addr}
def CmpIn (prog : Program) (w : World) (A : Around) (P : Nat → Value → Prop) (Kp : Heap → Prop) (bt : Nat → Nat → Bool) : Prop :=
  ∀ (i j : Nat) (x y : Value) (t : Shared) (Q E : Value → Shared → Prop), P i x → P j y → Kp t.heap → Q (.bool (bt i j)) t → wpAny (model prog w) A (richCompare .Lt x y) Q E t
end
section
variable {prog : Program} {w : World} {A : Around} {E : Value → Shared → Prop} {s : Shared} {vs : List Value} {f : Nat → List Int} {l : Addr}
end
theorem sum_snoc : ∀ (l : List Int) (x : Int), (l ++ [x]).sum = l.sum + x
  | [], x => by simp
  | y :: l, x => by rw [List.cons_append, List.sum_cons, List.sum_cons, sum_snoc l x]; omega
theorem idx_first : ∀ (l : List Int) (y : Int) (m : Nat) (h : m < l.length), m < l.idxOf y → l[m] ≠ y
  | [], _, m, h, _ => by simp at h
  | z :: l, y, m, h, hm => by
    rw [List.idxOf_cons] at hm
    by_cases e : z = y
    · rw [e] at hm; simp at hm
    · have e2 : (z == y) = false := beq_false_of_ne e
      rw [e2] at hm
      cases m with
      | zero => exact e
      | succ m =>
        have h2 : m < l.length := by simpa using h
        have h3 : m < l.idxOf y := by simpa using hm
        exact idx_first l y m h2 h3
section
variable {X : Cx}
def pick {α : Type} (d : α) (L : List α) (p : Array Nat) : List α := p.toList.map fun i => L.getD i d
def rSortedL (K : Frag) : List V → Hp → VK → Prop := fun vs H Q => ∃ (a : Addr) (as : List Addr) (L : List (List Int)), vs = [.ref a] ∧ SqL K H a (as.map V.ref) ∧ as.length = L.length ∧ (∀ (i : Nat) (b : Addr) (l : List Int), as[i]? = some b → L[i]? = some l → SqL K H b (l.map V.int)) ∧ as.length < 64 ∧
  ∀ (p : Array Nat) (q : Addr), Arr L.length p → Up (fun i => L.getD i []) p L.length → H q = none → Q (.ref q) (upd H q (.lst ((pick 0 as p).map V.ref)))
def rMinL (K : Frag) : List V → Hp → VK → Prop := fun vs H Q => ∃ (a : Addr) (as : List Addr) (L : List (List Int)), vs = [.ref a] ∧ SqL K H a (as.map V.ref) ∧ as.length = L.length ∧ (∀ (i : Nat) (b : Addr) (l : List Int), as[i]? = some b → L[i]? = some l → SqL K H b (l.map V.int)) ∧ 0 < as.length ∧
  ∀ (i : Nat) (b : Addr) (l : List Int), as[i]? = some b → L[i]? = some l → (∀ m ∈ L, Le l m) → Q (.ref b) H
def rMinI (K : Frag) : List V → Hp → VK → Prop := fun vs H Q => ∃ (a : Addr) (ns : List Int), vs = [.ref a] ∧ SqL K H a (ns.map V.int) ∧ ns ≠ [] ∧ ∀ m, m ∈ ns → (∀ x ∈ ns, m ≤ x) → Q (.int m) H
def rSum (K : Frag) : List V → Hp → VK → Prop := fun vs H Q => ∃ (a : Addr) (ns : List Int), vs = [.ref a] ∧ SqL K H a (ns.map V.int) ∧ ns.length ≤ 1000 ∧ (∀ x ∈ ns, 0 ≤ x ∧ x ≤ 100000) ∧ Q (.int ns.sum) H
def rIndex (K : Frag) : V → List V → Hp → VK → Prop := fun x vs H Q => ∃ (l : Addr) (ns : List Int) (y : Int), x = .ref l ∧ vs = [.int y] ∧ H l = some (.lst (ns.map V.int)) ∧ y ∈ ns ∧ Q (.int (ns.idxOf y : Nat)) H
theorem mt_index : MtM X "list.index" (rIndex X.K) := by
  intro pins s σ H x vs v us Q I rx rv h
  obtain ⟨l, ns, y, rfl, rfl, hH, hy, q⟩ := h
  cases rx
  obtain ⟨u, rfl, t, rfl⟩ := rv.one
  obtain ⟨z, its, n, r, hl, e⟩ := I.lstM hH
  have hi : IntsAre its ns := intsAre_of r
  have zl := hi.length
  have h63 := line63
  have hj : ns.idxOf y < ns.length := List.idxOf_lt_length_of_mem hy
  rw [List.length_map] at z
  let ev : Value → Bool := fun v => match v with | .int i _ => i == y | _ => false
  have at_ : ∀ m (hm : m < ns.length), ∃ t, its[m]? = some (.int ns[m] t) := fun m hm => ints_at hi hm
  refine call_meets F.slot_list_index ⟨_, e, rfl⟩ F.entry_list_index (F.args_list_index_2 _ _) (SeqAt.list_indexAt l its.toArray n none #[] (.int y t) ev (ns.idxOf y) (by rw [List.size_toArray]; omega) (by omega) ?_ ?_) ⟨e, ?_, ?_⟩
  · obtain ⟨t1, e1⟩ := at_ _ hj
    have : its.toArray[ns.idxOf y]'(by rw [List.size_toArray]; omega) = .int ns[ns.idxOf y] t1 := by
      have := (List.getElem?_eq_some_iff.mp e1).2
      simpa using this
    rw [this]
    show (ns[ns.idxOf y] == y) = true
    rw [List.getElem_idxOf hj]
    simp
  · intro m hm hlt
    obtain ⟨t1, e1⟩ := at_ m (by omega)
    have : its.toArray[m] = .int (ns[m]'(by omega)) t1 := by
      have := (List.getElem?_eq_some_iff.mp e1).2
      simpa using this
    rw [this]
    show (ns[m]'(by omega) == y) = false
    exact beq_false_of_ne (idx_first ns y m (by omega) hlt)
  · intro w hw
    have hw' : w ∈ its := by simpa using hw
    obtain ⟨m, hm, rfl⟩ := List.mem_iff_getElem.mp hw'
    obtain ⟨t1, e1⟩ := at_ m (by omega)
    rw [(List.getElem?_eq_some_iff.mp e1).2]
    exact SeqAt.EqAt.int_int _ _ _ _
  · exact ⟨.int (ns.idxOf y : Nat), H, I.tok _, ⟨_, rfl⟩, q⟩
end
section
variable {X : Cx} {K : Frag}
end
end L2
end
section
set_option Elab.async false
set_option linter.all false
set_option maxRecDepth 100000
namespace Gm
open PySem L2
def cy (r : List Int) (j : Nat) : Int := r.getD (j % r.length) 0
theorem cy_mod {r : List Int} {i j : Nat} (h : i % r.length = j % r.length) : cy r i = cy r j := by unfold cy; rw [h]
theorem cy_lt {r : List Int} {j : Nat} (h : j < r.length) : cy r j = r[j] := by unfold cy; rw [Nat.mod_eq_of_lt h]; simp [h]
theorem cy_mem {r : List Int} {j : Nat} (h : 0 < r.length) : cy r j ∈ r := by
  have hm := Nat.mod_lt j h
  have : cy r j = r[j % r.length] := by unfold cy; simp [hm]
  rw [this]; exact List.getElem_mem _
theorem atI_cy {r : List Int} {i : Int} {j : Nat} (h1 : -(r.length : Int) ≤ i) (h2 : i < r.length) (e : (j : Int) = i ∨ (j : Int) = i + r.length) : atI (r.map V.int) i = some (V.int (cy r j)) := by
  unfold atI ixN
  rw [List.length_map]
  by_cases h0 : 0 ≤ i
  · rw [if_pos h0, if_pos h2]
    have hi : i.toNat < r.length := by omega
    have em : j % r.length = i.toNat := by
      rcases e with e | e
      · rw [Nat.mod_eq_of_lt (by omega)]; omega
      · have : j = i.toNat + r.length := by omega
        rw [this, Nat.add_mod_right, Nat.mod_eq_of_lt hi]
    show (r.map V.int)[i.toNat]? = _
    unfold cy
    rw [em]
    simp [hi]
  · rw [if_neg h0, if_pos h1]
    have hj : (i + (r.length : Int)).toNat = j := by omega
    have hl : j < r.length := by omega
    show (r.map V.int)[(i + (r.length : Int)).toNat]? = _
    rw [hj, cy_lt hl]
    simp [hl]
theorem cy_ext {r q : List Int} (hl : r.length = q.length) (h : ∀ j, cy r j = cy q j) : r = q := by
  refine List.ext_getElem hl fun i h1 h2 => ?_
  have := h i
  rw [cy_lt h1, cy_lt h2] at this
  exact this
def rot (r : List Int) (k : Nat) : List Int := r.drop k ++ r.take k
theorem rot_len {r : List Int} {k : Nat} (h : k ≤ r.length) : (rot r k).length = r.length := by unfold rot; simp; omega
theorem add_mod_cases {a b n : Nat} (ha : a < n) (hb : b < n) : (a + b) % n = if a + b < n then a + b else a + b - n := by
  by_cases h : a + b < n
  · rw [if_pos h, Nat.mod_eq_of_lt h]
  · rw [if_neg h, Nat.mod_eq_sub_mod (by omega), Nat.mod_eq_of_lt (by omega)]
theorem cy_rot {r : List Int} {k : Nat} (h : k < r.length) (j : Nat) : cy (rot r k) j = cy r (j + k) := by
  have hm := Nat.mod_lt j (show 0 < r.length by omega)
  have e : (j + k) % r.length = if j % r.length + k < r.length then j % r.length + k else j % r.length + k - r.length := by
    rw [← add_mod_cases hm h, Nat.mod_add_mod]
  unfold cy
  rw [rot_len (by omega), e]
  unfold rot
  rw [List.getD_eq_getElem?_getD, List.getD_eq_getElem?_getD]
  congr 1
  by_cases c : j % r.length + k < r.length
  · rw [if_pos c, List.getElem?_append_left (by rw [List.length_drop]; omega), List.getElem?_drop, Nat.add_comm]
  · rw [if_neg c, List.getElem?_append_right (by rw [List.length_drop]; omega), List.length_drop, List.getElem?_take, if_pos (by omega)]
    congr 1
    omega
theorem rot_rot {r : List Int} {k i : Nat} (hk : k < r.length) (hi : i < r.length) : rot (rot r k) i = rot r ((i + k) % r.length) := by
  have hl : (rot r k).length = r.length := rot_len (by omega)
  have hm := Nat.mod_lt (i + k) (show 0 < r.length by omega)
  refine cy_ext (by rw [rot_len (by rw [hl]; omega), hl, rot_len (by omega)]) fun j => ?_
  rw [cy_rot (by rw [hl]; exact hi), cy_rot hk, cy_rot hm]
  refine cy_mod ?_
  rw [Nat.add_assoc, Nat.add_mod_mod]
abbrev Dart := Int × Int
def rowOf (L : List (List Int)) (a : Int) : List Int := L.getD a.toNat []
def pre (l : List Int) (x : Int) : Int := cy l (l.idxOf x + l.length - 1)
structure Dt (L : List (List Int)) (d : Dart) : Prop where
  lo : 0 ≤ d.1
  hi : d.1 < L.length
  mem : d.2 ∈ rowOf L d.1
def nx (L : List (List Int)) (d : Dart) : Dart := (d.2, pre (rowOf L d.2) d.1)
theorem rowOf_at {L : List (List Int)} {a : Int} (h0 : 0 ≤ a) (h1 : a < L.length) : L[a.toNat]? = some (rowOf L a) := by
  unfold rowOf
  have : a.toNat < L.length := by omega
  simp [this]
theorem pre_mem {l : List Int} {x : Int} (h : x ∈ l) : pre l x ∈ l := cy_mem (List.length_pos_of_mem h)
theorem md {i n : Nat} (h : i < n) : (i + n - 1) % n = if i = 0 then n - 1 else i - 1 := by
  by_cases e : i = 0
  · rw [if_pos e, e, Nat.zero_add, Nat.mod_eq_of_lt (by omega)]
  · rw [if_neg e]
    have : i + n - 1 = (i - 1) + n := by omega
    rw [this, Nat.add_mod_right, Nat.mod_eq_of_lt (by omega)]
theorem pre_inj {l : List Int} {x y : Int} (n : l.Nodup) (hx : x ∈ l) (hy : y ∈ l) (h : pre l x = pre l y) : x = y := by
  have ix := List.idxOf_lt_length_of_mem hx
  have iy := List.idxOf_lt_length_of_mem hy
  have p0 : 0 < l.length := by omega
  unfold pre cy at h
  have mx := Nat.mod_lt (l.idxOf x + l.length - 1) p0
  have my := Nat.mod_lt (l.idxOf y + l.length - 1) p0
  have e1 : l.getD ((l.idxOf x + l.length - 1) % l.length) 0 = l[(l.idxOf x + l.length - 1) % l.length] := by simp [mx]
  have e2 : l.getD ((l.idxOf y + l.length - 1) % l.length) 0 = l[(l.idxOf y + l.length - 1) % l.length] := by simp [my]
  rw [e1, e2] at h
  have e := (List.getElem_inj n).mp h
  rw [md ix, md iy] at e
  have ei : l.idxOf x = l.idxOf y := by split at e <;> split at e <;> omega
  have g1 := List.getElem_idxOf ix
  have g2 := List.getElem_idxOf iy
  rw [← g1, ← g2]
  congr 1
theorem atI_pre {l : List Int} {x : Int} (h : x ∈ l) : atI (l.map V.int) ((l.idxOf x : Int) - 1) = some (V.int (pre l x)) := by
  have ix := List.idxOf_lt_length_of_mem h
  exact atI_cy (by omega) (by omega) (.inr (by omega))
section
variable {L : List (List Int)} {d e : Dart}
theorem Dt.back (h : Dt L d) (m : IsMap L) : 0 ≤ d.2 ∧ d.2 < L.length ∧ d.2 ≠ d.1 ∧ d.1 ∈ rowOf L d.2 := by
  have r := rowOf_at h.lo h.hi
  have g := m.rg _ _ r _ h.mem
  have e1 : ((d.1.toNat : Nat) : Int) = d.1 := Int.toNat_of_nonneg h.lo
  refine ⟨g.1, g.2.1, by rw [e1] at g; exact g.2.2, ?_⟩
  have := m.sy _ _ r _ h.mem d.2.toNat (by omega) _ (rowOf_at g.1 g.2.1)
  rwa [e1] at this
theorem Dt.nx (h : Dt L d) (m : IsMap L) : Dt L (nx L d) := by
  obtain ⟨a, b, c, f⟩ := h.back m
  exact ⟨a, b, pre_mem f⟩
theorem nx_inj (m : IsMap L) (h1 : Dt L d) (h2 : Dt L e) (h : Gm.nx L d = Gm.nx L e) : d = e := by
  obtain ⟨a, b, c, f⟩ := h1.back m
  obtain ⟨a', b', c', f'⟩ := h2.back m
  unfold Gm.nx at h
  have e2 : d.2 = e.2 := congrArg Prod.fst h
  have e3 : pre (rowOf L d.2) d.1 = pre (rowOf L e.2) e.1 := congrArg Prod.snd h
  rw [← e2] at e3 f'
  exact Prod.ext (pre_inj (m.nd _ _ (rowOf_at a b)) f f' e3) e2
def dts (L : List (List Int)) : Nat → List Dart
  | 0 => []
  | k + 1 => dts L k ++ (rowOf L k).map fun x => ((k : Int), x)
theorem mem_dts : ∀ {k : Nat}, d ∈ dts L k ↔ 0 ≤ d.1 ∧ d.1 < k ∧ d.2 ∈ rowOf L d.1
  | 0 => by simp only [dts, List.not_mem_nil, false_iff]; intro h; omega
  | k + 1 => by
    rw [dts, List.mem_append, mem_dts, List.mem_map]
    constructor
    · rintro (⟨h1, h2, h3⟩ | ⟨x, hx, rfl⟩)
      · exact ⟨h1, by omega, h3⟩
      · exact ⟨by simp, by simp; omega, hx⟩
    · rintro ⟨h1, h2, h3⟩
      by_cases e : d.1 = k
      · right
        rw [e] at h3
        exact ⟨d.2, h3, Prod.ext e.symm rfl⟩
      · left; exact ⟨h1, by omega, h3⟩
theorem nodup_dts (m : IsMap L) : ∀ {k : Nat}, k ≤ L.length → (dts L k).Nodup
  | 0, _ => .nil
  | k + 1, h => by
    rw [dts, List.nodup_append]
    refine ⟨nodup_dts m (by omega), ?_, fun a ha b hb z => ?_⟩
    · have n := m.nd _ _ (rowOf_at (L := L) (a := (k : Int)) (by omega) (by omega))
      exact List.Pairwise.map _ (fun x y hxy z => hxy (congrArg Prod.snd z)) n
    · have := (mem_dts.mp ha).2.1
      obtain ⟨x, _, rfl⟩ := List.mem_map.mp hb
      rw [z] at this
      simp at this
theorem len_dts : ∀ {k : Nat}, k ≤ L.length → ((dts L k).length : Int) = ((L.take k).map (fun l => (l.length : Int))).sum
  | 0, _ => by simp [dts]
  | k + 1, h => by
    have hk : k < L.length := by omega
    have e : rowOf L (k : Int) = L[k] := by unfold rowOf; simp [hk]
    rw [dts, List.length_append, List.length_map, show L.take (k + 1) = L.take k ++ [L[k]] by rw [List.take_succ, List.getElem?_eq_getElem hk]; rfl, List.map_append, List.map_singleton, sum_snoc, ← len_dts (by omega), e]
    omega
theorem Dt.all (h : Dt L d) : d ∈ dts L L.length := mem_dts.mpr ⟨h.lo, h.hi, h.mem⟩
theorem Dt.of (h : d ∈ dts L L.length) : Dt L d := by have := mem_dts.mp h; exact ⟨this.1, this.2.1, this.2.2⟩
def it (L : List (List Int)) (d : Dart) : Nat → Dart
  | 0 => d
  | k + 1 => Gm.nx L (it L d k)
theorem it_dt (m : IsMap L) (h : Dt L d) : ∀ k, Dt L (it L d k)
  | 0 => h
  | k + 1 => (it_dt m h k).nx m
theorem it_add (i : Nat) : ∀ k, it L d (i + k) = it L (it L d i) k
  | 0 => rfl
  | k + 1 => by show Gm.nx L (it L d (i + k)) = Gm.nx L (it L (it L d i) k); rw [it_add i k]
theorem it_back (m : IsMap L) (h : Dt L d) {k : Nat} : ∀ i, it L d i = it L d (i + k) → it L d k = d
  | 0, e => by rw [Nat.zero_add] at e; exact e.symm
  | i + 1, e => by
    rw [Nat.add_right_comm] at e
    exact it_back m h i (nx_inj m (it_dt m h _) (it_dt m h _) e)
def NoRet (L : List (List Int)) (d : Dart) (k : Nat) : Prop := ∀ i, 0 < i → i < k → it L d i ≠ d
def tr (L : List (List Int)) (d : Dart) (k : Nat) : List Dart := (List.range k).map (it L d)
theorem tr_nodup (m : IsMap L) (h : Dt L d) {k : Nat} (n : NoRet L d k) : (tr L d k).Nodup := by
  unfold tr
  refine List.Pairwise.map _ (R := fun a b => a < b ∧ a < k ∧ b < k) (fun a b hab z => ?_) ?_
  · obtain ⟨j, rfl⟩ : ∃ j, b = a + j := ⟨b - a, by omega⟩
    exact n j (by omega) (by omega) (it_back m h a z)
  · have := List.pairwise_lt_range (n := k)
    refine List.Pairwise.imp_of_mem (fun ha hb hab => ⟨hab, List.mem_range.mp ha, List.mem_range.mp hb⟩) this
theorem noRet_le (m : IsMap L) (h : Dt L d) {k : Nat} (n : NoRet L d k) : k ≤ (dts L L.length).length := by
  have := len_le (tr_nodup m h n) (r := dts L L.length) fun x hx => by
    obtain ⟨i, _, rfl⟩ := List.mem_map.mp hx
    exact (it_dt m h i).all
  simpa [tr] using this
def dj (r : List Int) (j : Nat) : Dart := (cy r j, cy r (j + 1))
structure Good (L : List (List Int)) (r : List Int) : Prop where
  two : 2 ≤ r.length
  dt : ∀ j, Dt L (dj r j)
  st : ∀ j, Gm.nx L (dj r j) = dj r (j + 1)
def sh (s : Nat) (r : List Int) : List Dart := (List.range r.length).map fun j => dj r (j + s)
theorem dj_mod {r : List Int} {i j : Nat} (h : i % r.length = j % r.length) : dj r i = dj r j := by
  unfold dj
  rw [cy_mod h, cy_mod (show (i + 1) % r.length = (j + 1) % r.length by rw [Nat.add_mod, h, ← Nat.add_mod])]
theorem sh_succ (r : List Int) (s : Nat) : (sh (s + 1) r).Perm (sh s r) := by
  unfold sh
  cases hn : r.length with
  | zero => exact List.Perm.refl _
  | succ n =>
    have e1 : (List.range (n + 1)).map (fun j => dj r (j + (s + 1))) = (List.range n).map (fun j => dj r (j + (s + 1))) ++ [dj r (n + (s + 1))] := by rw [List.range_succ, List.map_append]; rfl
    have e2 : (List.range (n + 1)).map (fun j => dj r (j + s)) = dj r s :: (List.range n).map (fun j => dj r (j + (s + 1))) := by
      rw [List.range_succ_eq_map, List.map_cons, List.map_map, Nat.zero_add]
      congr 1
      refine List.map_congr_left fun j _ => ?_
      show dj r (j + 1 + s) = _
      congr 1
      omega
    have e3 : dj r (n + (s + 1)) = dj r s := dj_mod (by rw [hn, show n + (s + 1) = s + (n + 1) by omega, Nat.add_mod_right])
    rw [e1, e2, e3]
    exact List.perm_append_singleton _ _
theorem sh_perm (r : List Int) : ∀ s, (sh s r).Perm (sh 0 r)
  | 0 => List.Perm.refl _
  | s + 1 => (sh_succ r s).trans (sh_perm r s)
theorem mem_sh {r : List Int} {s : Nat} (h0 : 0 < r.length) : d ∈ sh s r ↔ ∃ j, d = dj r j := by
  rw [(sh_perm r s).mem_iff]
  unfold sh
  rw [List.mem_map]
  constructor
  · rintro ⟨j, _, rfl⟩; exact ⟨_, rfl⟩
  · rintro ⟨j, rfl⟩
    exact ⟨j % r.length, List.mem_range.mpr (Nat.mod_lt _ h0), dj_mod (by rw [Nat.add_zero, Nat.mod_mod])⟩
theorem dj_rot {r : List Int} {k : Nat} (h : k < r.length) (j : Nat) : dj (rot r k) j = dj r (j + k) := by
  unfold dj
  rw [cy_rot h, cy_rot h]
  congr 2
  omega
theorem sh_rot {r : List Int} {k : Nat} (h : k < r.length) : sh 0 (rot r k) = sh k r := by
  unfold sh
  rw [rot_len (by omega)]
  exact List.map_congr_left fun j _ => dj_rot h j
theorem Good.rot {r : List Int} {k : Nat} (g : Good L r) (h : k < r.length) : Good L (Gm.rot r k) := by
  refine ⟨by rw [rot_len (by omega)]; exact g.two, fun j => by rw [dj_rot h]; exact g.dt _, fun j => ?_⟩
  rw [dj_rot h, dj_rot h, g.st]
  congr 1
  omega
def ringOf (L : List (List Int)) (d : Dart) (k : Nat) : List Int := (List.range k).map fun i => (it L d i).1
theorem it_per {k : Nat} (e : it L d k = d) (j : Nat) : it L d (j + k) = it L d j := by rw [Nat.add_comm, it_add, e]
theorem it_mod {k : Nat} (e : it L d k = d) (j : Nat) : it L d (j % k) = it L d j := by
  have go : ∀ q, it L d (j % k + k * q) = it L d (j % k) := by
    intro q
    induction q with
    | zero => rfl
    | succ q ih => rw [Nat.mul_succ, ← Nat.add_assoc, it_per e, ih]
  rw [← go (j / k), Nat.mod_add_div]
theorem cy_ring {k : Nat} (hk : 0 < k) (e : it L d k = d) (j : Nat) : cy (ringOf L d k) j = (it L d j).1 := by
  have hl : (ringOf L d k).length = k := by unfold ringOf; simp
  have hm := Nat.mod_lt j hk
  unfold cy
  rw [hl]
  unfold ringOf
  rw [List.getD_eq_getElem?_getD, List.getElem?_map, List.getElem?_range hm]
  show (it L d (j % k)).1 = _
  rw [it_mod e]
theorem dj_ring {k : Nat} (hk : 0 < k) (e : it L d k = d) (j : Nat) : dj (ringOf L d k) j = it L d j := by
  unfold dj
  rw [cy_ring hk e, cy_ring hk e]
  rfl
theorem ring_good (m : IsMap L) (h : Dt L d) {k : Nat} (hk : 0 < k) (e : it L d k = d) : Good L (ringOf L d k) := by
  refine ⟨?_, fun j => by rw [dj_ring hk e]; exact it_dt m h j, fun j => by rw [dj_ring hk e, dj_ring hk e]; rfl⟩
  have hl : (ringOf L d k).length = k := by unfold ringOf; simp
  rw [hl]
  by_cases z : k = 1
  · subst z
    have := (h.back m).2.2.1
    exact absurd (congrArg Prod.fst e) this
  · omega
theorem ring_nodup (m : IsMap L) (h : Dt L d) {k : Nat} (hk : 0 < k) (e : it L d k = d) (n : NoRet L d k) : (sh 0 (ringOf L d k)).Nodup := by
  have hl : (ringOf L d k).length = k := by unfold ringOf; simp
  have : sh 0 (ringOf L d k) = tr L d k := by
    unfold sh tr
    rw [hl]
    exact List.map_congr_left fun j _ => by rw [dj_ring hk e, Nat.add_zero]
  rw [this]
  exact tr_nodup m h n
def Least (r : List Int) : Prop := ∀ k, k < r.length → Le r (rot r k)
theorem least_rot {r : List Int} {k : Nat} (hk : k < r.length) (h : ∀ j, j < r.length → Le (rot r k) (rot r j)) : Least (rot r k) := fun i hi => by
  rw [rot_len (by omega)] at hi
  rw [rot_rot hk hi]
  exact h _ (Nat.mod_lt _ (by omega))
structure Lands (L R : List (List Int)) : Prop where
  good : ∀ r ∈ R, Good L r
  least : ∀ r ∈ R, Least r
  sorted : R.Pairwise (fun a b => HT.lexLt a b = true)
  nd : (R.flatMap (sh 0)).Nodup
  all : ∀ d, Dt L d → d ∈ R.flatMap (sh 0)
structure Lp (L R : List (List Int)) (ks : List Dart) : Prop where
  good : ∀ r ∈ R, Good L r
  least : ∀ r ∈ R, Least r
  nd : ks.Nodup
  pm : ks.Perm (R.flatMap (sh 0))
  two : 2 * R.length ≤ ks.length
theorem Lp.start : Lp L [] [] := ⟨by simp, by simp, .nil, .nil, Nat.le_refl _⟩
theorem Lp.dt {R : List (List Int)} {ks : List Dart} (p : Lp L R ks) (h : d ∈ ks) : Dt L d := by
  obtain ⟨r, hr, hd⟩ := List.mem_flatMap.mp (p.pm.mem_iff.mp h)
  obtain ⟨j, rfl⟩ := (mem_sh (by have := (p.good r hr).two; omega)).mp hd
  exact (p.good r hr).dt j
theorem Lp.len {R : List (List Int)} {ks : List Dart} (p : Lp L R ks) : ks.length ≤ (dts L L.length).length := len_le p.nd fun x hx => (p.dt hx).all
theorem Lp.on {R : List (List Int)} {ks : List Dart} (p : Lp L R ks) (h : d ∈ ks) : ∀ t, it L d t ∈ ks := by
  intro t
  obtain ⟨r, hr, hd⟩ := List.mem_flatMap.mp (p.pm.mem_iff.mp h)
  have g := p.good r hr
  have r0 : 0 < r.length := by have := g.two; omega
  obtain ⟨j, rfl⟩ := (mem_sh r0).mp hd
  have e : it L (dj r j) t = dj r (j + t) := by
    induction t with
    | zero => rfl
    | succ t ih => show Gm.nx L (it L (dj r j) t) = _; rw [ih, g.st]; rfl
  rw [e]
  exact p.pm.mem_iff.mpr (List.mem_flatMap.mpr ⟨r, hr, (mem_sh r0).mpr ⟨_, rfl⟩⟩)
theorem Lp.new {R : List (List Int)} {ks : List Dart} (p : Lp L R ks) {k : Nat} (hk : 0 < k) (e : it L d k = d) (n : d ∉ ks) (j : Nat) : it L d j ∉ ks := by
  intro h
  refine n ?_
  have := p.on h (k * j - j)
  rw [← it_add, show j + (k * j - j) = k * j from by have := Nat.le_mul_of_pos_left j hk; omega, Nat.mul_comm] at this
  have z := it_mod e (j * k)
  rw [Nat.mul_mod_left] at z
  rw [← z] at this
  exact this
theorem Lp.add {R : List (List Int)} {ks : List Dart} (m : IsMap L) (p : Lp L R ks) (h : Dt L d) {k c : Nat} (hk : 0 < k) (e : it L d k = d) (nr : NoRet L d k) (n : d ∉ ks) (hc : c < k) (hl : ∀ j, j < k → Le (Gm.rot (ringOf L d k) c) (Gm.rot (ringOf L d k) j)) :
    Lp L (R ++ [Gm.rot (ringOf L d k) c]) (ks ++ sh (k - 1) (ringOf L d k)) := by
  have zl : (ringOf L d k).length = k := by unfold ringOf; simp
  have g := ring_good m h hk e
  have hc' : c < (ringOf L d k).length := by rw [zl]; exact hc
  refine ⟨fun r hr => ?_, fun r hr => ?_, ?_, ?_, ?_⟩
  · rcases List.mem_append.mp hr with z | z
    · exact p.good r z
    · rw [List.mem_singleton.mp z]; exact g.rot hc'
  · rcases List.mem_append.mp hr with z | z
    · exact p.least r z
    · rw [List.mem_singleton.mp z]; exact least_rot hc' (by rw [zl]; exact hl)
  · rw [List.nodup_append]
    refine ⟨p.nd, ((sh_perm _ _).nodup_iff).mpr (ring_nodup m h hk e nr), fun a ha b hb z => ?_⟩
    obtain ⟨j, rfl⟩ := (mem_sh (by omega)).mp hb
    rw [dj_ring hk e] at z
    exact p.new hk e n j (z ▸ ha)
  · rw [List.flatMap_append, List.flatMap_singleton, sh_rot hc']
    exact p.pm.append ((sh_perm _ _).trans (sh_perm _ _).symm)
  · have := g.two
    have := p.two
    rw [List.length_append, List.length_append, List.length_singleton]
    unfold sh
    rw [List.length_map, List.length_range]
    omega
end
end Gm
end
section
set_option Elab.async false
set_option linter.all false
set_option maxRecDepth 100000
namespace Gm
open PySem L2
theorem pick_at {α : Type} {d : α} {L : List α} {p : Array Nat} (i : Nat) : (pick d L p)[i]? = (p[i]?).map fun j => L.getD j d := by unfold pick; simp
theorem pick_len {α : Type} {d : α} {L : List α} {p : Array Nat} {n : Nat} (h : Arr n p) : (pick d L p).length = n := by unfold pick; simp [h.size]
theorem Grid.pick {H : Hp} {t q : Addr} {as : List Addr} {R : List (List Int)} {p : Array Nat} (g : Grid H t as R) (h : Arr R.length p) (hq : H q = none) : Grid (upd H q (.lst ((pick 0 as p).map V.ref))) q (pick 0 as p) (pick [] R p) := by
  refine ⟨upd_same, by rw [pick_len h, pick_len h], fun i a l h1 h2 => ?_⟩
  rw [pick_at] at h1 h2
  cases e : p[i]? with
  | none => rw [e] at h1; cases h1
  | some j =>
    rw [e] at h1 h2
    have hi : i < p.size := by
      rcases Nat.lt_or_ge i p.size with z | z
      · exact z
      · rw [Array.getElem?_eq_none z] at e; cases e
    have hj : j < R.length := by
      have := h.lt (i := i) (by rw [← h.size]; exact hi)
      rw [Array.getD_eq_getD_getElem?, e] at this
      exact this
    have hj2 : j < as.length := by rw [g.len]; exact hj
    have e1 : as.getD j 0 = as[j] := by simp [hj2]
    have e2 : R.getD j [] = R[j] := by simp [hj]
    have h1' : as.getD j 0 = a := Option.some.inj h1
    have h2' : R.getD j [] = l := Option.some.inj h2
    have := g.row j as[j] R[j] (by simp [hj2]) (by simp [hj])
    rw [← e1, ← e2, h1', h2'] at this
    rw [upd_ne (ne_of_none this hq)]
    exact this
def keyD (d : Dart) : List Key := [.inl d.1, .inl d.2]
def kD (ks : List Dart) : List (List Key × V) := ks.map fun d => (keyD d, V.bl true)
theorem keyD_inj {d e : Dart} (h : keyD d = keyD e) : d = e := by
  unfold keyD at h
  simp only [List.cons.injEq, Sum.inl.injEq, and_true] at h
  exact Prod.ext h.1 h.2
theorem val_darts : ∀ (ks : List Dart) (d : Dart), (valV (kD ks) (keyD d)).isSome = decide (d ∈ ks)
  | [], d => rfl
  | e :: ks, d => by
    unfold kD
    rw [List.map_cons]
    by_cases z : e = d
    · subst z
      rw [valV_pos rfl]
      simp
    · rw [valV_neg (fun y => z (keyD_inj y))]
      have := val_darts ks d
      unfold kD at this
      rw [this]
      have z2 : ¬ d = e := fun y => z y.symm
      simp [z2]
theorem put_dart {ks : List Dart} {d : Dart} (h : d ∉ ks) : putK (kD ks) (keyD d) (.bl true) = kD (ks ++ [d]) := by
  rw [putK_new]
  · unfold kD; rw [List.map_append]; rfl
  · have := val_darts ks d
    rw [decide_eq_false h] at this
    exact Option.isNone_iff_eq_none.mp (by rw [← Option.not_isSome, this]; rfl)
theorem kD_len (ks : List Dart) : (kD ks).length = ks.length := by unfold kD; simp
theorem cut_drop {r : List Int} {k : Nat} (h : k ≤ r.length) : cutV (r.map V.int) (some (k : Int)) none = (r.drop k).map V.int := by
  unfold cutV HT.sIx
  rw [List.length_map]
  dsimp only
  rw [if_neg (by omega), show min ((k : Int).toNat) r.length = k by omega, List.take_of_length_le (by rw [List.length_drop, List.length_map]; omega), List.map_drop]
theorem cut_take {r : List Int} {k : Nat} (h : k ≤ r.length) : cutV (r.map V.int) none (some (k : Int)) = (r.take k).map V.int := by
  unfold cutV HT.sIx
  rw [List.length_map]
  dsimp only
  rw [if_neg (by omega), show min ((k : Int).toNat) r.length = k by omega, List.drop_zero, Nat.sub_zero, List.map_take]
section
variable {σ : St} {H : Hp} {Q : VK} {K : PySem.W.Frag}
theorem r_dnotin {ty td : TE} (h : ty σ H fun y H1 => td σ H1 fun x H2 => ∃ a o, x = .ref a ∧ DGet H2 a y o ∧ Q (.bl (!o.isSome)) H2) : tDNotIn ty td σ H Q := h
theorem r_dput {td ty tv : TE} {D : Ends} (h : tv σ H fun v H1 => td σ H1 fun x H2 => ty σ H2 fun y H3 => ∃ a H4, x = .ref a ∧ DPut H3 a y v H4 ∧ D.nx σ H4) : sDPut td ty tv D σ H := h
theorem r_cutFrom {a : Addr} {i k n : Nat} {r : List Int} (h1 : σ[i]? = some (some (.ref a))) (h2 : σ[k]? = some (some (.int (n : Int)))) (hs : SqL K H a (r.map V.int)) (hn : n ≤ r.length) (q : ∀ p, H p = none → Q (.ref p) (upd H p (.lst ((r.drop n).map V.int)))) :
    tSl (rSlL K) (tVar i) (tPart (tVar k)) tNoPart σ H Q := ⟨_, h1, ⟨_, h2, ⟨_, rfl, ⟨a, _, rfl, hs, fun p hp => by rw [cut_drop hn]; exact q p hp⟩⟩⟩⟩
theorem r_cutTo {a : Addr} {i k n : Nat} {r : List Int} (h1 : σ[i]? = some (some (.ref a))) (h2 : σ[k]? = some (some (.int (n : Int)))) (hs : SqL K H a (r.map V.int)) (hn : n ≤ r.length) (q : ∀ p, H p = none → Q (.ref p) (upd H p (.lst ((r.take n).map V.int)))) :
    tSl (rSlL K) (tVar i) tNoPart (tPart (tVar k)) σ H Q := ⟨_, h1, ⟨_, h2, ⟨_, rfl, ⟨a, _, rfl, hs, fun p hp => by rw [cut_take hn]; exact q p hp⟩⟩⟩⟩
end
theorem Grid.snoc {H : Hp} {t b : Addr} {bs : List Addr} {R : List (List Int)} {l : List Int} (g : Grid H t bs R) (nt : t ∉ bs) (nb : b ≠ t) (hb : H b = some (.lst (l.map V.int))) : Grid (upd H t (.lst (bs.map V.ref ++ [.ref b]))) t (bs ++ [b]) (R ++ [l]) := by
  refine ⟨by rw [List.map_append]; exact upd_same, by rw [List.length_append, List.length_append, g.len]; rfl, fun i a m h1 h2 => ?_⟩
  rcases Nat.lt_or_ge i bs.length with hi | hi
  · rw [List.getElem?_append_left hi] at h1
    rw [List.getElem?_append_left (by rw [← g.len]; exact hi)] at h2
    have am := List.mem_of_getElem? h1
    have ne : a ≠ t := fun z => nt (by rw [← z]; exact am)
    rw [upd_ne ne]
    exact g.row i a m h1 h2
  · rw [List.getElem?_append_right hi] at h1
    rw [List.getElem?_append_right (by rw [← g.len]; exact hi), ← g.len] at h2
    have : i - bs.length = 0 := by
      have := (List.getElem?_eq_some_iff.mp h1).1
      rw [List.length_singleton] at this
      omega
    rw [this] at h1 h2
    simp at h1 h2
    subst h1 h2
    rw [upd_ne nb]
    exact hb
theorem Grid.other {H : Hp} {t g : Addr} {bs : List Addr} {R : List (List Int)} {kvs : List (List Key × V)} {o : HO} (h : Grid H t bs R) (hg : H g = some (.dT kvs)) : Grid (upd H g o) t bs R := by
  refine ⟨?_, h.len, fun i a l h1 h2 => ?_⟩
  · rw [upd_ne (fun z => by have := h.top; rw [z, hg] at this; cases this)]; exact h.top
  · have := h.row i a l h1 h2
    rw [upd_ne (fun z => by rw [z, hg] at this; cases this)]; exact this
theorem Grid.notin {H : Hp} {t b : Addr} {bs : List Addr} {R : List (List Int)} (g : Grid H t bs R) (hb : H b = none) : b ∉ t :: bs := fun z => by
  rcases List.mem_cons.mp z with z | z
  · rw [z, g.top] at hb; cases hb
  · obtain ⟨k, hk, hk2⟩ := List.mem_iff_getElem.mp z
    have kl : k < R.length := by rw [← g.len]; exact hk
    have := g.row k b _ (by rw [List.getElem?_eq_getElem hk, hk2]) (List.getElem?_eq_getElem kl)
    rw [hb] at this; cases this
theorem nodup_prefix {α : Type} {A B : List α} {x : α} {j : Nat} (h : (A ++ B).Nodup) (e : B[j]? = some x) : x ∉ A ++ B.take j := by
  obtain ⟨h1, h2, h3⟩ := List.nodup_append.mp h
  intro z
  rcases List.mem_append.mp z with z | z
  · exact h3 x z x (List.mem_of_getElem? e) rfl
  · obtain ⟨hj, ex⟩ := List.getElem?_eq_some_iff.mp e
    obtain ⟨i, hi, ei⟩ := List.mem_iff_getElem.mp z
    rw [List.getElem_take] at ei
    rw [List.length_take] at hi
    have := (List.getElem_inj h2).mp (ei.trans ex.symm)
    omega
theorem sh_len (s : Nat) (r : List Int) : (sh s r).length = r.length := by unfold sh; simp
theorem sh_at {s : Nat} {r : List Int} {j : Nat} (h : j < r.length) : (sh s r)[j]? = some (dj r (j + s)) := by unfold sh; simp [h]
theorem take_snoc {α : Type} {l : List α} {j : Nat} {x : α} (h : l[j]? = some x) : l.take (j + 1) = l.take j ++ [x] := by rw [List.take_succ, h]; rfl
theorem snoc_ndA {l : List Addr} {x : Addr} : (l ++ [x]).Nodup ↔ x ∉ l ∧ l.Nodup := by rw [(List.perm_append_singleton x l).nodup_iff, List.nodup_cons]
def But (g : Addr) (H H' : Hp) : Prop := ∀ b o, b ≠ g → H b = some o → H' b = some o
theorem Same.but {g : Addr} {H H' : Hp} (h : Same H H') : But g H H' := fun b o _ e => h b o e
theorem But.trans {g : Addr} {H H' H'' : Hp} (h : But g H H') (h' : But g H' H'') : But g H H'' := fun b o n e => h' b o n (h b o n e)
theorem But.upd {g : Addr} {H : Hp} {o : HO} : But g H (upd H g o) := fun b u n e => by rw [upd_ne n]; exact e
theorem But.same {g : Addr} {H H' H'' : Hp} (h : Same H H') (h' : But g H' H'') (n : H g = none) : Same H H'' := fun b o e => h' b o (fun z => by rw [z, n] at e; cases e) (h b o e)
theorem Grid.but {g : Addr} {H H' : Hp} {t : Addr} {bs : List Addr} {R : List (List Int)} {kvs : List (List Key × V)} (h : Grid H t bs R) (hg : H g = some (.dT kvs)) (e : But g H H') : Grid H' t bs R := by
  refine ⟨e _ _ (fun z => by have := h.top; rw [z, hg] at this; cases this) h.top, h.len, fun i a l h1 h2 => ?_⟩
  have := h.row i a l h1 h2
  exact e _ _ (fun z => by rw [z, hg] at this; cases this) this
theorem flat_perm : ∀ R : List (List Int), (R.flatMap fun r => sh (r.length - 2) r).Perm (R.flatMap (sh 0))
  | [] => .nil
  | r :: R => by rw [List.flatMap_cons, List.flatMap_cons]; exact (sh_perm r _).append (flat_perm R)
def fl (R : List (List Int)) (k : Nat) : List Dart := (R.take k).flatMap fun r => sh (r.length - 2) r
theorem Lands.fl_nodup {L R : List (List Int)} (h : Lands L R) (k : Nat) : (fl R k).Nodup := by
  have n : (R.flatMap fun r => sh (r.length - 2) r).Nodup := ((flat_perm R).nodup_iff).mpr h.nd
  rw [← List.take_append_drop k R, List.flatMap_append] at n
  exact (List.nodup_append.mp n).1
theorem Lands.mem {L R : List (List Int)} (h : Lands L R) (d : Dart) : d ∈ fl R R.length ↔ d ∈ dts L L.length := by
  unfold fl
  rw [List.take_length, (flat_perm R).mem_iff]
  constructor
  · intro z
    obtain ⟨r, hr, hd⟩ := List.mem_flatMap.mp z
    obtain ⟨j, rfl⟩ := (mem_sh (by have := (h.good r hr).two; omega)).mp hd
    exact ((h.good r hr).dt j).all
  · intro z; exact h.all d (Dt.of z)
theorem Lands.fl_le {L R : List (List Int)} (h : Lands L R) (m : IsMap L) (k : Nat) : (fl R k).length ≤ (dts L L.length).length := by
  refine len_le (h.fl_nodup k) fun d hd => (h.mem d).mp ?_
  unfold fl at hd ⊢
  obtain ⟨r, hr, z⟩ := List.mem_flatMap.mp hd
  rw [List.take_length]
  exact List.mem_flatMap.mpr ⟨r, List.mem_of_mem_take hr, z⟩
theorem Lands.count {L R : List (List Int)} (h : Lands L R) (m : IsMap L) : ((fl R R.length).length : Int) = (L.map fun l => (l.length : Int)).sum := by
  rw [len_eq (h.fl_nodup _) (nodup_dts m (Nat.le_refl _)) h.mem, len_dts (Nat.le_refl _), List.take_length]
theorem flat_len : ∀ S : List (List Int), (∀ r ∈ S, 2 ≤ r.length) → S.length ≤ (S.flatMap fun r => sh (r.length - 2) r).length
  | [], _ => Nat.le_refl _
  | r :: S, h => by
    have h1 := flat_len S fun x hx => h x (List.mem_cons_of_mem _ hx)
    have h2 := h r List.mem_cons_self
    rw [List.flatMap_cons, List.length_append, sh_len, List.length_cons]
    omega
theorem Lands.small {L R : List (List Int)} (h : Lands L R) (m : IsMap L) : R.length ≤ (dts L L.length).length := by
  have n := h.fl_le m R.length
  have z := flat_len R fun r hr => (h.good r hr).two
  unfold fl at n
  rw [List.take_length] at n
  omega
theorem dts_le {L : List (List Int)} (m : IsMap L) : ∀ {k : Nat}, k ≤ L.length → (dts L k).length ≤ k * (L.length - 1)
  | 0, _ => Nat.zero_le _
  | k + 1, h => by
    have i := dts_le m (k := k) (by omega)
    have e := rowOf_at (L := L) (a := (k : Int)) (by omega) (by omega)
    have n : (rowOf L (k : Int)).length ≤ L.length - 1 := by
      have n1 : ((k : Int) :: rowOf L (k : Int)).Nodup := List.nodup_cons.mpr ⟨fun z => by have := m.rg _ _ e _ z; rw [Int.toNat_natCast] at this; exact this.2.2 rfl, m.nd _ _ e⟩
      have := len_range (n := L.length) n1 fun x hx => by
        rcases List.mem_cons.mp hx with z | z
        · omega
        · have := m.rg _ _ e _ z; exact ⟨this.1, this.2.1⟩
      rw [List.length_cons] at this
      omega
    rw [dts, List.length_append, List.length_map, Nat.succ_mul]
    omega
theorem dts_small {L : List (List Int)} (m : IsMap L) (h : L.length ≤ 11) : (dts L L.length).length < 128 := by
  have h1 := dts_le m (Nat.le_refl L.length)
  have h2 : L.length * (L.length - 1) ≤ 11 * 10 := Nat.mul_le_mul h (by omega)
  omega
theorem rot_cons {r : List Int} {i : Nat} (hi : i < r.length) : rot r i = cy r i :: (r.drop (i + 1) ++ r.take i) := by
  unfold rot
  rw [List.drop_eq_getElem_cons hi, cy_lt hi]
  rfl
end Gm
end
section
set_option Elab.async false
set_option linter.all false
set_option maxRecDepth 100000
namespace Gm
open PySem L2
def pgo : Int → List Int → Int → Int
  | p, [], _ => p
  | p, h :: t, x => if h = x then p else pgo h t x
def lst (l : List Int) : Int := l.getD (l.length - 1) 0
theorem lst_cons (h : Int) {t : List Int} (n : t ≠ []) : lst (h :: t) = lst t := by
  unfold lst
  cases t with
  | nil => exact absurd rfl n
  | cons a t => simp
theorem lst_append (u : List Int) {v : List Int} (n : v ≠ []) : lst (u ++ v) = lst v := by
  induction u with
  | nil => rfl
  | cons h t ih => rw [List.cons_append, lst_cons h (by simp [n]), ih]
theorem lst_mem {l : List Int} (n : l ≠ []) : lst l ∈ l := by
  unfold lst
  have : l.length - 1 < l.length := by have := List.length_pos_iff.mpr n; omega
  simp [this]
theorem pgo_idx : ∀ {l : List Int} {p x : Int}, x ∈ l → pgo p l x = if l.idxOf x = 0 then p else l.getD (l.idxOf x - 1) 0
  | [], _, _, h => by cases h
  | h :: t, p, x, hx => by
    unfold pgo
    rw [List.idxOf_cons]
    by_cases e : h = x
    · rw [if_pos e, e]; simp
    · rw [if_neg e]
      have e2 : (h == x) = false := beq_false_of_ne e
      rw [e2]
      have hx' : x ∈ t := (List.mem_cons.mp hx).resolve_left (fun z => e z.symm)
      rw [pgo_idx hx']
      simp only [cond_false]
      rw [if_neg (Nat.succ_ne_zero _)]
      cases q : t.idxOf x with
      | zero => simp
      | succ k => simp
theorem pre_pgo {l : List Int} {x : Int} (h : x ∈ l) : pre l x = pgo (lst l) l x := by
  have ix := List.idxOf_lt_length_of_mem h
  rw [pgo_idx h]
  unfold pre cy lst
  rw [md ix]
  split <;> rfl
theorem pgo_mem : ∀ (l : List Int) (p x : Int), pgo p l x = p ∨ pgo p l x ∈ l
  | [], p, x => .inl rfl
  | h :: t, p, x => by
    unfold pgo
    by_cases e : h = x
    · rw [if_pos e]; exact .inl rfl
    · rw [if_neg e]
      rcases pgo_mem t h x with z | z
      · rw [z]; exact .inr List.mem_cons_self
      · exact .inr (List.mem_cons_of_mem _ z)
theorem pgo_erase : ∀ {l : List Int} {p x y : Int}, l.Nodup → p ≠ y → x ∈ l → x ≠ y → pgo p (l.erase y) x = if pgo p l x = y then pgo p l y else pgo p l x
  | [], _, _, _, _, _, h, _ => by cases h
  | h :: t, p, x, y, n, hp, hx, hxy => by
    obtain ⟨n1, n2⟩ := List.nodup_cons.mp n
    by_cases e : h = y
    · subst e
      rw [List.erase_cons_head]
      have hx' : x ∈ t := (List.mem_cons.mp hx).resolve_left hxy
      have a1 : pgo p (h :: t) x = pgo h t x := by show (if h = x then p else pgo h t x) = _; rw [if_neg (fun z => hxy z.symm)]
      have a2 : pgo p (h :: t) h = p := by show (if h = h then p else pgo h t h) = _; rw [if_pos rfl]
      rw [a1, a2]
      cases t with
      | nil => cases hx'
      | cons k s =>
        by_cases e2 : k = x
        · have b1 : pgo p (k :: s) x = p := by show (if k = x then p else pgo k s x) = _; rw [if_pos e2]
          have b2 : pgo h (k :: s) x = h := by show (if k = x then h else pgo k s x) = _; rw [if_pos e2]
          rw [b1, b2, if_pos rfl]
        · have b1 : pgo p (k :: s) x = pgo k s x := by show (if k = x then p else pgo k s x) = _; rw [if_neg e2]
          have b2 : pgo h (k :: s) x = pgo k s x := by show (if k = x then h else pgo k s x) = _; rw [if_neg e2]
          rw [b1, b2, if_neg]
          intro z
          rcases pgo_mem s k x with y | y
          · rw [y] at z; exact n1 (by rw [← z]; exact List.mem_cons_self)
          · rw [z] at y; exact n1 (List.mem_cons_of_mem _ y)
    · rw [List.erase_cons_tail (by simpa using e)]
      by_cases e2 : h = x
      · have b1 : ∀ s, pgo p (h :: s) x = p := fun s => by show (if h = x then p else pgo h s x) = _; rw [if_pos e2]
        rw [b1, b1, if_neg hp]
      · have hx' : x ∈ t := (List.mem_cons.mp hx).resolve_left (fun z => e2 z.symm)
        have b1 : ∀ s, pgo p (h :: s) x = pgo h s x := fun s => by show (if h = x then p else pgo h s x) = _; rw [if_neg e2]
        have b2 : pgo p (h :: t) y = pgo h t y := by show (if h = y then p else pgo h t y) = _; rw [if_neg e]
        rw [b1, b1, b2]
        exact pgo_erase n2 e hx' hxy
theorem pgo_left : ∀ {u : List Int} {w : List Int} {p x : Int}, x ∈ u → pgo p (u ++ w) x = pgo p u x
  | [], _, _, _, h => by cases h
  | h :: t, w, p, x, hx => by
    show (if h = x then p else pgo h (t ++ w) x) = if h = x then p else pgo h t x
    by_cases e : h = x
    · rw [if_pos e, if_pos e]
    · rw [if_neg e, if_neg e]
      exact pgo_left ((List.mem_cons.mp hx).resolve_left (fun z => e z.symm))
theorem pgo_end : ∀ {u : List Int} {p y : Int}, y ∉ u → pgo p (u ++ [y]) y = if u = [] then p else lst u
  | [], p, y, _ => by show (if y = y then p else pgo y [] y) = _; rw [if_pos rfl, if_pos rfl]
  | h :: t, p, y, n => by
    have e : h ≠ y := fun z => n (by rw [z]; exact List.mem_cons_self)
    show (if h = y then p else pgo h (t ++ [y]) y) = _
    rw [if_neg e, if_neg (by simp), pgo_end (fun z => n (List.mem_cons_of_mem _ z))]
    by_cases q : t = []
    · subst q; rw [if_pos rfl]; rfl
    · rw [if_neg q, lst_cons h q]
theorem pre_erase {l : List Int} {x y : Int} (n : l.Nodup) (hx : x ∈ l) (hy : y ∈ l) (hxy : x ≠ y) : pre (l.erase y) x = if pre l x = y then pre l y else pre l x := by
  have hx2 : x ∈ l.erase y := (List.mem_erase_of_ne hxy).mpr hx
  rw [pre_pgo hx2, pre_pgo hx, pre_pgo hy]
  obtain ⟨u, v, rfl⟩ := List.append_of_mem hy
  obtain ⟨n1, n2, n3⟩ := List.nodup_append.mp n
  obtain ⟨n4, n5⟩ := List.nodup_cons.mp n2
  have yu : y ∉ u := fun z => n3 y z y List.mem_cons_self rfl
  have ee : (u ++ y :: v).erase y = u ++ v := by rw [List.erase_append_right _ yu, List.erase_cons_head]
  by_cases q : v = []
  · subst q
    rw [ee, List.append_nil]
    have xu : x ∈ u := by
      rcases List.mem_append.mp hx with z | z
      · exact z
      · exact absurd (List.mem_singleton.mp z) hxy
    have u0 : u ≠ [] := fun z => by rw [z] at xu; cases xu
    rw [lst_append u (v := [y]) (by simp), pgo_left xu, pgo_end yu, if_neg u0]
    show pgo (lst u) u x = if pgo y u x = y then lst u else pgo y u x
    cases u with
    | nil => cases xu
    | cons h t =>
      by_cases e : h = x
      · have b : ∀ q, pgo q (h :: t) x = q := fun q => by show (if h = x then q else pgo h t x) = _; rw [if_pos e]
        rw [b, b, if_pos rfl]
      · have b : ∀ q, pgo q (h :: t) x = pgo h t x := fun q => by show (if h = x then q else pgo h t x) = _; rw [if_neg e]
        rw [b, b, if_neg]
        intro z
        rcases pgo_mem t h x with w | w
        · rw [w] at z; exact yu (by rw [← z]; exact List.mem_cons_self)
        · rw [z] at w; exact yu (List.mem_cons_of_mem _ w)
  · have e1 : lst (u ++ y :: v) = lst v := by rw [lst_append u (by simp), lst_cons y q]
    have e2 : lst ((u ++ y :: v).erase y) = lst v := by rw [ee, lst_append u q]
    rw [e1, e2]
    exact pgo_erase n (fun z => n4 (by rw [← z]; exact lst_mem q)) hx hxy
theorem pre_self {l : List Int} {x : Int} (n : l.Nodup) (hx : x ∈ l) (h : pre l x = x) : l = [x] := by
  have ix := List.idxOf_lt_length_of_mem hx
  unfold pre cy at h
  have mx := Nat.mod_lt (l.idxOf x + l.length - 1) (show 0 < l.length by omega)
  have e1 : l.getD ((l.idxOf x + l.length - 1) % l.length) 0 = l[(l.idxOf x + l.length - 1) % l.length] := by simp [mx]
  rw [e1] at h
  have g := List.getElem_idxOf ix
  have e := (List.getElem_inj n).mp (h.trans g.symm)
  rw [md ix] at e
  have l1 : l.length = 1 := by split at e <;> omega
  match l, l1, hx with
  | [z], _, hx => rw [List.mem_singleton.mp hx]
theorem isMap_of {L : List (List Int)} (h : ∀ x : Int, 0 ≤ x → x < L.length → (rowOf L x).Nodup ∧ ∀ y ∈ rowOf L x, 0 ≤ y ∧ y < L.length ∧ y ≠ x ∧ x ∈ rowOf L y) : IsMap L := by
  have at_ : ∀ (i : Nat) (l : List Int), L[i]? = some l → rowOf L (i : Int) = l ∧ (i : Int) < L.length := fun i l e => by
    have hi := (List.getElem?_eq_some_iff.mp e).1
    have := rowOf_at (L := L) (a := (i : Int)) (by omega) (by omega)
    rw [Int.toNat_natCast, e] at this
    exact ⟨(Option.some.inj this).symm, by omega⟩
  refine ⟨fun i l e => ?_, fun i l e x hx => ?_, fun i l e x hx j hj m em => ?_⟩
  · obtain ⟨e1, e2⟩ := at_ i l e
    rw [← e1]; exact (h i (by omega) e2).1
  · obtain ⟨e1, e2⟩ := at_ i l e
    rw [← e1] at hx
    have := (h i (by omega) e2).2 x hx
    exact ⟨this.1, this.2.1, this.2.2.1⟩
  · obtain ⟨e1, e2⟩ := at_ i l e
    obtain ⟨e3, e4⟩ := at_ j m em
    rw [← e1] at hx
    have := ((h i (by omega) e2).2 x hx).2.2.2
    rw [hj, e3] at this
    exact this
def rem (L : List (List Int)) (a b : Int) : List (List Int) := (L.set a.toNat ((rowOf L a).erase b)).set b.toNat ((rowOf L b).erase a)
section
variable {L : List (List Int)} {a b : Int}
theorem rem_len : (rem L a b).length = L.length := by unfold rem; simp
theorem rem_row (m : IsMap L) (h : Dt L (a, b)) {x : Int} (hx : 0 ≤ x) : rowOf (rem L a b) x = if x = b then (rowOf L b).erase a else if x = a then (rowOf L a).erase b else rowOf L x := by
  obtain ⟨b0, b1, b2, b3⟩ := h.back m
  have a0 := h.lo
  have a1 := h.hi
  dsimp only at a0 a1 b0 b1 b2 b3
  show (rem L a b).getD x.toNat [] = _
  unfold rem
  rw [List.getD_eq_getElem?_getD, List.getElem?_set]
  by_cases e : x = b
  · subst e
    rw [if_pos rfl, if_pos rfl, if_pos (by rw [List.length_set]; omega)]
    rfl
  · rw [if_neg (by omega), if_neg e, List.getElem?_set]
    by_cases e2 : x = a
    · subst e2
      rw [if_pos rfl, if_pos rfl, if_pos (by omega)]
      rfl
    · rw [if_neg (by omega), if_neg e2, ← List.getD_eq_getElem?_getD]
      rfl
theorem rem_mem (m : IsMap L) (h : Dt L (a, b)) {x y : Int} (hx : 0 ≤ x) (hx1 : x < L.length) : y ∈ rowOf (rem L a b) x ↔ y ∈ rowOf L x ∧ ¬ (x = a ∧ y = b) ∧ ¬ (x = b ∧ y = a) := by
  obtain ⟨b0, b1, b2, b3⟩ := h.back m
  have a0 := h.lo
  have a1 := h.hi
  dsimp only at a0 a1 b0 b1 b2 b3
  rw [rem_row m h hx]
  by_cases e : x = b
  · subst e
    rw [if_pos rfl, (m.nd _ _ (rowOf_at hx hx1)).mem_erase_iff]
    constructor
    · rintro ⟨h1, h2⟩; exact ⟨h2, fun z => b2 z.1, fun z => h1 z.2⟩
    · rintro ⟨h1, h2, h3⟩; exact ⟨fun z => h3 ⟨rfl, z⟩, h1⟩
  · rw [if_neg e]
    by_cases e2 : x = a
    · subst e2
      rw [if_pos rfl, (m.nd _ _ (rowOf_at hx hx1)).mem_erase_iff]
      constructor
      · rintro ⟨h1, h2⟩; exact ⟨h2, fun z => h1 z.2, fun z => e z.1⟩
      · rintro ⟨h1, h2, h3⟩; exact ⟨fun z => h2 ⟨rfl, z⟩, h1⟩
    · rw [if_neg e2]
      exact ⟨fun z => ⟨z, fun y => e2 y.1, fun y => e y.1⟩, fun z => z.1⟩
theorem rem_dt (m : IsMap L) (h : Dt L (a, b)) {d : Dart} : Dt (rem L a b) d ↔ Dt L d ∧ d ≠ (a, b) ∧ d ≠ (b, a) := by
  constructor
  · intro q
    have hi := q.hi
    rw [rem_len] at hi
    have := (rem_mem m h q.lo hi).mp q.mem
    exact ⟨⟨q.lo, hi, this.1⟩, fun z => this.2.1 ⟨congrArg Prod.fst z, congrArg Prod.snd z⟩, fun z => this.2.2 ⟨congrArg Prod.fst z, congrArg Prod.snd z⟩⟩
  · rintro ⟨q, h1, h2⟩
    refine ⟨q.lo, by rw [rem_len]; exact q.hi, (rem_mem m h q.lo q.hi).mpr ⟨q.mem, fun z => h1 (Prod.ext z.1 z.2), fun z => h2 (Prod.ext z.1 z.2)⟩⟩
theorem rem_map (m : IsMap L) (h : Dt L (a, b)) : IsMap (rem L a b) := by
  refine isMap_of fun x x0 x1 => ?_
  rw [rem_len] at x1
  have n := m.nd _ _ (rowOf_at x0 x1)
  refine ⟨?_, fun y hy => ?_⟩
  · rw [rem_row m h x0]
    split
    · rename_i e; rw [← e]; exact n.erase _
    · split
      · rename_i e; rw [← e]; exact n.erase _
      · exact n
  · have q := (rem_mem m h x0 x1).mp hy
    obtain ⟨c0, c1, c2, c3⟩ := Dt.back (d := (x, y)) ⟨x0, x1, q.1⟩ m
    rw [rem_len]
    refine ⟨c0, c1, c2, (rem_mem m h c0 c1).mpr ⟨c3, fun z => q.2.2 ⟨z.2, z.1⟩, fun z => q.2.1 ⟨z.2, z.1⟩⟩⟩
theorem rem_nx (m : IsMap L) (h : Dt L (a, b)) {d : Dart} (hd : Dt (rem L a b) d) :
    nx (rem L a b) d = if nx L d = (b, a) then nx L (a, b) else if nx L d = (a, b) then nx L (b, a) else nx L d := by
  obtain ⟨q, h1, h2⟩ := (rem_dt m h).mp hd
  obtain ⟨b0, b1, b2, b3⟩ := h.back m
  obtain ⟨c0, c1, c2, c3⟩ := q.back m
  obtain ⟨x, y⟩ := d
  dsimp only at b0 b1 b2 b3 c0 c1 c2 c3
  have hmem := h.mem
  dsimp only at hmem
  unfold nx
  dsimp only
  rw [rem_row m h c0]
  by_cases e : y = b
  · subst e
    have xa : x ≠ a := fun z => h1 (by rw [z])
    rw [if_pos rfl, pre_erase (m.nd _ _ (rowOf_at c0 c1)) c3 b3 xa]
    by_cases z : pre (rowOf L y) x = a
    · rw [if_pos z, z, if_pos rfl]
    · rw [if_neg z, if_neg (fun w => z (congrArg Prod.snd w)), if_neg (fun w => b2 (congrArg Prod.fst w))]
  · rw [if_neg e]
    by_cases e2 : y = a
    · subst e2
      have xb : x ≠ b := fun z => h2 (by rw [z])
      rw [if_pos rfl, pre_erase (m.nd _ _ (rowOf_at c0 c1)) c3 hmem xb]
      rw [if_neg (fun w => e (congrArg Prod.fst w))]
      by_cases z : pre (rowOf L y) x = b
      · rw [if_pos z, z, if_pos rfl]
      · rw [if_neg z, if_neg (fun w => z (congrArg Prod.snd w))]
    · rw [if_neg e2, if_neg (fun w => e (congrArg Prod.fst w)), if_neg (fun w => e2 (congrArg Prod.fst w))]
end
end Gm
end
section
set_option Elab.async false
set_option linter.all false
set_option maxRecDepth 100000
namespace Gm
open PySem L2
inductive Wk (f : Dart → Dart) : Dart → List Dart → Dart → Prop where
  | nil (x : Dart) : Wk f x [] x
  | cons {x y : Dart} {l : List Dart} : Wk f (f x) l y → Wk f x (x :: l) y
section
variable {f g : Dart → Dart} {x y z w d : Dart} {l m : List Dart}
theorem Wk.append (h : Wk f x l y) (k : Wk f y m z) : Wk f x (l ++ m) z := by
  induction h with
  | nil _ => exact k
  | cons _ ih => exact .cons (ih k)
theorem Wk.split : ∀ {l : List Dart} {x : Dart}, Wk f x (l ++ m) z → ∃ y, Wk f x l y ∧ Wk f y m z
  | [], x, h => ⟨x, .nil x, h⟩
  | a :: l, x, h => by
    cases h with
    | cons h =>
      obtain ⟨y, h1, h2⟩ := Wk.split h
      exact ⟨y, .cons h1, h2⟩
theorem Wk.nil_eq (h : Wk f x [] y) : x = y := by cases h; rfl
theorem Wk.hd (h : Wk f x (d :: l) y) : d = x := by cases h; rfl
theorem Wk.tl (h : Wk f x (d :: l) y) : Wk f (f x) l y := by cases h; assumption
theorem Wk.on (h : Wk f x l y) : ∀ d ∈ l, f d ∈ l ∨ f d = y := by
  induction h with
  | nil _ => intro d hd; cases hd
  | @cons x y l h ih =>
    intro d hd
    rcases List.mem_cons.mp hd with e | e
    · subst e
      cases h with
      | nil _ => exact .inr rfl
      | cons h => exact .inl (List.mem_cons_of_mem _ List.mem_cons_self)
    · rcases ih d e with q | q
      · exact .inl (List.mem_cons_of_mem _ q)
      · exact .inr q
theorem Wk.new (h : Wk f x l y) (n : l ≠ []) (hy : y ∉ l) (h1 : ∀ d ∈ l, f d = y → g d = w) (h2 : ∀ d ∈ l, f d ≠ y → g d = f d) : Wk g x l w := by
  induction h with
  | nil _ => exact absurd rfl n
  | @cons x y l h ih =>
    cases h with
    | nil _ =>
      have : g x = w := h1 x List.mem_cons_self rfl
      rw [← this]
      exact .cons (.nil _)
    | @cons _ _ l2 h =>
      have ne : f x ≠ y := fun q => hy (by rw [← q]; exact List.mem_cons_of_mem _ List.mem_cons_self)
      have e := h2 x List.mem_cons_self ne
      refine .cons ?_
      rw [e]
      exact ih (by simp) (fun q => hy (List.mem_cons_of_mem _ q)) (fun d hd => h1 d (List.mem_cons_of_mem _ hd)) fun d hd => h2 d (List.mem_cons_of_mem _ hd)
theorem Wk.congr (h : Wk f x l y) (e : ∀ d ∈ l, g d = f d) : Wk g x l y := by
  induction h with
  | nil _ => exact .nil _
  | @cons x y l h ih =>
    refine .cons ?_
    rw [e x List.mem_cons_self]
    exact ih fun d hd => e d (List.mem_cons_of_mem _ hd)
end
def Cyc (f : Dart → Dart) (c : List Dart) : Prop := ∃ x l, c = x :: l ∧ Wk f x c x
section
variable {f : Dart → Dart} {c : List Dart} {d : Dart}
theorem Cyc.ne (h : Cyc f c) : c ≠ [] := by obtain ⟨x, l, rfl, _⟩ := h; simp
theorem Cyc.on (h : Cyc f c) (hd : d ∈ c) : f d ∈ c := by
  obtain ⟨x, l, rfl, k⟩ := h
  rcases k.on d hd with q | q
  · exact q
  · rw [q]; exact List.mem_cons_self
theorem Cyc.turn (h : Cyc f c) (hd : d ∈ c) : ∃ v, (d :: v).Perm c ∧ Wk f (f d) v d := by
  obtain ⟨x, l, e, k⟩ := h
  obtain ⟨u, v, rfl⟩ := List.append_of_mem hd
  obtain ⟨y, k1, k2⟩ := k.split
  have := k2.hd
  subst this
  exact ⟨v ++ u, by rw [← List.cons_append]; exact List.perm_append_comm, k2.tl.append k1⟩
end
structure Dec (L : List (List Int)) (R : List (List Dart)) : Prop where
  cyc : ∀ c ∈ R, Cyc (nx L) c
  nd : R.flatten.Nodup
  mem : ∀ d, d ∈ R.flatten ↔ Dt L d
theorem perm_front {α : Type} {x : α} {l : List α} (h : x ∈ l) : ∃ r, l.Perm (x :: r) := by
  obtain ⟨u, v, rfl⟩ := List.append_of_mem h
  exact ⟨u ++ v, List.perm_middle⟩
theorem Dec.perm {L : List (List Int)} {R S : List (List Dart)} (h : Dec L R) (p : R.Perm S) : Dec L S :=
  ⟨fun c hc => h.cyc c (p.mem_iff.mpr hc), (p.flatten.nodup_iff).mp h.nd, fun d => by rw [← p.flatten.mem_iff]; exact h.mem d⟩
theorem Dec.swap {L : List (List Int)} {R : List (List Dart)} {c e : List Dart} (h : Dec L (c :: R)) (p : e.Perm c) (k : Cyc (nx L) e) : Dec L (e :: R) := by
  have q : (e :: R).flatten.Perm (c :: R).flatten := by rw [List.flatten_cons, List.flatten_cons]; exact p.append_right _
  refine ⟨fun s hs => ?_, q.nodup_iff.mpr h.nd, fun d => by rw [q.mem_iff]; exact h.mem d⟩
  rcases List.mem_cons.mp hs with z | z
  · rw [z]; exact k
  · exact h.cyc s (List.mem_cons_of_mem _ z)
theorem Dec.front {L : List (List Int)} {R : List (List Dart)} {d : Dart} (h : Dec L R) (hd : Dt L d) : ∃ v S, Dec L ((d :: v) :: S) ∧ R.length = S.length + 1 ∧ Wk (nx L) (nx L d) v d ∧ (∀ c ∈ S, c ∈ R) := by
  obtain ⟨c, hc, hdc⟩ := List.mem_flatten.mp ((h.mem d).mpr hd)
  obtain ⟨S, p⟩ := perm_front hc
  obtain ⟨v, pv, k⟩ := (h.cyc c hc).turn hdc
  exact ⟨v, S, (h.perm p).swap pv ⟨d, v, rfl, .cons k⟩, p.length_eq, k, fun s hs => p.mem_iff.mpr (List.mem_cons_of_mem _ hs)⟩
section
variable {L : List (List Int)} {a b : Int}
theorem rem_perm (m : IsMap L) (h : Dt L (a, b)) : (dts L L.length).Perm ((a, b) :: (b, a) :: dts (rem L a b) (rem L a b).length) ∧ (dts L L.length).length = (dts (rem L a b) (rem L a b).length).length + 2 := by
  obtain ⟨b0, b1, b2, b3⟩ := h.back m
  have hb : Dt L (b, a) := ⟨b0, b1, b3⟩
  have n2 : ((a, b) :: (b, a) :: dts (rem L a b) (rem L a b).length).Nodup := by
    refine List.nodup_cons.mpr ⟨fun z => ?_, List.nodup_cons.mpr ⟨fun z => ?_, nodup_dts (rem_map m h) (Nat.le_refl _)⟩⟩
    · rcases List.mem_cons.mp z with z | z
      · exact b2 (congrArg Prod.fst z).symm
      · exact ((rem_dt m h).mp (Dt.of z)).2.1 rfl
    · exact ((rem_dt m h).mp (Dt.of z)).2.2 rfl
  have e : ∀ x, x ∈ dts L L.length ↔ x ∈ (a, b) :: (b, a) :: dts (rem L a b) (rem L a b).length := fun x => by
    constructor
    · intro z
      by_cases e1 : x = (a, b)
      · rw [e1]; exact List.mem_cons_self
      · by_cases e2 : x = (b, a)
        · rw [e2]; exact List.mem_cons_of_mem _ List.mem_cons_self
        · exact List.mem_cons_of_mem _ (List.mem_cons_of_mem _ ((rem_dt m h).mpr ⟨Dt.of z, e1, e2⟩).all)
    · intro z
      rcases List.mem_cons.mp z with z | z
      · rw [z]; exact h.all
      · rcases List.mem_cons.mp z with z | z
        · rw [z]; exact hb.all
        · exact ((rem_dt m h).mp (Dt.of z)).1.all
  have n1 := nodup_dts m (Nat.le_refl L.length)
  have l := len_eq n1 n2 e
  refine ⟨?_, by rw [l]; rfl⟩
  exact (List.perm_iff_count.mpr fun x => by
    have c : ∀ {l : List Dart}, l.Nodup → l.count x = if x ∈ l then 1 else 0 := fun {l} hn => by
      by_cases hx : x ∈ l
      · rw [if_pos hx]
        have h1 := List.nodup_iff_count.mp hn x
        have h2 := List.count_pos_iff.mpr hx
        omega
      · rw [if_neg hx, List.count_eq_zero.mpr hx]
    rw [c n1, c n2]
    by_cases hx : x ∈ dts L L.length
    · rw [if_pos hx, if_pos ((e x).mp hx)]
    · rw [if_neg hx, if_neg (fun z => hx ((e x).mpr z))])
theorem rem_dec {R : List (List Dart)} (m : IsMap L) (h : Dt L (a, b)) (D : Dec L R) :
    (∃ A B S, Dec (rem L a b) ((if A = [] then [] else [A]) ++ (if B = [] then [] else [B]) ++ S) ∧ R.length = S.length + 1 ∧ Wk (nx L) (nx L (a, b)) A (b, a) ∧ Wk (nx L) (nx L (b, a)) B (a, b)) ∨
    (∃ A B S, Dec (rem L a b) ((A ++ B) :: S) ∧ R.length = S.length + 2 ∧ A ≠ [] ∧ B ≠ [] ∧ Wk (nx (rem L a b)) (nx L (a, b)) A (nx L (b, a)) ∧ Wk (nx (rem L a b)) (nx L (b, a)) B (nx L (a, b)) ∧ (∀ d ∈ A ++ B, Dt (rem L a b) d)) := by
  obtain ⟨b0, b1, b2, b3⟩ := h.back m
  have hb : Dt L (b, a) := ⟨b0, b1, b3⟩
  have ne : (a, b) ≠ (b, a) := fun z => b2 (congrArg Prod.fst z).symm
  have spec : ∀ d, Dt L d → d ≠ (a, b) → d ≠ (b, a) → nx (rem L a b) d = if nx L d = (b, a) then nx L (a, b) else if nx L d = (a, b) then nx L (b, a) else nx L d := fun d h0 h1 h2 => rem_nx m h ((rem_dt m h).mpr ⟨h0, h1, h2⟩)
  obtain ⟨v, S, D1, len1, kv, _⟩ := D.front h
  have nd1 := D1.nd
  rw [List.flatten_cons, List.cons_append, List.nodup_cons, List.mem_append] at nd1
  obtain ⟨nd1a, nd1b⟩ := nd1
  obtain ⟨ndv, ndS, ndx⟩ := List.nodup_append.mp nd1b
  have dtv : ∀ d ∈ v, Dt L d := fun d hd => (D1.mem d).mp (by rw [List.flatten_cons]; exact List.mem_append_left _ (List.mem_cons_of_mem _ hd))
  by_cases q : (b, a) ∈ v
  · left
    obtain ⟨A, B, rfl⟩ := List.append_of_mem q
    obtain ⟨y, kA, kB⟩ := kv.split
    have := kB.hd
    subst this
    have kB := kB.tl
    obtain ⟨nA, nB, nX⟩ := List.nodup_append.mp ndv
    obtain ⟨nB1, nB2⟩ := List.nodup_cons.mp nB
    have baA : (b, a) ∉ A := fun z => nX _ z _ List.mem_cons_self rfl
    have abA : (a, b) ∉ A := fun z => nd1a (.inl (List.mem_append_left _ z))
    have abB : (a, b) ∉ B := fun z => nd1a (.inl (List.mem_append_right _ (List.mem_cons_of_mem _ z)))
    refine ⟨A, B, S, ⟨fun c hc => ?_, ?_, fun d => ?_⟩, len1, kA, kB⟩
    · rcases List.mem_append.mp hc with hc | hc
      · rcases List.mem_append.mp hc with hc | hc
        · by_cases z : A = []
          · rw [if_pos z] at hc; cases hc
          · rw [if_neg z] at hc
            rw [List.mem_singleton.mp hc]
            have k2 : Wk (nx (rem L a b)) (nx L (a, b)) A (nx L (a, b)) := kA.new z baA (fun d hd e => by rw [spec d (dtv d (List.mem_append_left _ hd)) (fun y => abA (y ▸ hd)) (fun y => baA (y ▸ hd)), if_pos e]) fun d hd e => by
              rw [spec d (dtv d (List.mem_append_left _ hd)) (fun y => abA (y ▸ hd)) (fun y => baA (y ▸ hd)), if_neg e, if_neg]
              intro y
              rcases kA.on d hd with w | w
              · exact abA (y ▸ w)
              · exact e w
            cases A with
            | nil => exact absurd rfl z
            | cons p A => have := k2.hd; subst this; exact ⟨_, _, rfl, k2⟩
        · by_cases z : B = []
          · rw [if_pos z] at hc; cases hc
          · rw [if_neg z] at hc
            rw [List.mem_singleton.mp hc]
            have dB : ∀ d ∈ B, Dt L d := fun d hd => dtv d (List.mem_append_right _ (List.mem_cons_of_mem _ hd))
            have k2 : Wk (nx (rem L a b)) (nx L (b, a)) B (nx L (b, a)) := kB.new z abB (fun d hd e => by rw [spec d (dB d hd) (fun y => abB (y ▸ hd)) (fun y => nB1 (y ▸ hd)), e, if_neg ne, if_pos rfl]) fun d hd e => by
              rw [spec d (dB d hd) (fun y => abB (y ▸ hd)) (fun y => nB1 (y ▸ hd)), if_neg, if_neg e]
              intro y
              rcases kB.on d hd with w | w
              · exact nB1 (y ▸ w)
              · exact e w
            cases B with
            | nil => exact absurd rfl z
            | cons p B => have := k2.hd; subst this; exact ⟨_, _, rfl, k2⟩
      · have cy := D1.cyc c (List.mem_cons_of_mem _ hc)
        have inS : ∀ d ∈ c, d ∈ S.flatten := fun d hd => List.mem_flatten.mpr ⟨c, hc, hd⟩
        have no1 : (a, b) ∉ c := fun z => nd1a (.inr (inS _ z))
        have no2 : (b, a) ∉ c := fun z => ndx _ q _ (inS _ z) rfl
        obtain ⟨p, r, rfl, k⟩ := id cy
        refine ⟨p, r, rfl, k.congr fun d hd => ?_⟩
        have dd : Dt L d := (D1.mem d).mp (by rw [List.flatten_cons]; exact List.mem_append_right _ (inS d hd))
        have on := cy.on hd
        have o1 : nx L d ≠ (b, a) := fun y => no2 (by rw [← y]; exact on)
        have o2 : nx L d ≠ (a, b) := fun y => no1 (by rw [← y]; exact on)
        rw [spec d dd (fun y => no1 (y ▸ hd)) (fun y => no2 (y ▸ hd)), if_neg o1, if_neg o2]
    · have fA : ∀ A : List Dart, (if A = [] then ([] : List (List Dart)) else [A]).flatten = A := fun A => by
        by_cases z : A = []
        · rw [if_pos z, z]; rfl
        · rw [if_neg z]; simp
      rw [List.flatten_append, List.flatten_append, fA, fA, List.append_assoc]
      have : (A ++ (B ++ S.flatten)).Perm (A ++ (B ++ S.flatten)) := List.Perm.refl _
      have e : ((A ++ (b, a) :: B) ++ S.flatten).Perm ((b, a) :: (A ++ (B ++ S.flatten))) := by
        rw [List.append_assoc, List.cons_append]
        exact List.perm_middle
      exact (List.nodup_cons.mp (e.nodup_iff.mp nd1b)).2
    · have fA : ∀ A : List Dart, (if A = [] then ([] : List (List Dart)) else [A]).flatten = A := fun A => by
        by_cases z : A = []
        · rw [if_pos z, z]; rfl
        · rw [if_neg z]; simp
      rw [List.flatten_append, List.flatten_append, fA, fA, List.append_assoc, rem_dt m h, ← D1.mem]
      have e : ((A ++ (b, a) :: B) ++ S.flatten).Perm ((b, a) :: (A ++ (B ++ S.flatten))) := by
        rw [List.append_assoc, List.cons_append]
        exact List.perm_middle
      have e2 := List.nodup_cons.mp (e.nodup_iff.mp nd1b)
      rw [List.flatten_cons, List.cons_append]
      have e3 : (a, b) ∉ A ++ (B ++ S.flatten) := fun z => nd1a (List.mem_append.mp (e.mem_iff.mpr (List.mem_cons_of_mem _ z)))
      constructor
      · intro z
        exact ⟨List.mem_cons_of_mem _ (e.mem_iff.mpr (List.mem_cons_of_mem _ z)), fun y => e3 (y ▸ z), fun y => e2.1 (y ▸ z)⟩
      · rintro ⟨z, z1, z2⟩
        rcases List.mem_cons.mp z with z | z
        · exact absurd z z1
        · rcases List.mem_cons.mp (e.mem_iff.mp z) with z | z
          · exact absurd z z2
          · exact z
  · right
    have q2 : (b, a) ∈ S.flatten := by
      have := (D1.mem (b, a)).mpr hb
      rw [List.flatten_cons, List.cons_append] at this
      rcases List.mem_cons.mp this with z | z
      · exact absurd z.symm ne
      · rcases List.mem_append.mp z with z | z
        · exact absurd z q
        · exact z
    obtain ⟨c, hc, hbc⟩ := List.mem_flatten.mp q2
    obtain ⟨T, pT⟩ := perm_front hc
    obtain ⟨w, pw, kw⟩ := (D1.cyc c (List.mem_cons_of_mem _ hc)).turn hbc
    have pS : S.flatten.Perm (((b, a) :: w) ++ T.flatten) := by
      refine pT.flatten.trans ?_
      rw [List.flatten_cons]
      exact pw.symm.append_right _
    have nS := pS.nodup_iff.mp ndS
    rw [List.cons_append, List.nodup_cons, List.mem_append] at nS
    obtain ⟨nS1, nS2⟩ := nS
    have abS : (a, b) ∉ S.flatten := fun z => nd1a (.inr z)
    have abw : (a, b) ∉ w := fun z => abS (pS.mem_iff.mpr (List.mem_append_left _ (List.mem_cons_of_mem _ z)))
    have baw : (b, a) ∉ w := fun z => nS1 (.inl z)
    have abv : (a, b) ∉ v := fun z => nd1a (.inl z)
    have dtw : ∀ d ∈ w, Dt L d := fun d hd => (D1.mem d).mp (by rw [List.flatten_cons]; exact List.mem_append_right _ (pS.mem_iff.mpr (List.mem_append_left _ (List.mem_cons_of_mem _ hd))))
    have v0 : v ≠ [] := fun z => by
      rw [z] at kv
      have : nx L (a, b) = (a, b) := kv.nil_eq
      exact b2 (congrArg Prod.fst this)
    have w0 : w ≠ [] := fun z => by
      rw [z] at kw
      have : nx L (b, a) = (b, a) := kw.nil_eq
      exact b2 (congrArg Prod.fst this).symm
    have k1 : Wk (nx (rem L a b)) (nx L (a, b)) v (nx L (b, a)) := kv.new v0 abv (fun d hd e => by rw [spec d (dtv d hd) (fun y => abv (y ▸ hd)) (fun y => q (y ▸ hd)), e, if_neg ne, if_pos rfl]) fun d hd e => by
      rw [spec d (dtv d hd) (fun y => abv (y ▸ hd)) (fun y => q (y ▸ hd)), if_neg, if_neg e]
      intro y
      rcases kv.on d hd with u | u
      · exact q (y ▸ u)
      · exact e u
    have k2 : Wk (nx (rem L a b)) (nx L (b, a)) w (nx L (a, b)) := kw.new w0 baw (fun d hd e => by rw [spec d (dtw d hd) (fun y => abw (y ▸ hd)) (fun y => baw (y ▸ hd)), if_pos e]) fun d hd e => by
      rw [spec d (dtw d hd) (fun y => abw (y ▸ hd)) (fun y => baw (y ▸ hd)), if_neg e, if_neg]
      intro y
      rcases kw.on d hd with u | u
      · exact abw (y ▸ u)
      · exact e u
    have pe : ((a, b) :: (v ++ S.flatten)).Perm ((a, b) :: (b, a) :: ((v ++ w) ++ T.flatten)) := by
      refine List.Perm.cons _ ?_
      rw [List.append_assoc]
      exact (pS.append_left v).trans (by rw [List.cons_append]; exact List.perm_middle)
    have nA : ((a, b) :: (b, a) :: ((v ++ w) ++ T.flatten)).Nodup := pe.nodup_iff.mp (List.nodup_cons.mpr ⟨fun z => nd1a (List.mem_append.mp z), nd1b⟩)
    obtain ⟨nA1, nA2⟩ := List.nodup_cons.mp nA
    obtain ⟨nA3, nA4⟩ := List.nodup_cons.mp nA2
    have mm : ∀ d, d ∈ (v ++ w) ++ T.flatten ↔ Dt (rem L a b) d := fun d => by
      rw [rem_dt m h, ← D1.mem, List.flatten_cons, List.cons_append, pe.mem_iff]
      constructor
      · intro z
        exact ⟨List.mem_cons_of_mem _ (List.mem_cons_of_mem _ z), fun y => nA1 (List.mem_cons_of_mem _ (y ▸ z)), fun y => nA3 (y ▸ z)⟩
      · rintro ⟨z, z1, z2⟩
        rcases List.mem_cons.mp z with z | z
        · exact absurd z z1
        · rcases List.mem_cons.mp z with z | z
          · exact absurd z z2
          · exact z
    refine ⟨v, w, T, ⟨fun s hs => ?_, by rw [List.flatten_cons]; exact nA4, fun d => by rw [List.flatten_cons]; exact mm d⟩, by rw [len1, pT.length_eq]; rfl, v0, w0, k1, k2, fun d hd => (mm d).mp (List.mem_append_left _ hd)⟩
    rcases List.mem_cons.mp hs with z | z
    · rw [z]
      have k := k1.append k2
      cases v with
      | nil => exact absurd rfl v0
      | cons p v => have := k1.hd; subst this; exact ⟨_, _, rfl, k⟩
    · have hsS : s ∈ S := pT.mem_iff.mpr (List.mem_cons_of_mem _ z)
      have cy := D1.cyc s (List.mem_cons_of_mem _ hsS)
      have inT : ∀ d ∈ s, d ∈ T.flatten := fun d hd => List.mem_flatten.mpr ⟨s, z, hd⟩
      have no1 : (a, b) ∉ s := fun y => nA1 (List.mem_cons_of_mem _ (List.mem_append_right _ (inT _ y)))
      have no2 : (b, a) ∉ s := fun y => nA3 (List.mem_append_right _ (inT _ y))
      obtain ⟨p, r, rfl, k⟩ := id cy
      refine ⟨p, r, rfl, k.congr fun d hd => ?_⟩
      have dd : Dt L d := ((rem_dt m h).mp ((mm d).mp (List.mem_append_right _ (inT d hd)))).1
      have on := cy.on hd
      have o1 : nx L d ≠ (b, a) := fun y => no2 (by rw [← y]; exact on)
      have o2 : nx L d ≠ (a, b) := fun y => no1 (by rw [← y]; exact on)
      rw [spec d dd (fun y => no1 (y ▸ hd)) (fun y => no2 (y ▸ hd)), if_neg o1, if_neg o2]
end
end Gm
end
section
set_option Elab.async false
set_option linter.all false
set_option maxRecDepth 100000
namespace Gm
open PySem L2
def iso (L : List (List Int)) : Nat := L.countP (·.isEmpty)
def Spans (L : List (List Int)) (S : List Int) : Prop := ∀ x : Int, 0 ≤ x → x < L.length → ∃ s ∈ S, Reach L s x
theorem Reach.one {L : List (List Int)} {s : Int} {d : Dart} (h : Reach L s d.1) (q : Dt L d) : Reach L s d.2 := by
  have e : ((d.1.toNat : Nat) : Int) = d.1 := Int.toNat_of_nonneg q.lo
  exact .step (i := d.1.toNat) (by rw [e]; exact h) (rowOf_at q.lo q.hi) q.mem
theorem Reach.trans {L : List (List Int)} {s x y : Int} (h : Reach L s x) (k : Reach L x y) : Reach L s y := by
  induction k with
  | here => exact h
  | step _ e hx ih => exact .step ih e hx
theorem Reach.dart {L : List (List Int)} {i : Nat} {l : List Int} {x : Int} (e : L[i]? = some l) (hx : x ∈ l) : Dt L ((i : Int), x) := by
  have hi := (List.getElem?_eq_some_iff.mp e).1
  have := rowOf_at (L := L) (a := (i : Int)) (by omega) (by omega)
  rw [Int.toNat_natCast, e] at this
  exact ⟨by simp, by simpa using hi, by rw [← Option.some.inj this]; exact hx⟩
section
variable {L : List (List Int)} {a b : Int}
theorem Reach.off (m : IsMap L) (h : Dt L (a, b)) {s x : Int} (r : Reach L s x) : Reach (rem L a b) s x ∨ Reach (rem L a b) a x ∨ Reach (rem L a b) b x := by
  induction r with
  | here => exact .inl .here
  | step r e hx ih =>
    rename_i i l y
    have d := Reach.dart e hx
    by_cases e1 : ((i : Int), y) = (a, b)
    · have : y = b := congrArg Prod.snd e1
      rw [this]; exact .inr (.inr .here)
    · by_cases e2 : ((i : Int), y) = (b, a)
      · have : y = a := congrArg Prod.snd e2
        rw [this]; exact .inr (.inl .here)
      · have d2 := (rem_dt m h).mpr ⟨d, e1, e2⟩
        rcases ih with z | z | z
        · exact .inl (Reach.one (d := ((i : Int), y)) z d2)
        · exact .inr (.inl (Reach.one (d := ((i : Int), y)) z d2))
        · exact .inr (.inr (Reach.one (d := ((i : Int), y)) z d2))
theorem Reach.near (m : IsMap L) (h : Dt L (a, b)) {s x : Int} (r : Reach L s x) : Reach (rem L a b) s x ∨ Reach (rem L a b) s a ∨ Reach (rem L a b) s b := by
  induction r with
  | here => exact .inl .here
  | step r e hx ih =>
    rename_i i l y
    have d := Reach.dart e hx
    rcases ih with z | z
    · by_cases e1 : ((i : Int), y) = (a, b)
      · have : (i : Int) = a := congrArg Prod.fst e1
        rw [this] at z; exact .inr (.inl z)
      · by_cases e2 : ((i : Int), y) = (b, a)
        · have : (i : Int) = b := congrArg Prod.fst e2
          rw [this] at z; exact .inr (.inr z)
        · exact .inl (Reach.one (d := ((i : Int), y)) z ((rem_dt m h).mpr ⟨d, e1, e2⟩))
    · exact .inr z
theorem Wk.reach {x y : Dart} {l : List Dart} (h : Wk (nx L) x l y) (q : ∀ d ∈ l, Dt L d) : Reach L x.1 y.1 := by
  induction h with
  | nil _ => exact .here
  | @cons x y l _ ih =>
    have d := q x List.mem_cons_self
    exact (Reach.one (d := x) .here d).trans (ih fun d hd => q d (List.mem_cons_of_mem _ hd))
theorem Spans.more (m : IsMap L) (h : Dt L (a, b)) {S : List Int} (s : Spans L S) : ∃ t, Spans (rem L a b) (t :: S) := by
  obtain ⟨b0, b1, b2, b3⟩ := h.back m
  obtain ⟨s0, hs0, r0⟩ := s a h.lo h.hi
  have pick : Reach (rem L a b) s0 a ∨ Reach (rem L a b) s0 b := by
    rcases r0.near m h with z | z | z
    · exact .inl z
    · exact .inl z
    · exact .inr z
  rcases pick with p | p
  · refine ⟨b, fun x x0 x1 => ?_⟩
    rw [rem_len] at x1
    obtain ⟨s1, hs1, r1⟩ := s x x0 x1
    rcases r1.off m h with z | z | z
    · exact ⟨s1, List.mem_cons_of_mem _ hs1, z⟩
    · exact ⟨s0, List.mem_cons_of_mem _ hs0, p.trans z⟩
    · exact ⟨b, List.mem_cons_self, z⟩
  · refine ⟨a, fun x x0 x1 => ?_⟩
    rw [rem_len] at x1
    obtain ⟨s1, hs1, r1⟩ := s x x0 x1
    rcases r1.off m h with z | z | z
    · exact ⟨s1, List.mem_cons_of_mem _ hs1, z⟩
    · exact ⟨a, List.mem_cons_self, z⟩
    · exact ⟨s0, List.mem_cons_of_mem _ hs0, p.trans z⟩
theorem Spans.still (m : IsMap L) (h : Dt L (a, b)) (r1 : Reach (rem L a b) a b) (r2 : Reach (rem L a b) b a) {S : List Int} (s : Spans L S) : Spans (rem L a b) S := by
  obtain ⟨s0, hs0, r0⟩ := s a h.lo h.hi
  have pick : Reach (rem L a b) s0 a := by
    rcases r0.near m h with z | z | z
    · exact z
    · exact z
    · exact z.trans r2
  intro x x0 x1
  rw [rem_len] at x1
  obtain ⟨s1, hs1, q⟩ := s x x0 x1
  rcases q.off m h with z | z | z
  · exact ⟨s1, hs1, z⟩
  · exact ⟨s0, hs0, pick.trans z⟩
  · exact ⟨s0, hs0, (pick.trans r1).trans z⟩
theorem rem_iso (m : IsMap L) (h : Dt L (a, b)) : iso (rem L a b) = iso L + (if (rowOf L b).erase a = [] then 1 else 0) + (if (rowOf L a).erase b = [] then 1 else 0) := by
  obtain ⟨b0, b1, b2, b3⟩ := h.back m
  have a0 := h.lo
  have a1 := h.hi
  have hm := h.mem
  dsimp only at a0 a1 b0 b1 b2 b3 hm
  have la : a.toNat < L.length := by omega
  have lb : b.toNat < L.length := by omega
  have ea : L[a.toNat] = rowOf L a := by have := rowOf_at a0 a1; rw [List.getElem?_eq_getElem la] at this; exact Option.some.inj this
  have eb : L[b.toNat] = rowOf L b := by have := rowOf_at b0 b1; rw [List.getElem?_eq_getElem lb] at this; exact Option.some.inj this
  have na : (rowOf L a).isEmpty = false := by cases q : rowOf L a with | nil => rw [q] at hm; cases hm | cons _ _ => rfl
  have nb : (rowOf L b).isEmpty = false := by cases q : rowOf L b with | nil => rw [q] at b3; cases b3 | cons _ _ => rfl
  have iE : ∀ l : List Int, (if l.isEmpty = true then 1 else 0) = (if l = [] then 1 else 0) := fun l => by cases l <;> simp
  unfold iso rem
  have hne : ¬ a.toNat = b.toNat := by omega
  have e1 : (L.set a.toNat ((rowOf L a).erase b))[b.toNat]'(by rw [List.length_set]; exact lb) = rowOf L b := by rw [List.getElem_set, if_neg hne, eb]
  rw [List.countP_set (by rw [List.length_set]; exact lb), List.countP_set la, e1, ea, na, nb, iE, iE]
  simp only [Bool.false_eq_true, if_false, Nat.sub_zero]
  omega
theorem rem_iso_b (m : IsMap L) (h : Dt L (a, b)) : (rowOf L b).erase a = [] ↔ nx L (a, b) = (b, a) := by
  obtain ⟨b0, b1, b2, b3⟩ := h.back m
  dsimp only at b0 b1 b2 b3
  have n := m.nd _ _ (rowOf_at b0 b1)
  constructor
  · intro z
    have : rowOf L b = [a] := by
      obtain ⟨u, v, e⟩ := List.append_of_mem b3
      rw [e] at z n ⊢
      have yu : a ∉ u := fun y => (List.nodup_append.mp n).2.2 a y a List.mem_cons_self rfl
      rw [List.erase_append_right _ yu, List.erase_cons_head] at z
      obtain ⟨z1, z2⟩ := List.append_eq_nil_iff.mp z
      rw [z1, z2]; rfl
    unfold nx
    rw [this]
    refine Prod.ext rfl ?_
    show pre [a] a = a
    unfold pre cy
    simp [Nat.mod_one]
  · intro z
    have e : pre (rowOf L b) a = a := congrArg Prod.snd z
    rw [pre_self n b3 e]
    simp
end
end Gm
end
section
set_option Elab.async false
set_option linter.all false
set_option maxRecDepth 100000
namespace Gm
open PySem L2
theorem Wk.all {f : Dart → Dart} {x y : Dart} {l : List Dart} {P : Dart → Prop} (h : Wk f x l y) (hx : P x) (s : ∀ d ∈ l, P d → P (f d)) : ∀ d ∈ l, P d := by
  induction h with
  | nil _ => intro d hd; cases hd
  | @cons x y l _ ih =>
    intro d hd
    rcases List.mem_cons.mp hd with e | e
    · rw [e]; exact hx
    · exact ih (s x List.mem_cons_self hx) (fun d hd => s d (List.mem_cons_of_mem _ hd)) d e
theorem Cyc.conn {f : Dart → Dart} {c : List Dart} {x y : Dart} {P : Dart → Prop} (h : Cyc f c) (hx : x ∈ c) (hy : y ∈ c) (px : P x) (s : ∀ d ∈ c, P d → P (f d)) : P y := by
  obtain ⟨v, p, k⟩ := h.turn hx
  have k2 : Wk f x (x :: v) x := .cons k
  exact k2.all px (fun d hd => s d (p.mem_iff.mp hd)) y (p.mem_iff.mpr hy)
theorem flat_same {R : List (List Dart)} (n : R.flatten.Nodup) {c e : List Dart} {d : Dart} (hc : c ∈ R) (he : e ∈ R) (h1 : d ∈ c) (h2 : d ∈ e) : c = e := by
  have p := (List.pairwise_flatten.mp n).2
  obtain ⟨i, hi, rfl⟩ := List.mem_iff_getElem.mp hc
  obtain ⟨j, hj, rfl⟩ := List.mem_iff_getElem.mp he
  have q := List.pairwise_iff_getElem.mp p
  rcases Nat.lt_trichotomy i j with z | z | z
  · exact absurd rfl (q i j hi hj z d h1 d h2)
  · subst z; rfl
  · exact absurd rfl (q j i hj hi z d h2 d h1)
def hdD (c : List Dart) : Dart := c.headD (0, 0)
def rep (R : List (List Dart)) (d : Dart) : Dart := ((R.find? fun c => decide (d ∈ c)).map hdD).getD (0, 0)
theorem rep_at {R : List (List Dart)} {d : Dart} (h : d ∈ R.flatten) : ∃ c ∈ R, d ∈ c ∧ rep R d = hdD c := by
  obtain ⟨c, hc, hd⟩ := List.mem_flatten.mp h
  unfold rep
  cases q : R.find? fun c => decide (d ∈ c) with
  | none => have := List.find?_eq_none.mp q c hc; simp [hd] at this
  | some e =>
    have h1 := List.find?_some q
    exact ⟨e, List.mem_of_find?_eq_some q, by simpa using h1, rfl⟩
theorem hd_mem {c : List Dart} (h : c ≠ []) : hdD c ∈ c := by cases c with | nil => exact absurd rfl h | cons a l => exact List.mem_cons_self
theorem Dec.le {L : List (List Int)} {R S : List (List Dart)} (h : Dec L R) (k : Dec L S) : R.length ≤ S.length := by
  have hm : ∀ c ∈ R, hdD c ∈ S.flatten := fun c hc => (k.mem _).mpr ((h.mem _).mp (List.mem_flatten.mpr ⟨c, hc, hd_mem (h.cyc c hc).ne⟩))
  have n : (R.map fun c => rep S (hdD c)).Nodup := by
    have p := (List.pairwise_flatten.mp h.nd).2
    refine List.Pairwise.map _ (fun x y hxy => hxy) (List.Pairwise.imp_of_mem (fun {c e} hc he hce z => ?_) p)
    obtain ⟨c', h1, h2, h3⟩ := rep_at (hm c hc)
    obtain ⟨e', g1, g2, g3⟩ := rep_at (hm e he)
    rw [h3, g3] at z
    have ee : c' = e' := flat_same k.nd h1 g1 (hd_mem (k.cyc c' h1).ne) (by rw [z]; exact hd_mem (k.cyc e' g1).ne)
    subst ee
    have : hdD e ∈ c := (k.cyc c' h1).conn (P := fun d => d ∈ c) h2 g2 (hd_mem (h.cyc c hc).ne) fun d _ hd => (h.cyc c hc).on hd
    exact hce _ this _ (hd_mem (h.cyc e he).ne) rfl
  have := len_le n (r := S.map hdD) fun x hx => by
    obtain ⟨c, hc, rfl⟩ := List.mem_map.mp hx
    obtain ⟨c', h1, h2, h3⟩ := rep_at (hm c hc)
    rw [h3]
    exact List.mem_map.mpr ⟨c', h1, rfl⟩
  simpa using this
theorem Dec.count {L : List (List Int)} {R S : List (List Dart)} (h : Dec L R) (k : Dec L S) : R.length = S.length := Nat.le_antisymm (h.le k) (k.le h)
theorem wk_dj {L : List (List Int)} {r : List Int} (g : Good L r) : ∀ (n s : Nat), Wk (nx L) (dj r s) ((List.range n).map fun j => dj r (j + s)) (dj r (s + n))
  | 0, s => .nil _
  | n + 1, s => by
    have e2 : (List.range (n + 1)).map (fun j => dj r (j + s)) = dj r s :: (List.range n).map (fun j => dj r (j + (s + 1))) := by
      rw [List.range_succ_eq_map, List.map_cons, List.map_map, Nat.zero_add]
      congr 1
      refine List.map_congr_left fun j _ => ?_
      show dj r (j + 1 + s) = _
      congr 1
      omega
    rw [e2]
    refine .cons ?_
    rw [g.st, show s + (n + 1) = s + 1 + n by omega]
    exact wk_dj g n (s + 1)
theorem Good.cyc {L : List (List Int)} {r : List Int} (g : Good L r) : Cyc (nx L) (sh 0 r) := by
  have k := wk_dj g r.length 0
  have e : dj r (0 + r.length) = dj r 0 := dj_mod (by rw [Nat.zero_add, Nat.mod_self, Nat.zero_mod])
  rw [e] at k
  have two := g.two
  have k' : Wk (nx L) (dj r 0) (sh 0 r) (dj r 0) := k
  cases q : sh 0 r with
  | nil => have := sh_len 0 r; rw [q] at this; simp at this; omega
  | cons x l =>
    rw [q] at k'
    have := k'.hd
    subst this
    exact ⟨_, _, rfl, k'⟩
theorem Lands.dec {L R : List (List Int)} (h : Lands L R) : Dec L (R.map (sh 0)) := by
  have e : (R.map (sh 0)).flatten = R.flatMap (sh 0) := rfl
  refine ⟨fun c hc => ?_, by rw [e]; exact h.nd, fun d => ?_⟩
  · obtain ⟨r, hr, rfl⟩ := List.mem_map.mp hc
    exact (h.good r hr).cyc
  · rw [e]
    constructor
    · intro z
      obtain ⟨r, hr, hd⟩ := List.mem_flatMap.mp z
      obtain ⟨j, rfl⟩ := (mem_sh (by have := (h.good r hr).two; omega)).mp hd
      exact (h.good r hr).dt j
    · exact h.all d
theorem mem_dueF {L : List (List Int)} : ∀ {k : Nat} {d : Dart}, k ≤ L.length → (d ∈ dueF L k ↔ 0 ≤ d.1 ∧ d.1 < k ∧ d.1 < d.2 ∧ d.2 < L.length ∧ d.2 ∈ rowOf L d.1)
  | 0, d, _ => by simp only [dueF, List.not_mem_nil, false_iff]; intro h; omega
  | k + 1, d, hk => by
    rw [dueF, List.mem_append, mem_dueF (by omega), List.mem_map]
    have er : L.getD k [] = rowOf L (k : Int) := rfl
    rw [er]
    constructor
    · rintro (⟨h1, h2, h3⟩ | ⟨x, hx, rfl⟩)
      · exact ⟨h1, by omega, h3⟩
      · have := mem_rowF.mp hx
        exact ⟨by simp, by simp; omega, this.1, by have := this.2.1; dsimp only; omega, this.2.2⟩
    · rintro ⟨h1, h2, h3, h4, h5⟩
      by_cases e : d.1 = k
      · right
        rw [e] at h5 h3
        exact ⟨d.2, mem_rowF.mpr ⟨h3, by omega, h5⟩, Prod.ext e.symm rfl⟩
      · left; exact ⟨h1, by omega, h3, h4, h5⟩
theorem nodup_dueF {L : List (List Int)} : ∀ {k : Nat}, k ≤ L.length → (dueF L k).Nodup
  | 0, _ => .nil
  | k + 1, hk => by
    rw [dueF, List.nodup_append]
    refine ⟨nodup_dueF (by omega), ?_, fun a ha b hb z => ?_⟩
    · exact List.Pairwise.map _ (fun x y hxy z => by have := congrArg Prod.snd z; dsimp only at this; omega) (sorted_rowF (i := k) (l := L.getD k []) (L.length - (k + 1)))
    · have := ((mem_dueF (by omega)).mp ha).2.1
      obtain ⟨x, _, rfl⟩ := List.mem_map.mp hb
      rw [z] at this
      simp at this
theorem filt_add : ∀ (l : List Dart) (p : Dart → Bool), l.length = (l.filter p).length + (l.filter fun d => !p d).length
  | [], _ => rfl
  | x :: l, p => by
    have := filt_add l p
    cases q : p x with
    | true => rw [List.filter_cons_of_pos q, List.filter_cons_of_neg (by simp [q]), List.length_cons, List.length_cons]; omega
    | false => rw [List.filter_cons_of_neg (by simp [q]), List.filter_cons_of_pos (by simp [q]), List.length_cons, List.length_cons]; omega
theorem due_half {L : List (List Int)} (m : IsMap L) : (dts L L.length).length = 2 * (dueF L L.length).length := by
  have n := nodup_dts m (Nat.le_refl L.length)
  have nd := nodup_dueF (L := L) (Nat.le_refl L.length)
  have s := filt_add (dts L L.length) (fun d : Dart => decide (d.1 < d.2))
  have e1 : ((dts L L.length).filter fun d => decide (d.1 < d.2)).length = (dueF L L.length).length := by
    refine len_eq (n.filter _) nd fun d => ?_
    rw [List.mem_filter, mem_dueF (Nat.le_refl _)]
    constructor
    · rintro ⟨h1, h2⟩
      have q := Dt.of h1
      exact ⟨q.lo, q.hi, by simpa using h2, (q.back m).2.1, q.mem⟩
    · rintro ⟨h1, h2, h3, h4, h5⟩
      exact ⟨Dt.all ⟨h1, h2, h5⟩, by simpa using h3⟩
  have e2 : ((dts L L.length).filter fun d => !decide (d.1 < d.2)).length = ((dueF L L.length).map fun d => (d.2, d.1)).length := by
    have nd2 : ((dueF L L.length).map fun d => (d.2, d.1)).Nodup := List.Pairwise.map _ (fun x y hxy z => hxy (Prod.ext (congrArg Prod.snd z) (congrArg Prod.fst z))) nd
    refine len_eq (n.filter _) nd2 fun d => ?_
    · rw [List.mem_filter, List.mem_map]
      constructor
      · rintro ⟨h1, h2⟩
        have q := Dt.of h1
        obtain ⟨b0, b1, b2, b3⟩ := q.back m
        refine ⟨(d.2, d.1), (mem_dueF (Nat.le_refl _)).mpr ⟨b0, b1, ?_, q.hi, b3⟩, rfl⟩
        have : ¬ d.1 < d.2 := by simpa using h2
        dsimp only
        omega
      · rintro ⟨e, he, rfl⟩
        obtain ⟨h1, h2, h3, h4, h5⟩ := (mem_dueF (Nat.le_refl _)).mp he
        obtain ⟨b0, b1, b2, b3⟩ := Dt.back (d := e) ⟨h1, h2, h5⟩ m
        refine ⟨Dt.all ⟨b0, b1, b3⟩, ?_⟩
        have : ¬ e.2 < e.1 := by omega
        simpa using this
  rw [List.length_map] at e2
  omega
theorem wk_tr {L : List (List Int)} {d : Dart} : ∀ k, Wk (nx L) d (tr L d k) (it L d k)
  | 0 => .nil _
  | k + 1 => by
    have e : tr L d (k + 1) = tr L d k ++ [it L d k] := by unfold tr; rw [List.range_succ, List.map_append]; rfl
    rw [e]
    exact (wk_tr k).append (.cons (.nil _))
theorem tr_cyc {L : List (List Int)} {d : Dart} {k : Nat} (hk : 0 < k) (e : it L d k = d) : Cyc (nx L) (tr L d k) := by
  have w := wk_tr (L := L) (d := d) k
  rw [e] at w
  obtain ⟨j, rfl⟩ : ∃ j, k = j + 1 := ⟨k - 1, by omega⟩
  have e2 : tr L d (j + 1) = d :: (tr L d (j + 1)).tail := by unfold tr; rw [List.range_succ_eq_map]; rfl
  exact ⟨d, _, e2, w⟩
theorem exists_per {L : List (List Int)} {d : Dart} (m : IsMap L) (h : Dt L d) : ∃ k, 0 < k ∧ it L d k = d ∧ NoRet L d k := by
  have go : ∀ n, (∃ k, 0 < k ∧ it L d k = d ∧ NoRet L d k) ∨ NoRet L d (n + 1) := by
    intro n
    induction n with
    | zero => exact .inr fun i h1 h2 => by omega
    | succ n ih =>
      rcases ih with z | z
      · exact .inl z
      · by_cases e : it L d (n + 1) = d
        · exact .inl ⟨n + 1, by omega, e, z⟩
        · refine .inr fun i h1 h2 => ?_
          by_cases q : i = n + 1
          · rw [q]; exact e
          · exact z i h1 (by omega)
  rcases go (dts L L.length).length with z | z
  · exact z
  · have := noRet_le m h z
    omega
structure Dp (L : List (List Int)) (R : List (List Dart)) : Prop where
  cyc : ∀ c ∈ R, Cyc (nx L) c
  nd : R.flatten.Nodup
  dt : ∀ d ∈ R.flatten, Dt L d
section
variable {L : List (List Int)} {R : List (List Dart)} {d : Dart} {k : Nat}
theorem Dp.start : Dp L [] := ⟨by simp, .nil, by simp⟩
theorem Dp.on (p : Dp L R) (h : d ∈ R.flatten) : ∀ t, it L d t ∈ R.flatten
  | 0 => h
  | t + 1 => by
    obtain ⟨c, hc, hd⟩ := List.mem_flatten.mp (p.on h t)
    exact List.mem_flatten.mpr ⟨c, hc, (p.cyc c hc).on hd⟩
theorem Dp.new (p : Dp L R) (hk : 0 < k) (e : it L d k = d) (n : d ∉ R.flatten) (j : Nat) : it L d j ∉ R.flatten := by
  intro h
  refine n ?_
  have := p.on h (k * j - j)
  rw [← it_add, show j + (k * j - j) = k * j from by have := Nat.le_mul_of_pos_left j hk; omega, Nat.mul_comm] at this
  have z := it_mod e (j * k)
  rw [Nat.mul_mod_left] at z
  rw [← z] at this
  exact this
theorem Dp.add (m : IsMap L) (p : Dp L R) (h : Dt L d) (hk : 0 < k) (e : it L d k = d) (nr : NoRet L d k) (n : d ∉ R.flatten) : Dp L (R ++ [tr L d k]) := by
  refine ⟨fun c hc => ?_, ?_, fun x hx => ?_⟩
  · rcases List.mem_append.mp hc with z | z
    · exact p.cyc c z
    · rw [List.mem_singleton.mp z]; exact tr_cyc hk e
  · rw [List.flatten_append, List.flatten_singleton, List.nodup_append]
    refine ⟨p.nd, tr_nodup m h nr, fun x hx y hy z => ?_⟩
    obtain ⟨j, _, rfl⟩ := List.mem_map.mp hy
    exact p.new hk e n j (z ▸ hx)
  · rw [List.flatten_append, List.flatten_singleton] at hx
    rcases List.mem_append.mp hx with z | z
    · exact p.dt x z
    · obtain ⟨j, _, rfl⟩ := List.mem_map.mp z
      exact it_dt m h j
theorem Dp.len (p : Dp L R) : R.flatten.length ≤ (dts L L.length).length := len_le p.nd fun x hx => (p.dt x hx).all
theorem Dp.few : ∀ {R : List (List Dart)}, (∀ c ∈ R, c ≠ []) → R.length ≤ R.flatten.length
  | [], _ => Nat.le_refl _
  | c :: R, h => by
    have := Dp.few (R := R) fun x hx => h x (List.mem_cons_of_mem _ hx)
    have := List.length_pos_iff.mpr (h c List.mem_cons_self)
    rw [List.flatten_cons, List.length_append, List.length_cons]
    omega
theorem Dp.dec (p : Dp L R) (all : ∀ d, Dt L d → d ∈ R.flatten) : Dec L R := ⟨p.cyc, p.nd, fun d => ⟨p.dt d, all d⟩⟩
end
theorem Grid.away {H : Hp} {t b : Addr} {bs : List Addr} {R : List (List Int)} {o : HO} (g : Grid H t bs R) (n : b ∉ t :: bs) : Grid (upd H b o) t bs R := by
  refine ⟨?_, g.len, fun i a l h1 h2 => ?_⟩
  · rw [upd_ne (fun z => n (by rw [← z]; exact List.mem_cons_self))]; exact g.top
  · have am := List.mem_of_getElem? h1
    have ne : a ≠ b := fun z => n (by rw [← z]; exact List.mem_cons_of_mem _ am)
    rw [upd_ne ne]
    exact g.row i a l h1 h2
end Gm
end
section
set_option Elab.async false
set_option linter.all false
set_option maxRecDepth 100000
namespace L2
open PySem PySem.Spec PySem.W PySem.Calls PyProof.Rows
section
variable {X : Cx}
def ddup (ns : List Int) : List Int := ns.foldl step_dedup []
def rSetI (K : Frag) : List V → Hp → VK → Prop := fun vs H Q => ∃ (a : Addr) (ns : List Int), vs = [.ref a] ∧ SqL K H a (ns.map V.int) ∧ ns.length ≤ 1000 ∧ ∀ (p : Addr) (S : Int → Bool), H p = none → Q (.ref p) (upd H p (.set S (ddup ns).length))
def rIsB : R2 := fun x y H Q => ∃ a b : Bool, x = .bl a ∧ y = .bl b ∧ Q (.bl (a == b)) H
def rInP (K : Frag) : R2 := fun x y H Q => ∃ (p l : Addr) (d : Int × Int) (ps : List Addr) (T : List (Int × Int)), x = .ref p ∧ y = .ref l ∧ H p = some (.tup [.int d.1, .int d.2]) ∧ H l = some (.lst (ps.map V.ref)) ∧ Gm.PR H ps T ∧ Q (.bl (decide (d ∈ T))) H
def rRemove : V → List V → Hp → VK → Prop := fun x vs H Q => ∃ (l : Addr) (ns : List Int) (y : Int), x = .ref l ∧ vs = [.int y] ∧ H l = some (.lst (ns.map V.int)) ∧ y ∈ ns ∧ Q .non (upd H l (.lst ((ns.erase y).map V.int)))
end
end L2
end
section
set_option Elab.async false
set_option linter.all false
set_option maxRecDepth 100000
namespace Gm
open PySem L2
theorem exists_dec {L : List (List Int)} (m : IsMap L) : ∃ R, Dec L R := by
  have go : ∀ ds : List Dart, (∀ d ∈ ds, Dt L d) → ∃ R, Dp L R ∧ ∀ d ∈ ds, d ∈ R.flatten := by
    intro ds
    induction ds with
    | nil => intro _; exact ⟨[], Dp.start, by simp⟩
    | cons d ds ih =>
      intro h
      obtain ⟨R, p, q⟩ := ih fun x hx => h x (List.mem_cons_of_mem _ hx)
      by_cases e : d ∈ R.flatten
      · refine ⟨R, p, fun x hx => ?_⟩
        rcases List.mem_cons.mp hx with z | z
        · rw [z]; exact e
        · exact q x z
      · have dt := h d List.mem_cons_self
        obtain ⟨k, k0, ek, nr⟩ := exists_per m dt
        refine ⟨_, p.add m dt k0 ek nr e, fun x hx => ?_⟩
        rw [List.flatten_append, List.flatten_singleton]
        rcases List.mem_cons.mp hx with z | z
        · rw [z]; exact List.mem_append_right _ (List.mem_map.mpr ⟨0, List.mem_range.mpr k0, rfl⟩)
        · exact List.mem_append_left _ (q x z)
  obtain ⟨R, p, q⟩ := go (dts L L.length) fun d hd => Dt.of hd
  exact ⟨R, p.dec fun d hd => q d hd.all⟩
theorem Wk.last {f : Dart → Dart} {x y : Dart} {l : List Dart} (h : Wk f x l y) (n : l ≠ []) : ∃ d ∈ l, f d = y := by
  induction h with
  | nil _ => exact absurd rfl n
  | @cons x y l k ih =>
    cases l with
    | nil => exact ⟨x, List.mem_cons_self, k.nil_eq⟩
    | cons p l =>
      obtain ⟨d, hd, e⟩ := ih (by simp)
      exact ⟨d, List.mem_cons_of_mem _ hd, e⟩
section
variable {M : List (List Int)} {a b z1 z2 : Int}
theorem add_dec {R R' : List (List Dart)} (m' : IsMap M) (h : Dt M (a, b)) (f1 : nx M (z1, a) = (a, b)) (f2 : nx M (z2, b) = (b, a)) (d1 : Dt (rem M a b) (z1, a)) (d2 : Dt (rem M a b) (z2, b)) (D : Dec (rem M a b) R) (D' : Dec M R')
    (conn : ∀ P : Dart → Prop, P (z1, a) → (∀ d, Dt (rem M a b) d → P d → P (nx (rem M a b) d)) → P (z2, b)) : R'.length = R.length + 1 ∧ iso M = iso (rem M a b) := by
  obtain ⟨b0, b1, b2, b3⟩ := h.back m'
  have hb : Dt M (b, a) := ⟨b0, b1, b3⟩
  have o1 := (rem_dt m' h).mp d1
  have o2 := (rem_dt m' h).mp d2
  have x1 : nx M (a, b) ≠ (b, a) := fun z => o2.2.1 (nx_inj m' h o2.1 (z.trans f2.symm)).symm
  have x2 : nx M (b, a) ≠ (a, b) := fun z => o1.2.2 (nx_inj m' hb o1.1 (z.trans f1.symm)).symm
  have i1 : ¬ (rowOf M b).erase a = [] := fun z => x1 ((rem_iso_b m' h).mp z)
  have i2 : ¬ (rowOf M a).erase b = [] := fun z => x2 ((rem_iso_b m' hb).mp z)
  have iE := rem_iso m' h
  rw [if_neg i1, if_neg i2] at iE
  refine ⟨?_, iE.symm⟩
  rcases rem_dec m' h D' with ⟨A, B, S, DL, lR, kA, kB⟩ | ⟨A, B, S, DL, lR, _⟩
  · exfalso
    have A0 : A ≠ [] := fun z => by rw [z] at kA; exact x1 kA.nil_eq
    have B0 : B ≠ [] := fun z => by rw [z] at kB; exact x2 kB.nil_eq
    rw [if_neg A0, if_neg B0] at DL
    have inA : ∀ d ∈ A, Dt M d := fun d hd => ((rem_dt m' h).mp ((DL.mem d).mp (List.mem_flatten.mpr ⟨A, by simp, hd⟩))).1
    have inB : ∀ d ∈ B, Dt M d := fun d hd => ((rem_dt m' h).mp ((DL.mem d).mp (List.mem_flatten.mpr ⟨B, by simp, hd⟩))).1
    obtain ⟨p, hp, ep⟩ := kA.last A0
    obtain ⟨q, hq, eq⟩ := kB.last B0
    have pe : p = (z2, b) := nx_inj m' (inA p hp) o2.1 (ep.trans f2.symm)
    have qe : q = (z1, a) := nx_inj m' (inB q hq) o1.1 (eq.trans f1.symm)
    rw [pe] at hp
    rw [qe] at hq
    have cB : Cyc (nx (rem M a b)) B := DL.cyc B (by simp)
    have := conn (fun d => d ∈ B) hq fun d _ hd => cB.on hd
    have nd := DL.nd
    rw [List.flatten_append, List.flatten_append, List.flatten_singleton, List.flatten_singleton, List.append_assoc] at nd
    exact (List.nodup_append.mp nd).2.2 _ hp _ (List.mem_append_left _ this) rfl
  · have := D.count DL
    rw [List.length_cons] at this
    omega
theorem leaf_dec {R R' : List (List Dart)} (m' : IsMap M) (h : Dt M (a, b)) (e1 : nx M (a, b) = (b, a)) (f1 : nx M (z1, a) = (a, b)) (d1 : Dt (rem M a b) (z1, a)) (D : Dec (rem M a b) R) (D' : Dec M R') : R'.length = R.length ∧ iso (rem M a b) = iso M + 1 := by
  obtain ⟨b0, b1, b2, b3⟩ := h.back m'
  have hb : Dt M (b, a) := ⟨b0, b1, b3⟩
  have o1 := (rem_dt m' h).mp d1
  have x2 : nx M (b, a) ≠ (a, b) := fun z => o1.2.2 (nx_inj m' hb o1.1 (z.trans f1.symm)).symm
  have i2 : ¬ (rowOf M a).erase b = [] := fun z => x2 ((rem_iso_b m' hb).mp z)
  have iE := rem_iso m' h
  rw [if_pos ((rem_iso_b m' h).mpr e1), if_neg i2] at iE
  refine ⟨?_, iE⟩
  rcases rem_dec m' h D' with ⟨A, B, S, DL, lR, kA, kB⟩ | ⟨A, B, S, DL, lR, A0, B0, kA, kB, dd⟩
  · have A0 : A = [] := by
      cases A with
      | nil => rfl
      | cons p A =>
        have hp := kA.hd
        have dt : Dt (rem M a b) p := (DL.mem p).mp (List.mem_flatten.mpr ⟨p :: A, by simp, List.mem_cons_self⟩)
        rw [hp, e1] at dt
        exact absurd rfl ((rem_dt m' h).mp dt).2.2
    have B0 : B ≠ [] := fun z => by rw [z] at kB; exact x2 kB.nil_eq
    rw [if_pos A0, if_neg B0] at DL
    have := D.count DL
    rw [List.nil_append, List.singleton_append, List.length_cons] at this
    omega
  · cases A with
    | nil => exact absurd rfl A0
    | cons p A =>
      have hp := kA.hd
      have dt := dd p (by simp)
      rw [hp, e1] at dt
      exact absurd rfl ((rem_dt m' h).mp dt).2.2
end
structure Sheet (L : List (List Int)) : Prop where
  map : IsMap L
  two : 2 ≤ L.length
  span : Spans L [0]
  chi : ∃ R, Dec L R ∧ (L.length : Int) + R.length + iso L = (dueF L L.length).length + 2
theorem Reach.mono {L M : List (List Int)} (h : ∀ d, Dt L d → Dt M d) {s x : Int} (r : Reach L s x) : Reach M s x := by
  induction r with
  | here => exact .here
  | step r e hx ih =>
    rename_i i l y
    exact Reach.one (d := ((i : Int), y)) ih (h _ (Reach.dart e hx))
def both (L : List (List Int)) (a b : Int) (A B : List Int) : List (List Int) := (L.set a.toNat A).set b.toNat B
structure Fresh2 (L : List (List Int)) (a b : Int) (A B : List Int) : Prop where
  map : IsMap L
  a0 : 0 ≤ a
  a1 : a < L.length
  b0 : 0 ≤ b
  b1 : b < L.length
  ne : a ≠ b
  no : b ∉ rowOf L a
  pa : A.Perm (b :: rowOf L a)
  pb : B.Perm (a :: rowOf L b)
  ea : A.erase b = rowOf L a
  eb : B.erase a = rowOf L b
section
variable {L : List (List Int)} {a b : Int} {A B : List Int}
theorem Fresh2.no' (F : Fresh2 L a b A B) : a ∉ rowOf L b := fun z => F.no (Dt.back (d := (b, a)) ⟨F.b0, F.b1, z⟩ F.map).2.2.2
theorem both_len : (both L a b A B).length = L.length := by unfold both; simp
theorem Fresh2.row (F : Fresh2 L a b A B) {x : Int} (hx : 0 ≤ x) : rowOf (both L a b A B) x = if x = b then B else if x = a then A else rowOf L x := by
  have := F.a0; have := F.a1; have := F.b0; have := F.b1; have := F.ne
  show (both L a b A B).getD x.toNat [] = _
  unfold both
  rw [List.getD_eq_getElem?_getD, List.getElem?_set]
  by_cases e : x = b
  · subst e
    rw [if_pos rfl, if_pos rfl, if_pos (by rw [List.length_set]; omega)]
    rfl
  · rw [if_neg (by omega), if_neg e, List.getElem?_set]
    by_cases e2 : x = a
    · subst e2
      rw [if_pos rfl, if_pos rfl, if_pos (by omega)]
      rfl
    · rw [if_neg (by omega), if_neg e2, ← List.getD_eq_getElem?_getD]
      rfl
theorem Fresh2.mem (F : Fresh2 L a b A B) {x y : Int} (hx : 0 ≤ x) : y ∈ rowOf (both L a b A B) x ↔ y ∈ rowOf L x ∨ (x = a ∧ y = b) ∨ (x = b ∧ y = a) := by
  rw [F.row hx]
  by_cases e : x = b
  · subst e
    rw [if_pos rfl, F.pb.mem_iff, List.mem_cons]
    constructor
    · rintro (z | z)
      · exact .inr (.inr ⟨rfl, z⟩)
      · exact .inl z
    · rintro (z | z | z)
      · exact .inr z
      · exact absurd z.1.symm F.ne
      · exact .inl z.2
  · rw [if_neg e]
    by_cases e2 : x = a
    · subst e2
      rw [if_pos rfl, F.pa.mem_iff, List.mem_cons]
      constructor
      · rintro (z | z)
        · exact .inr (.inl ⟨rfl, z⟩)
        · exact .inl z
      · rintro (z | z | z)
        · exact .inr z
        · exact .inl z.2
        · exact absurd z.1 e
    · rw [if_neg e2]
      exact ⟨.inl, fun z => z.elim id fun z => z.elim (fun w => absurd w.1 e2) fun w => absurd w.1 e⟩
theorem Fresh2.isMap (F : Fresh2 L a b A B) : IsMap (both L a b A B) := by
  have := F.a0; have := F.a1; have := F.b0; have := F.b1; have ne := F.ne
  refine isMap_of fun x x0 x1 => ?_
  rw [both_len] at x1 ⊢
  have n := F.map.nd _ _ (rowOf_at x0 x1)
  refine ⟨?_, fun y hy => ?_⟩
  · rw [F.row x0]
    split
    · rename_i e; subst e; exact F.pb.nodup_iff.mpr (List.nodup_cons.mpr ⟨F.no', n⟩)
    · split
      · rename_i e; subst e; exact F.pa.nodup_iff.mpr (List.nodup_cons.mpr ⟨F.no, n⟩)
      · exact n
  · rcases (F.mem x0).mp hy with z | ⟨z, w⟩ | ⟨z, w⟩
    · obtain ⟨c0, c1, c2, c3⟩ := Dt.back (d := (x, y)) ⟨x0, x1, z⟩ F.map
      exact ⟨c0, c1, c2, (F.mem c0).mpr (.inl c3)⟩
    · subst z w
      exact ⟨F.b0, F.b1, ne.symm, (F.mem F.b0).mpr (.inr (.inr ⟨rfl, rfl⟩))⟩
    · subst z w
      exact ⟨F.a0, F.a1, ne, (F.mem F.a0).mpr (.inr (.inl ⟨rfl, rfl⟩))⟩
theorem Fresh2.dt (F : Fresh2 L a b A B) : Dt (both L a b A B) (a, b) := ⟨F.a0, by rw [both_len]; exact F.a1, (F.mem F.a0).mpr (.inr (.inl ⟨rfl, rfl⟩))⟩
theorem Fresh2.rem (F : Fresh2 L a b A B) : rem (both L a b A B) a b = L := by
  have a0 := F.a0; have a1 := F.a1; have b0 := F.b0; have b1 := F.b1; have ne := F.ne
  unfold Gm.rem
  rw [F.row a0, F.row b0, if_neg ne, if_pos rfl, if_pos rfl, F.ea, F.eb]
  unfold both
  apply List.ext_getElem?
  intro i
  rw [List.getElem?_set]
  by_cases e : b.toNat = i
  · rw [if_pos e]
    have : i < L.length := by omega
    rw [if_pos (by simp; omega), ← e, rowOf_at b0 b1]
  · rw [if_neg e, List.getElem?_set]
    by_cases e2 : a.toNat = i
    · rw [if_pos e2, if_pos (by simp; omega), ← e2, rowOf_at a0 a1]
    · rw [if_neg e2, List.getElem?_set, if_neg e, List.getElem?_set, if_neg e2]
theorem Fresh2.sub (F : Fresh2 L a b A B) (d : Dart) (h : Dt L d) : Dt (both L a b A B) d := ⟨h.lo, by rw [both_len]; exact h.hi, (F.mem h.lo).mpr (.inl h.mem)⟩
theorem Fresh2.due (F : Fresh2 L a b A B) : (dueF (both L a b A B) L.length).length = (dueF L L.length).length + 1 := by
  have h1 := (rem_perm F.isMap F.dt).2
  rw [F.rem] at h1
  have h2 := due_half F.isMap
  have h3 := due_half F.map
  rw [both_len] at h1 h2
  omega
theorem Fresh2.sheet (F : Fresh2 L a b A B) (s : Sheet L) {z1 z2 : Int} (h1 : z1 ∈ rowOf L a) (h2 : z2 ∈ rowOf L b) (f1 : pre A z1 = b) (f2 : pre B z2 = a)
    (conn : ∀ P : Dart → Prop, P (z1, a) → (∀ d, Dt L d → P d → P (nx L d)) → P (z2, b)) : Sheet (both L a b A B) := by
  obtain ⟨c0, c1, c2, c3⟩ := Dt.back (d := (a, z1)) ⟨F.a0, F.a1, h1⟩ F.map
  obtain ⟨e0, e1, e2, e3⟩ := Dt.back (d := (b, z2)) ⟨F.b0, F.b1, h2⟩ F.map
  obtain ⟨R, D, ch⟩ := s.chi
  obtain ⟨R', D'⟩ := exists_dec F.isMap
  have n1 : nx (both L a b A B) (z1, a) = (a, b) := by
    unfold nx; dsimp only; rw [F.row F.a0, if_neg F.ne, if_pos rfl, f1]
  have n2 : nx (both L a b A B) (z2, b) = (b, a) := by
    unfold nx; dsimp only; rw [F.row F.b0, if_pos rfl, f2]
  obtain ⟨l1, l2⟩ := add_dec (R := R) F.isMap F.dt n1 n2 (by rw [F.rem]; exact ⟨c0, c1, c3⟩) (by rw [F.rem]; exact ⟨e0, e1, e3⟩) (by rw [F.rem]; exact D) D' (by rw [F.rem]; exact conn)
  rw [F.rem] at l2
  refine ⟨F.isMap, by rw [both_len]; exact s.two, fun x x0 x1 => ?_, R', D', ?_⟩
  · rw [both_len] at x1
    obtain ⟨t, ht, r⟩ := s.span x x0 x1
    exact ⟨t, ht, r.mono F.sub⟩
  · rw [both_len, F.due, l1, l2]
    omega
end
theorem put_erase : ∀ {l : List Int} {k : Nat} {x : Int}, x ∉ l → (put l k x).erase x = l := fun {l k x} h => by
  unfold put
  rw [List.erase_append_right _ (fun z => h (List.mem_of_mem_take z)), List.erase_cons_head, List.take_append_drop]
theorem pgo_put : ∀ {l : List Int} {p z x : Int}, z ∈ l → x ≠ z → pgo p (put l (l.idxOf z) x) z = x
  | [], _, _, _, h, _ => by cases h
  | h :: t, p, z, x, hz, hx => by
    rw [List.idxOf_cons]
    by_cases e : h = z
    · subst e
      have : (h == h) = true := by simp
      rw [this]
      show pgo p (x :: h :: t) h = x
      show (if x = h then p else if h = h then x else pgo h t h) = x
      rw [if_neg hx, if_pos rfl]
    · have e2 : (h == z) = false := beq_false_of_ne e
      rw [e2]
      show pgo p (h :: put t (t.idxOf z) x) z = x
      show (if h = z then p else pgo h (put t (t.idxOf z) x) z) = x
      rw [if_neg e]
      exact pgo_put ((List.mem_cons.mp hz).resolve_left (fun w => e w.symm)) hx
theorem pre_put {l : List Int} {z x : Int} (hz : z ∈ l) (hx : x ∉ l) : pre (put l (l.idxOf z) x) z = x := by
  rw [pre_pgo (mem_put.mpr (.inr hz))]
  exact pgo_put hz (fun w => hx (w ▸ hz))
theorem snoc_erase {l : List Int} {x : Int} (h : x ∉ l) : (l ++ [x]).erase x = l := by rw [List.erase_append_right _ h, List.erase_cons_head, List.append_nil]
theorem pre_snoc {l : List Int} {y x : Int} : pre ((y :: l) ++ [x]) y = x := by
  rw [pre_pgo (by simp), lst_append (y :: l) (v := [x]) (by simp)]
  show (if y = y then lst [x] else _) = x
  rw [if_pos rfl]; rfl
end Gm
end
section
set_option Elab.async false
set_option linter.all false
set_option maxRecDepth 100000
namespace Gm
open PySem L2
theorem Reach.inv {L : List (List Int)} {s x : Int} (r : Reach L s x) : x = s ∨ ∃ (j : Nat) (l : List Int), L[j]? = some l ∧ x ∈ l := by
  cases r with
  | here => exact .inl rfl
  | step r e hx => exact .inr ⟨_, _, e, hx⟩
theorem Sheet.iso0 {L : List (List Int)} (s : Sheet L) : iso L = 0 := by
  unfold iso
  refine List.countP_eq_zero.mpr fun l hl => ?_
  obtain ⟨i, hi, rfl⟩ := List.mem_iff_getElem.mp hl
  have ei : L[i]? = some L[i] := List.getElem?_eq_getElem hi
  intro z
  have e0 : L[i] = [] := by simpa using z
  have two := s.two
  by_cases h0 : i = 0
  · subst h0
    obtain ⟨t, ht, r⟩ := s.span 1 (by omega) (by omega)
    have : t = 0 := List.mem_singleton.mp ht
    subst this
    have go : ∀ x, Reach L 0 x → x = 0 := fun x r => by
      induction r with
      | here => rfl
      | step r e hx ih =>
        rename_i j l y
        have : j = 0 := by omega
        subst this
        rw [ei] at e
        cases e
        rw [e0] at hx
        cases hx
    exact absurd (go 1 r) (by omega)
  · obtain ⟨t, ht, r⟩ := s.span i (by omega) (by omega)
    have : t = 0 := List.mem_singleton.mp ht
    subst this
    rcases r.inv with w | ⟨j, l, e, hx⟩
    · omega
    · have := s.map.sy _ _ e _ hx i rfl _ ei
      rw [e0] at this
      cases this
theorem Sheet.three {L : List (List Int)} (s : Sheet L) (h3 : 3 ≤ L.length) {R : List (List Dart)} (D : Dec L R) {c : List Dart} (hc : c ∈ R) : 3 ≤ c.length := by
  have dt : ∀ d ∈ c, Dt L d := fun d hd => (D.mem d).mp (List.mem_flatten.mpr ⟨c, hc, hd⟩)
  obtain ⟨x, l, e, k⟩ := D.cyc c hc
  subst e
  have hx := dt x List.mem_cons_self
  obtain ⟨b0, b1, b2, b3⟩ := hx.back s.map
  have k1 := k.tl
  cases l with
  | nil => exact absurd (congrArg Prod.fst k1.nil_eq) b2
  | cons y l =>
    cases l with
    | cons w l => simp
    | nil =>
      exfalso
      have ey := k1.hd
      have ex := k1.tl.nil_eq
      rw [← ey] at ex
      have y1 : y.1 = x.2 := by rw [ey]; rfl
      have y2 : y.2 = x.1 := congrArg Prod.fst ex
      have p1 : pre (rowOf L x.2) x.1 = x.1 := by
        have : y.2 = pre (rowOf L x.2) x.1 := by rw [ey]; rfl
        rw [← this, y2]
      have p2 : pre (rowOf L x.1) x.2 = x.2 := by
        have : pre (rowOf L y.2) y.1 = x.2 := congrArg Prod.snd ex
        rwa [y1, y2] at this
      have r1 := pre_self (s.map.nd _ _ (rowOf_at b0 b1)) b3 p1
      have r2 := pre_self (s.map.nd _ _ (rowOf_at hx.lo hx.hi)) hx.mem p2
      have go : ∀ u, Reach L 0 u → ((u = x.1 ∨ u = x.2) ↔ ((0 : Int) = x.1 ∨ (0 : Int) = x.2)) := fun u r => by
        induction r with
        | here => exact Iff.rfl
        | step r e hv ih =>
          rename_i i l v
          refine Iff.trans ?_ ih
          have d := Reach.dart e hv
          obtain ⟨q0, q1, q2, q3⟩ := d.back s.map
          have dm := d.mem
          dsimp only at q0 q1 q2 q3 dm
          constructor
          · rintro (z | z)
            · rw [z, r2] at q3; exact .inr (List.mem_singleton.mp q3)
            · rw [z, r1] at q3; exact .inl (List.mem_singleton.mp q3)
          · rintro (z | z)
            · rw [z, r2] at dm; exact .inr (List.mem_singleton.mp dm)
            · rw [z, r1] at dm; exact .inl (List.mem_singleton.mp dm)
      have reach : ∀ u : Int, 0 ≤ u → u < L.length → Reach L 0 u := fun u h0 h1 => by
        obtain ⟨t, ht, r⟩ := s.span u h0 h1
        rw [List.mem_singleton.mp ht] at r; exact r
      have z0 := (go x.1 (reach x.1 hx.lo hx.hi)).mp (.inl rfl)
      have l1 := hx.lo
      have c0 := (go 0 (reach 0 (by omega) (by omega))).mpr z0
      have c1 := (go 1 (reach 1 (by omega) (by omega))).mpr z0
      have c2 := (go 2 (reach 2 (by omega) (by omega))).mpr z0
      omega
theorem flat_three : ∀ {R : List (List Dart)}, (∀ c ∈ R, 3 ≤ c.length) → 3 * R.length ≤ R.flatten.length
  | [], _ => Nat.le_refl _
  | c :: R, h => by
    have := flat_three (R := R) fun x hx => h x (List.mem_cons_of_mem _ hx)
    have := h c List.mem_cons_self
    rw [List.flatten_cons, List.length_append, List.length_cons]
    omega
theorem Dec.len {L : List (List Int)} {R : List (List Dart)} (m : IsMap L) (D : Dec L R) : R.flatten.length = (dts L L.length).length :=
  len_eq D.nd (nodup_dts m (Nat.le_refl _)) fun d => (D.mem d).trans ⟨fun h => h.all, fun h => Dt.of h⟩
theorem Sheet.few {L : List (List Int)} (s : Sheet L) (h : L.length ≤ 20) : (dts L L.length).length < 128 := by
  by_cases h3 : 3 ≤ L.length
  · obtain ⟨R, D, ch⟩ := s.chi
    have f := flat_three fun c hc => s.three h3 D hc
    rw [D.len s.map] at f
    have i := s.iso0
    have d := due_half s.map
    omega
  · exact dts_small s.map (by omega)
def lone (L : List (List Int)) : List (List Int) := L ++ [[]]
section
variable {L : List (List Int)}
theorem lone_row {x : Int} (x0 : 0 ≤ x) : rowOf (lone L) x = if x < L.length then rowOf L x else [] := by
  unfold rowOf lone
  rw [List.getD_eq_getElem?_getD, List.getD_eq_getElem?_getD]
  by_cases h : x < L.length
  · rw [if_pos h, List.getElem?_append_left (by omega)]
  · rw [if_neg h, List.getElem?_append_right (by omega)]
    cases q : ([[]] : List (List Int))[x.toNat - L.length]? with
    | none => rfl
    | some l =>
      have := List.mem_of_getElem? q
      rw [List.mem_singleton.mp this]; rfl
theorem lone_dt {d : Dart} : Dt (lone L) d ↔ Dt L d := by
  constructor
  · intro h
    have m := h.mem
    rw [lone_row h.lo] at m
    by_cases z : d.1 < L.length
    · rw [if_pos z] at m; exact ⟨h.lo, z, m⟩
    · rw [if_neg z] at m; cases m
  · intro h
    refine ⟨h.lo, by unfold lone; have := h.hi; simp; omega, ?_⟩
    rw [lone_row h.lo, if_pos h.hi]; exact h.mem
theorem lone_len : (lone L).length = L.length + 1 := by unfold lone; simp
theorem lone_map (m : IsMap L) : IsMap (lone L) := by
  refine isMap_of fun x x0 x1 => ?_
  rw [lone_row x0]
  by_cases z : x < L.length
  · rw [if_pos z]
    refine ⟨m.nd _ _ (rowOf_at x0 z), fun y hy => ?_⟩
    obtain ⟨c0, c1, c2, c3⟩ := Dt.back (d := (x, y)) ⟨x0, z, hy⟩ m
    dsimp only at c0 c1 c2 c3
    rw [lone_row c0, if_pos c1, lone_len]
    exact ⟨c0, by omega, c2, c3⟩
  · rw [if_neg z]; exact ⟨.nil, fun y hy => by cases hy⟩
theorem lone_nx (m : IsMap L) {d : Dart} (h : Dt L d) : nx (lone L) d = nx L d := by
  obtain ⟨b0, b1, b2, b3⟩ := h.back m
  unfold nx
  rw [lone_row b0, if_pos b1]
theorem lone_dec {R : List (List Dart)} (m : IsMap L) (D : Dec L R) : Dec (lone L) R := by
  refine ⟨fun c hc => ?_, D.nd, fun d => (D.mem d).trans lone_dt.symm⟩
  obtain ⟨x, l, e, k⟩ := D.cyc c hc
  exact ⟨x, l, e, k.congr fun d hd => lone_nx m ((D.mem d).mp (List.mem_flatten.mpr ⟨c, hc, hd⟩))⟩
theorem lone_iso : iso (lone L) = iso L + 1 := by unfold iso lone; rw [List.countP_append]; rfl
theorem lone_dts (m : IsMap L) : (dts (lone L) (lone L).length).length = (dts L L.length).length :=
  len_eq (nodup_dts (lone_map m) (Nat.le_refl _)) (nodup_dts m (Nat.le_refl _)) fun d => ⟨fun h => (lone_dt.mp (Dt.of h)).all, fun h => (lone_dt.mpr (Dt.of h)).all⟩
end
structure Pl (L : List (List Int)) (r : List Int) (c1 cj : Nat) (dn : List Nat) (M : List (List Int)) : Prop where
  sh : Sheet M
  len : M.length = L.length + 1
  new : rowOf M (L.length : Int) = dn.map (cy r)
  hd : ∃ rest, dn = c1 :: rest
  keep : ∀ x : Int, 0 ≤ x → x < L.length → (∀ c ∈ dn, cy r c ≠ x) → rowOf M x = rowOf L x
  sub : ∀ d, Dt L d → Dt M d
  le : c1 ≤ cj
  top : cj < r.length
  i1 : ∀ i, cj ≤ i → i + 1 < c1 + r.length → nx M (dj r i) = dj r (i + 1)
  i2 : nx M (dj r (c1 + (r.length - 1))) = (cy r c1, (L.length : Int))
  i3 : nx M (cy r c1, (L.length : Int)) = ((L.length : Int), cy r cj)
  i4 : nx M ((L.length : Int), cy r cj) = dj r cj
section
variable {L : List (List Int)} {r : List Int}
theorem dj_ne {i j : Nat} (n : (sh 0 r).Nodup) (h : i < j) (h2 : j < i + r.length) : dj r i ≠ dj r j := by
  intro z
  have r0 : 0 < r.length := by omega
  have e1 : dj r (i % r.length) = dj r i := dj_mod (Nat.mod_mod _ _)
  have e2 : dj r (j % r.length) = dj r j := dj_mod (Nat.mod_mod _ _)
  have m1 := Nat.mod_lt i r0
  have m2 := Nat.mod_lt j r0
  have at_ : ∀ k (hk : k < r.length), (sh 0 r)[k]'(by rw [sh_len]; exact hk) = dj r k := fun k hk => by
    have := sh_at (s := 0) hk
    rw [List.getElem?_eq_getElem (by rw [sh_len]; exact hk)] at this
    exact Option.some.inj this
  have e3 : i % r.length = j % r.length := by
    refine (List.getElem_inj (h₀ := by rw [sh_len]; exact m1) (h₁ := by rw [sh_len]; exact m2) n).mp ?_
    rw [at_ _ m1, at_ _ m2, e1, e2, z]
  have := Nat.div_add_mod i r.length
  have := Nat.div_add_mod j r.length
  have a : r.length * (i / r.length) < r.length * (j / r.length) := by omega
  have b : i / r.length + 1 ≤ j / r.length := Nat.lt_of_mul_lt_mul_left a
  have c := Nat.mul_le_mul_left r.length b
  rw [Nat.mul_add, Nat.mul_one] at c
  omega
theorem corner_in (g : Good L r) (m : IsMap L) {c : Nat} : cy r (c + (r.length - 1)) ∈ rowOf L (cy r c) ∧ 0 ≤ cy r c ∧ cy r c < L.length ∧ dj r (c + (r.length - 1)) = (cy r (c + (r.length - 1)), cy r c) := by
  have two := g.two
  have e : cy r (c + (r.length - 1) + 1) = cy r c := cy_mod (by rw [show c + (r.length - 1) + 1 = c + r.length by omega, Nat.add_mod_right])
  have d := g.dt (c + (r.length - 1))
  have b := d.back m
  have ed : dj r (c + (r.length - 1)) = (cy r (c + (r.length - 1)), cy r c) := by unfold dj; rw [e]
  rw [ed] at b
  exact ⟨b.2.2.2, b.1, b.2.1, ed⟩
theorem near_n {x : Int} (m : IsMap L) (x0 : 0 ≤ x) (x1 : x < L.length) : (L.length : Int) ∉ rowOf L x := fun z => by
  have := m.rg _ _ (rowOf_at x0 x1) _ z
  omega
theorem Pl.first (s : Sheet L) (g : Good L r) (nd : (Gm.sh 0 r).Nodup) {c : Nat} (hc : c < r.length) :
    Fresh2 (lone L) (cy r c) (L.length : Int) (put (rowOf L (cy r c)) ((rowOf L (cy r c)).idxOf (cy r (c + (r.length - 1)))) L.length) [cy r c] ∧
    Pl L r c c [c] (both (lone L) (cy r c) (L.length : Int) (put (rowOf L (cy r c)) ((rowOf L (cy r c)).idxOf (cy r (c + (r.length - 1)))) L.length) [cy r c]) := by
  have two := g.two
  obtain ⟨z1, x0, x1, ed⟩ := corner_in g s.map (c := c)
  generalize hx : cy r c = x at z1 x0 x1 ed ⊢
  generalize hz : cy r (c + (r.length - 1)) = z at z1 ed ⊢
  have nn := near_n s.map x0 x1
  have lx : rowOf (lone L) x = rowOf L x := by rw [lone_row x0, if_pos x1]
  have ln : rowOf (lone L) (L.length : Int) = [] := by rw [lone_row (by omega), if_neg (by omega)]
  have F : Fresh2 (lone L) x (L.length : Int) (put (rowOf L x) ((rowOf L x).idxOf z) L.length) [x] :=
    ⟨lone_map s.map, x0, by rw [lone_len]; omega, by omega, by rw [lone_len]; omega, by omega, by rw [lx]; exact nn, by rw [lx]; exact put_perm _ _ _, by rw [ln], by rw [lx]; exact put_erase nn, by rw [ln]; simp⟩
  refine ⟨F, ?_⟩
  generalize hM : both (lone L) x (L.length : Int) (put (rowOf L x) ((rowOf L x).idxOf z) L.length) [x] = M at F ⊢
  have FM : IsMap M := hM ▸ F.isMap
  have Fd : Dt M (x, (L.length : Int)) := hM ▸ F.dt
  have Fr : rem M x (L.length : Int) = lone L := hM ▸ F.rem
  have Frow : ∀ {y : Int}, 0 ≤ y → rowOf M y = if y = (L.length : Int) then [x] else if y = x then put (rowOf L x) ((rowOf L x).idxOf z) L.length else rowOf (lone L) y := fun h => hM ▸ F.row h
  have Ml : M.length = L.length + 1 := by rw [← hM, both_len, lone_len]
  have xn : x ≠ (L.length : Int) := by omega
  have sub : ∀ d, Dt L d → Dt M d := fun d hd => hM ▸ F.sub d (lone_dt.mpr hd)
  have f1 : nx M (z, x) = (x, (L.length : Int)) := by unfold nx; dsimp only; rw [Frow x0, if_neg xn, if_pos rfl, pre_put z1 nn]
  have f2 : nx M (x, (L.length : Int)) = ((L.length : Int), x) := by
    unfold nx; dsimp only; rw [Frow (by omega), if_pos rfl]
    refine Prod.ext rfl ?_
    show pre [x] x = x
    unfold pre cy
    simp [Nat.mod_one]
  have dzx : Dt L (z, x) := by
    obtain ⟨c0, c1, c2, c3⟩ := Dt.back (d := (x, z)) ⟨x0, x1, z1⟩ s.map
    exact ⟨c0, c1, c3⟩
  have nxs : ∀ d, Dt L d → d ≠ (z, x) → nx M d = nx L d := fun d hd hne => by
    have h0 := rem_nx FM Fd (d := d) (by rw [Fr]; exact lone_dt.mpr hd)
    rw [Fr, lone_nx s.map hd] at h0
    have dm := sub d hd
    have n1 : nx M d ≠ ((L.length : Int), x) := fun w => by
      have := nx_inj FM dm Fd (w.trans f2.symm)
      rw [this] at hd
      exact near_n s.map x0 x1 hd.mem
    have n2 : nx M d ≠ (x, (L.length : Int)) := fun w => hne (nx_inj FM dm (sub _ dzx) (w.trans f1.symm))
    rw [if_neg n1, if_neg n2] at h0
    exact h0.symm
  have nxn : nx M ((L.length : Int), x) = nx L (z, x) := by
    have h0 := rem_nx FM Fd (d := (z, x)) (by rw [Fr]; exact lone_dt.mpr dzx)
    rw [Fr, lone_nx s.map dzx, f1, if_neg (fun w => xn (congrArg Prod.fst w)), if_pos rfl] at h0
    exact h0.symm
  obtain ⟨R, D, ch⟩ := s.chi
  obtain ⟨R', D'⟩ := exists_dec FM
  obtain ⟨l1, l2⟩ := leaf_dec (R := R) (z1 := z) FM Fd f2 f1 (by rw [Fr]; exact lone_dt.mpr dzx) (by rw [Fr]; exact lone_dec s.map D) D'
  rw [Fr, lone_iso] at l2
  have due : (dueF M M.length).length = (dueF L L.length).length + 1 := by
    have h1 := (rem_perm FM Fd).2
    rw [Fr, lone_dts s.map] at h1
    have h2 := due_half FM
    have h3 := due_half s.map
    omega
  have sht : Sheet M := by
    refine ⟨FM, by have := s.two; omega, fun y y0 y1 => ?_, R', D', ?_⟩
    · by_cases e : y < L.length
      · obtain ⟨t, ht, q⟩ := s.span y y0 e
        exact ⟨t, ht, q.mono sub⟩
      · have ey : y = (L.length : Int) := by rw [Ml] at y1; omega
        obtain ⟨t, ht, q⟩ := s.span x x0 x1
        rw [ey]
        exact ⟨t, ht, Reach.one (d := (x, (L.length : Int))) (q.mono sub) Fd⟩
    · rw [due, Ml, l1]
      omega
  have edz : dj r (c + (r.length - 1)) = (z, x) := ed
  refine ⟨sht, Ml, by rw [Frow (by omega), if_pos rfl, List.map_singleton, hx], ⟨[], rfl⟩, fun y y0 y1 hy => ?_, sub, Nat.le_refl _, hc, fun i hi1 hi2 => ?_, ?_, ?_, ?_⟩
  · have : cy r c ≠ y := hy c (by simp)
    rw [hx] at this
    rw [Frow y0, if_neg (by omega), if_neg (fun w => this w.symm), lone_row y0, if_pos y1]
  · rw [nxs _ (g.dt i) (by rw [← edz]; exact dj_ne nd (by omega) (by omega)), g.st]
  · rw [edz, f1, hx]
  · rw [hx, f2]
  · rw [hx, nxn, ← edz, g.st]
    exact dj_mod (by rw [show c + (r.length - 1) + 1 = c + r.length by omega, Nat.add_mod_right])
theorem Pl.next {M : List (List Int)} {c1 cj c : Nat} {dn : List Nat} (s : Sheet L) (g : Good L r) (nd : (Gm.sh 0 r).Nodup) (p : Pl L r c1 cj dn M) (hc : cj < c) (hc2 : c < r.length) (un : ∀ e ∈ dn, cy r e ≠ cy r c) :
    Fresh2 M (cy r c) (L.length : Int) (put (rowOf L (cy r c)) ((rowOf L (cy r c)).idxOf (cy r (c + (r.length - 1)))) L.length) (rowOf M (L.length : Int) ++ [cy r c]) ∧
    Pl L r c1 c (dn ++ [c]) (both M (cy r c) (L.length : Int) (put (rowOf L (cy r c)) ((rowOf L (cy r c)).idxOf (cy r (c + (r.length - 1)))) L.length) (rowOf M (L.length : Int) ++ [cy r c])) := by
  have two := g.two
  have le := p.le
  obtain ⟨z1, x0, x1, ed⟩ := corner_in g s.map (c := c)
  have rx := p.keep (cy r c) x0 x1 un
  have xnew : cy r c ∉ rowOf M (L.length : Int) := by
    rw [p.new]
    intro w
    obtain ⟨e, he, h⟩ := List.mem_map.mp w
    exact un e he h
  have newp := p.new
  generalize hx : cy r c = x at z1 x0 x1 ed rx xnew ⊢
  generalize hz : cy r (c + (r.length - 1)) = z at z1 ed ⊢
  have nn := near_n s.map x0 x1
  have F : Fresh2 M x (L.length : Int) (put (rowOf L x) ((rowOf L x).idxOf z) L.length) (rowOf M (L.length : Int) ++ [x]) :=
    ⟨p.sh.map, x0, by rw [p.len]; omega, by omega, by rw [p.len]; omega, by omega, by rw [rx]; exact nn, by rw [rx]; exact put_perm _ _ _, List.perm_append_singleton _ _, by rw [rx]; exact put_erase nn, snoc_erase xnew⟩
  refine ⟨F, ?_⟩
  obtain ⟨rest, hd⟩ := p.hd
  have rown : rowOf M (L.length : Int) = cy r c1 :: rest.map (cy r) := by rw [newp, hd]; rfl
  have e1 : dj r (c - 1) = (z, x) := by
    rw [← ed]
    exact (dj_mod (by rw [show c + (r.length - 1) = (c - 1) + r.length by omega, Nat.add_mod_right])).symm
  have dzx : Dt L (z, x) := e1 ▸ g.dt (c - 1)
  have dyn : Dt M (cy r c1, (L.length : Int)) := by
    have := Dt.back (d := ((L.length : Int), cy r c1)) ⟨by simp, by rw [p.len]; simp; omega, by rw [rown]; exact List.mem_cons_self⟩ p.sh.map
    exact ⟨this.1, this.2.1, this.2.2.2⟩
  have f1' : pre (put (rowOf L x) ((rowOf L x).idxOf z) L.length) z = (L.length : Int) := pre_put z1 nn
  have f2' : pre (rowOf M (L.length : Int) ++ [x]) (cy r c1) = x := by rw [rown]; exact pre_snoc
  have conn : ∀ P : Dart → Prop, P (z, x) → (∀ d, Dt M d → P d → P (nx M d)) → P (cy r c1, (L.length : Int)) := fun P h0 hs => by
    have go : ∀ k, c - 1 + k ≤ c1 + (r.length - 1) → P (dj r (c - 1 + k)) := by
      intro k
      induction k with
      | zero => intro _; rw [Nat.add_zero, e1]; exact h0
      | succ k ih =>
        intro hk
        have := hs _ (p.sub _ (g.dt (c - 1 + k))) (ih (by omega))
        rw [p.i1 (c - 1 + k) (by omega) (by omega)] at this
        exact this
    have := go (c1 + (r.length - 1) - (c - 1)) (by omega)
    rw [show c - 1 + (c1 + (r.length - 1) - (c - 1)) = c1 + (r.length - 1) by omega] at this
    have := hs _ (p.sub _ (g.dt _)) this
    rw [p.i2] at this
    exact this
  have sht := F.sheet p.sh (z1 := z) (z2 := cy r c1) (by rw [rx]; exact z1) (by rw [rown]; exact List.mem_cons_self) f1' f2' conn
  generalize hM : both M x (L.length : Int) (put (rowOf L x) ((rowOf L x).idxOf z) L.length) (rowOf M (L.length : Int) ++ [x]) = N at F sht ⊢
  have FM : IsMap N := hM ▸ F.isMap
  have Fd : Dt N (x, (L.length : Int)) := hM ▸ F.dt
  have Fr : rem N x (L.length : Int) = M := hM ▸ F.rem
  have Frow : ∀ {y : Int}, 0 ≤ y → rowOf N y = if y = (L.length : Int) then rowOf M (L.length : Int) ++ [x] else if y = x then put (rowOf L x) ((rowOf L x).idxOf z) L.length else rowOf M y := fun h => hM ▸ F.row h
  have Nl : N.length = L.length + 1 := by rw [← hM, both_len, p.len]
  have xn : x ≠ (L.length : Int) := by omega
  have subM : ∀ d, Dt M d → Dt N d := fun d hd => hM ▸ F.sub d hd
  have f1 : nx N (z, x) = (x, (L.length : Int)) := by unfold nx; dsimp only; rw [Frow x0, if_neg xn, if_pos rfl, f1']
  have f2 : nx N (cy r c1, (L.length : Int)) = ((L.length : Int), x) := by unfold nx; dsimp only; rw [Frow (by omega), if_pos rfl, f2']
  have nxs : ∀ d, Dt M d → d ≠ (z, x) → d ≠ (cy r c1, (L.length : Int)) → nx N d = nx M d := fun d hd hne hne2 => by
    have h0 := rem_nx FM Fd (d := d) (by rw [Fr]; exact hd)
    rw [Fr] at h0
    have dm := subM d hd
    have n1 : nx N d ≠ ((L.length : Int), x) := fun w => hne2 (nx_inj FM dm (subM _ dyn) (w.trans f2.symm))
    have n2 : nx N d ≠ (x, (L.length : Int)) := fun w => hne (nx_inj FM dm (subM _ (p.sub _ dzx)) (w.trans f1.symm))
    rw [if_neg n1, if_neg n2] at h0
    exact h0.symm
  have nxn : nx N ((L.length : Int), x) = nx M (z, x) := by
    have h0 := rem_nx FM Fd (d := (z, x)) (by rw [Fr]; exact p.sub _ dzx)
    rw [Fr, f1, if_neg (fun w => xn (congrArg Prod.fst w)), if_pos rfl] at h0
    exact h0.symm
  have inL : ∀ i, dj r i ≠ (cy r c1, (L.length : Int)) := fun i w => by
    have d := g.dt i
    have := (d.back s.map).2.1
    rw [w] at this
    simp at this
  refine ⟨sht, Nl, ?_, ⟨rest ++ [c], by rw [hd]; rfl⟩, fun y y0 y1 hy => ?_, fun d hd => subM d (p.sub d hd), by omega, hc2, fun i hi1 hi2 => ?_, ?_, ?_, ?_⟩
  · rw [Frow (by omega), if_pos rfl, newp, List.map_append, List.map_singleton, hx]
  · have h1 : cy r c ≠ y := hy c (by simp)
    rw [hx] at h1
    rw [Frow y0, if_neg (by omega), if_neg (fun w => h1 w.symm)]
    exact p.keep y y0 y1 fun e he => hy e (List.mem_append_left _ he)
  · rw [nxs _ (p.sub _ (g.dt i)) (by rw [← e1]; exact (dj_ne nd (by omega) (by omega)).symm) (inL i)]
    exact p.i1 i (by omega) hi2
  · rw [nxs _ (p.sub _ (g.dt _)) (by rw [← e1]; exact (dj_ne nd (by omega) (by omega)).symm) (inL _)]
    exact p.i2
  · rw [f2, hx]
  · rw [hx, nxn, ← e1, p.i1 (c - 1) (by omega) (by omega)]
    rw [show c - 1 + 1 = c by omega]
end
end Gm
end
section
set_option Elab.async false
set_option linter.all false
set_option maxRecDepth 100000
namespace L2
open PySem PySem.Spec PySem.W PySem.Calls PyProof.Rows
end L2
namespace Gm
open PySem L2
theorem upd_off {H : Hp} {c b : Addr} {o : HO} {as : List Addr} (hc : c ∈ as) (hb : b ∉ as) : upd H c o b = H b := upd_ne (fun z => hb (by rw [z]; exact hc))
theorem Same.off {H H1 H2 : Hp} {as : List Addr} (e : Same H H1) (fr : ∀ b ∈ as, H b = none) (o : ∀ b u, b ∉ as → H1 b = some u → H2 b = some u) : Same H H2 := fun b u h => o b u (fun z => by rw [fr b z] at h; cases h) (e b u h)
theorem Sheet.pos {L : List (List Int)} {R : List (List Dart)} (s : Sheet L) (D : Dec L R) : 0 < R.length := by
  refine Nat.pos_of_ne_zero fun z => ?_
  have R0 : R = [] := List.length_eq_zero_iff.mp z
  subst R0
  have two := s.two
  have i0 := s.iso0
  unfold iso at i0
  have := List.countP_eq_zero.mp i0 L[0] (List.getElem_mem (by omega))
  cases q : L[0] with
  | nil => rw [q] at this; exact this rfl
  | cons x r =>
    have d := Reach.dart (L := L) (i := 0) (List.getElem?_eq_getElem (by omega)) (by rw [q]; exact List.mem_cons_self)
    have := (D.mem _).mpr d
    cases this
theorem PR.at {H : Hp} : ∀ {ps : List Addr} {T : List (Int × Int)}, PR H ps T → ∀ {i : Nat} {a : Addr}, ps[i]? = some a → ∃ x : Int × Int, T[i]? = some x ∧ H a = some (.tup [.int x.1, .int x.2])
  | _, _, .nil, _, _, e => by simp at e
  | _, _, .cons r t, 0, _, e => by simp at e; subst e; exact ⟨_, rfl, r⟩
  | _, _, .cons r t, i + 1, _, e => by
    obtain ⟨x, h1, h2⟩ := PR.at t (i := i) (by simpa using e)
    exact ⟨x, by simpa using h1, h2⟩
theorem it_succ {L : List (List Int)} {d : Dart} (k : Nat) : it L (nx L d) k = it L d (k + 1) := by
  rw [Nat.add_comm, it_add]; rfl
theorem wk_is_tr {L : List (List Int)} {x y : Dart} {l : List Dart} (h : Wk (nx L) x l y) : l = tr L x l.length ∧ y = it L x l.length := by
  induction h with
  | nil x => exact ⟨rfl, rfl⟩
  | @cons x y l _ ih =>
    obtain ⟨h1, h2⟩ := ih
    refine ⟨?_, by rw [List.length_cons, ← it_succ]; exact h2⟩
    rw [List.length_cons]
    unfold tr
    rw [List.range_succ_eq_map, List.map_cons, List.map_map]
    show x :: l = x :: _
    congr 1
    refine h1.trans ?_
    unfold tr
    refine List.map_congr_left fun j _ => ?_
    exact it_succ j
theorem sh_ring {L : List (List Int)} {d : Dart} {k : Nat} (hk : 0 < k) (e : it L d k = d) : sh 0 (ringOf L d k) = tr L d k := by
  have hl : (ringOf L d k).length = k := by unfold ringOf; simp
  unfold sh tr
  rw [hl]
  exact List.map_congr_left fun j _ => by rw [dj_ring hk e, Nat.add_zero]
theorem Dec.good {L : List (List Int)} {R : List (List Dart)} (m : IsMap L) (D : Dec L R) {c : List Dart} (hc : c ∈ R) : Good L (c.map (·.1)) ∧ sh 0 (c.map (·.1)) = c ∧ c.Nodup := by
  obtain ⟨x, l, e, k⟩ := D.cyc c hc
  obtain ⟨h1, h2⟩ := wk_is_tr k
  have k0 : 0 < c.length := by rw [e]; simp
  have dx : Dt L x := (D.mem x).mp (List.mem_flatten.mpr ⟨c, hc, by rw [e]; exact List.mem_cons_self⟩)
  have er : c.map (·.1) = ringOf L x c.length := by
    conv => lhs; rw [h1]
    unfold ringOf tr
    rw [List.map_map]; rfl
  have hn : c.Nodup := (List.pairwise_flatten.mp D.nd).1 c hc
  rw [er]
  exact ⟨ring_good m dx k0 h2.symm, (sh_ring k0 h2.symm).trans h1.symm, hn⟩
theorem Good.on {L : List (List Int)} {r : List Int} (g : Good L r) {P : Dart → Prop} (hs : ∀ d, Dt L d → P d → P (nx L d)) {i : Nat} (h : P (dj r i)) (j : Nat) : P (dj r j) := by
  have two := g.two
  have go : ∀ k, P (dj r (i + k)) := by
    intro k
    induction k with
    | zero => exact h
    | succ k ih => have := hs _ (g.dt _) ih; rw [g.st] at this; exact this
  have := go (j + i * r.length - i)
  have e : i ≤ i * r.length := Nat.le_mul_of_pos_right i (by omega)
  rw [show i + (j + i * r.length - i) = j + i * r.length by omega] at this
  rw [dj_mod (i := j + i * r.length) (j := j) (by rw [Nat.add_mul_mod_self_right])] at this
  exact this
theorem base_sheet : Sheet [[1], [0]] := by
  have m : IsMap [[1], [0]] := by
    refine isMap_of fun x x0 x1 => ?_
    have x1 : x < 2 := x1
    have : x = 0 ∨ x = 1 := by omega
    rcases this with rfl | rfl
    · refine ⟨by decide, fun y hy => ?_⟩
      have : y = 1 := List.mem_singleton.mp hy
      subst this
      decide
    · refine ⟨by decide, fun y hy => ?_⟩
      have : y = 0 := List.mem_singleton.mp hy
      subst this
      decide
  have dd : dts [[1], [0]] 2 = [((0 : Int), (1 : Int)), (1, 0)] := rfl
  refine ⟨m, by decide, fun x x0 x1 => ?_, [[(0, 1), (1, 0)]], ⟨fun c hc => ?_, by decide, fun d => ?_⟩, by decide⟩
  · have x1 : x < 2 := x1
    have : x = 0 ∨ x = 1 := by omega
    rcases this with rfl | rfl
    · exact ⟨0, by simp, .here⟩
    · exact ⟨0, by simp, Reach.one (d := (0, 1)) .here (Dt.of (by show _ ∈ dts [[1], [0]] 2; rw [dd]; simp))⟩
  · rw [List.mem_singleton.mp hc]
    exact ⟨(0, 1), [(1, 0)], rfl, .cons (.cons (.nil _))⟩
  · have e : d ∈ dts [[1], [0]] 2 ↔ Dt [[1], [0]] d := ⟨fun h => Dt.of h, fun h => h.all⟩
    rw [← e, dd]
    simp
theorem take_both {M : List (List Int)} {x : Int} {n : Nat} {A B : List Int} (hn : M.length = n + 1) (x1 : x.toNat < n) : (both M x (n : Int) A B).take n = (M.take n).set x.toNat A := by
  unfold both
  rw [Int.toNat_natCast]
  apply List.ext_getElem?
  intro i
  rw [List.getElem?_take]
  by_cases h : i < n
  · rw [if_pos h, List.getElem?_set_ne (by omega)]
    by_cases e : i = x.toNat
    · subst e
      rw [List.getElem?_set, if_pos rfl, if_pos (by omega), List.getElem?_set, if_pos rfl, if_pos (by rw [List.length_take]; omega)]
    · rw [List.getElem?_set_ne (fun w => e w.symm), List.getElem?_set_ne (fun w => e w.symm), List.getElem?_take, if_pos h]
  · rw [if_neg h, List.getElem?_eq_none (by rw [List.length_set, List.length_take]; omega)]
theorem take_last {M : List (List Int)} {n : Nat} (hn : M.length = n + 1) : M.take n ++ [rowOf M (n : Int)] = M := by
  have h := rowOf_at (L := M) (a := (n : Int)) (by omega) (by omega)
  rw [Int.toNat_natCast] at h
  rw [← take_snoc h, List.take_of_length_le (by omega)]
theorem Sheet.out {L : List (List Int)} {a b : Int} {R : List (List Dart)} (s : Sheet L) (D : Dec L R) (h : Dt L (a, b)) {c : List Dart} (hc : c ∈ R) (h1 : (a, b) ∈ c) (h2 : (b, a) ∉ c) : Sheet (rem L a b) := by
  have m := s.map
  obtain ⟨R0, D0, ch⟩ := s.chi
  rw [← D.count D0] at ch
  have iE := rem_iso m h
  obtain ⟨b0, b1, b2, b3⟩ := h.back m
  have hb : Dt L (b, a) := ⟨b0, b1, b3⟩
  rcases rem_dec m h D with ⟨A, B, S, D', lR, kA, kB⟩ | ⟨A, B, S, D', lR, A0, B0, kA, kB, dd⟩
  · exfalso
    have cy := D.cyc c hc
    have go : ∀ {x y : Dart} {l : List Dart}, Wk (nx L) x l y → x ∈ c → y ∈ c := fun {x y l} w => by
      induction w with
      | nil _ => exact id
      | cons _ ih => exact fun hx => ih (cy.on hx)
    exact h2 (go kA (cy.on h1))
  · have nb : ¬ (rowOf L b).erase a = [] := fun z => by
      cases A with
      | nil => exact A0 rfl
      | cons p A =>
        have hp := kA.hd
        have dt := dd p (by simp)
        rw [hp, (rem_iso_b m h).mp z] at dt
        exact ((rem_dt m h).mp dt).2.2 rfl
    have na : ¬ (rowOf L a).erase b = [] := fun z => by
      cases B with
      | nil => exact B0 rfl
      | cons p B =>
        have hp := kB.hd
        have dt := dd p (by simp)
        rw [hp, (rem_iso_b m hb).mp z] at dt
        exact ((rem_dt m h).mp dt).2.1 rfl
    rw [if_neg nb, if_neg na] at iE
    have r2 : Reach (rem L a b) b a := kA.reach fun d hd => dd d (List.mem_append_left _ hd)
    have r1 : Reach (rem L a b) a b := kB.reach fun d hd => dd d (List.mem_append_right _ hd)
    have hp := (rem_perm m h).2
    have hd1 := due_half m
    have hd2 := due_half (rem_map m h)
    refine ⟨rem_map m h, by rw [rem_len]; exact s.two, s.span.still m h r1 r2, _, D', ?_⟩
    rw [List.length_cons, iE, rem_len]
    rw [rem_len] at hp hd2
    omega
end Gm
end
section
set_option Elab.async false
set_option linter.all false
set_option maxRecDepth 100000
namespace L2
open PySem PySem.Spec PySem.W PySem.Calls PyProof.Rows
def Itz (K : Frag) (a b : Addr) : It :=
  ⟨fun i H => ∃ xs ys x y, SqL K H a xs ∧ SqL K H b ys ∧ xs[i]? = some x ∧ ys[i]? = some y,
   fun i H v H' => ∃ p x y, H p = none ∧ v = .ref p ∧ (∀ xs, SqL K H a xs → xs[i]? = some x) ∧ (∀ ys, SqL K H b ys → ys[i]? = some y) ∧ H' = upd H p (.tup [x, y]),
   fun i H => ∃ xs ys, SqL K H a xs ∧ SqL K H b ys ∧ (xs.length ≤ i ∨ ys.length ≤ i)⟩
theorem turn_zip {P : Program} {w : World} {K : Frag} {elts : List Expr} {kx : Nat} {px : Pos} {a b z TI TO i1 i2 : Addr} (D : ZipApart z TI TO i1 i2 a b) :
    Turn P w K (.Tuple elts kx px) (Itz K a b) [z, TI, TO, i1, i2] z (fun i h => IsZip h z TI TO .none ∧ IsPair h TI (.ref i1) (.ref i2) ∧ (∃ u v, IsPair h TO u v) ∧ h.IsListIter i1 a i ∧ h.IsListIter i2 b i) where
  mem := by simp
  obj := fun i h st c hc => by
    obtain ⟨h1, h2, ⟨u, v, h3⟩, h4, h5⟩ := st
    simp only [List.mem_cons, List.not_mem_nil, or_false] at hc
    rcases hc with rfl | rfl | rfl | rfl | rfl
    · exact ⟨_, h1, fun v q => by cases q⟩
    · exact ⟨_, h2, fun v q => by cases q⟩
    · exact ⟨_, h3, fun v q => by cases q⟩
    · obtain ⟨o, e1, _, d⟩ := h4; exact ⟨o, e1, fun v q => by rw [d] at q; cases q⟩
    · obtain ⟨o, e1, _, d⟩ := h5; exact ⟨o, e1, fun v q => by rw [d] at q; cases q⟩
  keep := fun i h h' st k => by
    obtain ⟨h1, h2, ⟨u, v, h3⟩, h4, h5⟩ := st
    exact ⟨k z (by simp) _ h1, k TI (by simp) _ h2, ⟨u, v, k TO (by simp) _ h3⟩, h4.at fun o q => k i1 (by simp) o q, h5.at fun o q => k i2 (by simp) o q⟩
  item := by
    intro X hP hw hK hc i pins s σ H E I hf st hg
    subst hP hw hK
    obtain ⟨h1, h2, ⟨u, v, h3⟩, h4, h5⟩ := st
    obtain ⟨xs, ys, x, y, hqa, hqb, hx, hy⟩ := hg
    obtain ⟨ia, ra, pa, za⟩ := I.list hqa
    obtain ⟨ib, rb, pb, zb⟩ := I.list hqb
    obtain ⟨u1, hu1, ru1⟩ := ra.get hx
    obtain ⟨u2, hu2, ru2⟩ := rb.get hy
    have lt : ∀ c ∈ [z, TI, TO, i1, i2], c < s.heap.objs.size := fun c hc => by
      simp only [List.mem_cons, List.not_mem_nil, or_false] at hc
      rcases hc with rfl | rfl | rfl | rfl | rfl
      · exact Heap.lt_size h1
      · exact Heap.lt_size h2
      · exact Heap.lt_size h3
      · obtain ⟨_, q, _⟩ := id h4; exact Heap.lt_size q
      · obtain ⟨_, q, _⟩ := id h5; exact Heap.lt_size q
    refine wpAny_pyNext_zip_item D h1 h2 h3 h4 h5 pa.isList pb.isList (x := u1) (y := u2) (by simpa using hu1) (by simpa using hu2) fun h' k1 k2 k3 k4 hT hsz hk => ⟨_, rfl, ?_⟩
    refine wpAny_letOwnedTupleGo_zip k1 fun h2' he2 hs2 => ?_
    have hn : H s.heap.objs.size = none := I.hok.fresh (Nat.le_refl _)
    have nz : s.heap.objs.size ≠ z := Nat.ne_of_gt (lt z (by simp))
    have kk : ∀ c o, c ∉ [z, TI, TO, i1, i2] → s.heap.get? c = some o → h2'.get? c = some o := fun c o hc q => by
      simp only [List.mem_cons, List.not_mem_nil, or_false, not_or] at hc
      exact (hs2.2 c hc.1).trans (hk c o hc.1 hc.2.2.1 hc.2.2.2.1 hc.2.2.2.2 q)
    have hT2 : h2'.get? s.heap.objs.size = some { cls := .type "tuple", data := .seq #[u1, u2] } := (hs2.2 _ nz).trans hT
    refine ⟨.ref s.heap.objs.size, upd H s.heap.objs.size (.tup [x, y]), Inv.turnedLay (s := s) (h' := h2') (t' := s.toks) I kk hf (Nat.le_refl _) ⟨by simp only [List.length_cons, List.length_nil]; rw [sizeLine_eq]; decide, [u1, u2], .cons ru1 (.cons ru2 .nil), ⟨_, hT2, rfl, _, rfl⟩⟩, rfl,
      ⟨_, x, y, hn, rfl, fun ys' hy' => by rw [I.list_inj hy' hqa]; exact hx, fun ys' hy' => by rw [I.list_inj hy' hqb]; exact hy, rfl⟩, ⟨he2, ?_, ⟨u1, u2, (hs2.2 _ D.TOz).trans k2⟩, k3.at fun o q => (hs2.2 i1 D.i1z).trans q, k4.at fun o q => (hs2.2 i2 D.i2z).trans q⟩, fun c hc => ?_⟩
    · exact (hs2.2 _ D.TIz).trans (hk TI _ D.TIz D.TITO D.TIi1 D.TIi2 h2)
    · rw [upd_ne (Nat.ne_of_lt (lt c hc))]
      exact (hf c hc).1
  done := by
    intro X hP hw hK hc i pins s σ H E I hf st hg
    subst hP hw hK
    obtain ⟨h1, h2, ⟨u, v, h3⟩, h4, h5⟩ := st
    obtain ⟨xs, ys, hqa, hqb, hend⟩ := hg
    obtain ⟨ia, ra, pa, za⟩ := I.list hqa
    obtain ⟨ib, rb, pb, zb⟩ := I.list hqb
    have la := ra.length
    have lb := rb.length
    refine wpAny_pyNext_zip_end (I.ok.hd hc) D h1 h2 h3 h4 h5 pa.isList pb.isList ?_ fun h' eb => ⟨rfl, Inv.turnedL (t' := s.toks) (ch := [z, TI, TO, i1, i2]) I (fun c o hc q => ?_) hf⟩
    · rcases hend with q | q
      · left; simp; omega
      · right; simp; omega
    · simp only [List.mem_cons, List.not_mem_nil, or_false, not_or] at hc
      exact eb c o hc.1 hc.2.2.1 hc.2.2.2.1 hc.2.2.2.2 q
  self := fun _ _ _ _ _ st h => wpAny_pyIter_zip st.1 h
def iZip (K : Frag) (ta : TA) : TI := fun σ H R => ta σ H fun vs H1 => ∃ a b, vs = [.ref a, .ref b] ∧ (∃ xs, SqL K H1 a xs) ∧ (∃ ys, SqL K H1 b ys) ∧ R (Itz K a b) H1
theorem boot_zip' : bootBuiltins "zip" = some (.type "zip") := by decide +kernel
theorem pi_zip {X : Cx} {l m : Expr} {ta : TA} {p pos : Pos} {elts : List Expr} {kx : Nat} {px : Pos} (hm : X.mg "zip" = none) (ha : PA X [l, m] ta) (hg : Gl X "zip" := by rfl) (he : starEach [l, m] X.env = (false, eval l X.env) :: starEach [m] X.env := by rfl) (hpl : (backTo pos (starEach [m] X.env)).any (·.1) = false := by rfl) :
    PI X (.Tuple elts kx px) (.Call (.Name "zip" p) [l, m] [] pos) (iZip X.K ta) := by
  intro pins s σ H R I h
  refine Call_ (ld_blt I hg hm boot_zip' (PyProof.Rows.callWith_type1 (thn (ha pos pins s σ H _ I h) fun us s1 ⟨vs, H1, I1, r1, q1⟩ => ?_) he hpl))
  obtain ⟨a, b, rfl, ⟨xs, hqa⟩, ⟨ys, hqb⟩, q⟩ := q1
  obtain ⟨u1, u2, rfl, ru1, ru2⟩ := vals2 r1
  cases ru1
  cases ru2
  obtain ⟨ia, ra, pa, za⟩ := I1.list hqa
  obtain ⟨ib, rb, pb, zb⟩ := I1.list hqb
  have lta : a < s1.heap.objs.size := by obtain ⟨_, e, _⟩ := pa.isList; exact Heap.lt_size e
  have ltb : b < s1.heap.objs.size := by obtain ⟨_, e, _⟩ := pb.isList; exact Heap.lt_size e
  have ne : ∀ {j k : Nat}, j ≠ k → s1.heap.objs.size + j ≠ s1.heap.objs.size + k := fun h z => h (Nat.add_left_cancel z)
  have nl : ∀ {c : Addr} (k : Nat), c < s1.heap.objs.size → c ≠ s1.heap.objs.size + k := fun k l => Nat.ne_of_lt (Nat.lt_of_lt_of_le l (Nat.le_add_right _ _))
  have D : ZipApart (s1.heap.objs.size + 4) (s1.heap.objs.size + 2) (s1.heap.objs.size + 3) s1.heap.objs.size (s1.heap.objs.size + 1) a b :=
    ⟨ne (by decide), ne (by decide), ne (j := 0) (by decide), ne (by decide), ne (by decide), ne (k := 0) (by decide), ne (by decide), ne (k := 0) (by decide), ne (by decide), ne (j := 0) (by decide), nl _ lta, nl _ lta, nl 0 lta, nl _ lta, nl _ ltb, nl _ ltb, nl 0 ltb, nl _ ltb⟩
  refine call_zip_2 pa.isList pb.isList fun h' hz hTI hTO h1 h2 hsz hk => ?_
  refine wpAny_pyIter_zip hz ?_
  have I2 : Inv X pins σ H1 { s1 with heap := h' } := I1.kept (t' := s1.toks) fun c o e => hk c o e
  refine ⟨_, [s1.heap.objs.size + 4, s1.heap.objs.size + 2, s1.heap.objs.size + 3, s1.heap.objs.size, s1.heap.objs.size + 1], _, _, H1, rfl, I2, turn_zip D, ⟨hz, hTI, ⟨_, _, hTO⟩, h1, h2⟩, fun c hc => ?_, q⟩
  have le : s1.heap.objs.size ≤ c := by
    simp only [List.mem_cons, List.not_mem_nil, or_false] at hc
    rcases hc with rfl | rfl | rfl | rfl | rfl
    · exact Nat.le_add_right _ _
    · exact Nat.le_add_right _ _
    · exact Nat.le_add_right _ _
    · exact Nat.le_refl _
    · exact Nat.le_add_right _ _
  exact I1.fpOk le (I1.hok.fresh le)
theorem for_zip {K : Frag} {a b : Addr} {xs ys : List V} {g : TG} {tb : TS} {D : Ends} {σ : St} {H : Hp} (Pv : Nat → St → Hp → Prop) (h0 : Pv 0 σ H) (hxy : xs.length = ys.length) (hl : ∀ i σ H, i ≤ xs.length → Pv i σ H → SqL K H a xs ∧ SqL K H b ys)
    (hs : ∀ i x y p σ H, xs[i]? = some x → ys[i]? = some y → Pv i σ H → H p = none → g (.ref p) σ (upd H p (.tup [x, y])) fun σ2 H2 => tb { D with nx := Pv (i + 1), ct := Pv (i + 1), bk := D.nx } σ2 H2) (hd : ∀ σ H, Pv xs.length σ H → D.nx σ H) :
    ∃ W : Nat → Nat → St → Hp → Prop, (∃ m, W 0 m σ H) ∧ ∀ i m σ H, W i m σ H →
      ((Itz K a b).stop i H ∧ D.nx σ H) ∨ ((Itz K a b).go i H ∧ ∃ N : St → Hp → Prop, (∀ σ' H', N σ' H' → ∃ m', m' < m ∧ W (i + 1) m' σ' H') ∧ ∀ x H', (Itz K a b).yld i H x H' → g x σ H' fun σ2 H2 => tb { D with nx := N, ct := N, bk := D.nx } σ2 H2) := by
  refine ⟨fun i m σ H => m = xs.length - i ∧ i ≤ xs.length ∧ Pv i σ H, ⟨xs.length, by simp, Nat.zero_le _, h0⟩, ?_⟩
  rintro i m σ H ⟨rfl, hi, p⟩
  obtain ⟨qa, qb⟩ := hl i σ H hi p
  by_cases hlt : i < xs.length
  · have hlt2 : i < ys.length := by omega
    refine .inr ⟨⟨xs, ys, xs[i], ys[i], qa, qb, by simp [hlt], by simp [hlt2]⟩, Pv (i + 1), fun σ' H' p' => ⟨xs.length - (i + 1), by omega, rfl, hlt, p'⟩, fun x H' y => ?_⟩
    obtain ⟨r, u, v, hr, rfl, hu, hv, rfl⟩ := y
    exact hs i u v r σ H (hu xs qa) (hv ys qb) p hr
  · have e : i = xs.length := by omega
    subst e
    exact .inl ⟨⟨xs, ys, qa, qb, .inl (Nat.le_refl _)⟩, hd σ H p⟩
end L2
end
section
set_option Elab.async false
set_option linter.all false
set_option maxRecDepth 100000
namespace Gm
open PySem L2
theorem Good.it {L : List (List Int)} {r : List Int} (g : Good L r) (j : Nat) : ∀ i, dj r (j + i) = Gm.it L (dj r j) i
  | 0 => rfl
  | i + 1 => by show dj r (j + i + 1) = nx L (Gm.it L (dj r j) i); rw [← g.it j i, g.st]
theorem same_ring {L : List (List Int)} {r q : List Int} (g : Good L r) (k : Good L q) (n1 : (sh 0 r).Nodup) (n2 : (sh 0 q).Nodup) {j : Nat} (h : dj r 0 = dj q j) : ∃ c, c < q.length ∧ r = rot q c := by
  have r0 : 0 < r.length := by have := g.two; omega
  have q0 : 0 < q.length := by have := k.two; omega
  have mem : ∀ x, x ∈ sh 0 r ↔ x ∈ sh 0 q := fun x => by
    have cr := g.cyc
    have cq := k.cyc
    have hr : dj r 0 ∈ sh 0 r := (mem_sh r0).mpr ⟨0, rfl⟩
    have hq : dj r 0 ∈ sh 0 q := (mem_sh q0).mpr ⟨j, h⟩
    constructor
    · intro z; exact cr.conn (P := fun d => d ∈ sh 0 q) hr z hq fun d _ hd => cq.on hd
    · intro z; exact cq.conn (P := fun d => d ∈ sh 0 r) hq z hr fun d _ hd => cr.on hd
  have len : r.length = q.length := by have := len_eq n1 n2 mem; rwa [sh_len, sh_len] at this
  refine ⟨j % q.length, Nat.mod_lt _ q0, ?_⟩
  refine cy_ext (by rw [rot_len (Nat.le_of_lt (Nat.mod_lt _ q0)), len]) fun i => ?_
  rw [cy_rot (Nat.mod_lt _ q0)]
  have e1 : dj r i = dj q (j + i) := by
    have h1 := g.it 0 i
    have h2 := k.it j i
    rw [Nat.zero_add] at h1
    rw [h1, h2, h]
  have e2 : cy r i = cy q (j + i) := congrArg Prod.fst e1
  rw [e2]
  exact cy_mod (by rw [Nat.add_mod_mod, Nat.add_comm])
theorem Lands.sub {L R S : List (List Int)} (h : Lands L R) (k : Lands L S) {r : List Int} (hr : r ∈ R) : r ∈ S := by
  have g := h.good r hr
  have r0 : 0 < r.length := by have := g.two; omega
  obtain ⟨q, hq, hd⟩ := List.mem_flatMap.mp (k.all _ (g.dt 0))
  have kq := k.good q hq
  have q0 : 0 < q.length := by have := kq.two; omega
  obtain ⟨j, ej⟩ := (mem_sh q0).mp hd
  have n1 : (sh 0 r).Nodup := (List.pairwise_flatMap.mp h.nd).1 r hr
  have n2 : (sh 0 q).Nodup := (List.pairwise_flatMap.mp k.nd).1 q hq
  obtain ⟨c, hc, e⟩ := same_ring g kq n1 n2 ej
  have l1 : Le q r := by rw [e]; exact k.least q hq c hc
  have l2 : Le r q := by
    by_cases z : c = 0
    · have : r = q := by rw [e, z]; unfold rot; simp
      rw [this]; exact Le.refl _
    · have hl : r.length = q.length := by rw [e, rot_len (Nat.le_of_lt hc)]
      have := h.least r hr (q.length - c) (by omega)
      rw [e] at this ⊢
      rw [rot_rot hc (by omega), show q.length - c + c = q.length by omega, Nat.mod_self] at this
      have r00 : rot q 0 = q := by unfold rot; simp
      rw [r00] at this
      exact this
  rw [Le.anti l2 l1]; exact hq
def RotEq (a b : List Int) : Prop := a = b ∨ ∃ c, c < b.length ∧ a = rot b c
theorem RotEq.refl (a : List Int) : RotEq a a := .inl rfl
theorem RotEq.len {a b : List Int} (h : RotEq a b) : a.length = b.length := by
  rcases h with rfl | ⟨c, hc, rfl⟩
  · rfl
  · exact rot_len (Nat.le_of_lt hc)
theorem RotEq.idx {a b : List Int} (h : RotEq a b) (n : b.Nodup) {x : Int} {t : List Int} (e : a = x :: t) : x ∈ b ∧ rot b (b.idxOf x) = a := by
  have h' : ∃ c, c < b.length ∧ a = rot b c := by
    rcases h with rfl | h
    · exact ⟨0, by rw [e]; simp, by unfold rot; simp⟩
    · exact h
  obtain ⟨c, hc, ea⟩ := h'
  have hx : x = b[c] := by
    rw [ea, rot_cons hc] at e
    injection e with e1 e2
    rw [← e1, cy_lt hc]
  have mem : x ∈ b := by rw [hx]; exact List.getElem_mem _
  have ix := List.idxOf_lt_length_of_mem mem
  have g := List.getElem_idxOf ix
  have : b.idxOf x = c := (List.getElem_inj n).mp (g.trans hx)
  exact ⟨mem, by rw [this, ea]⟩
end Gm
namespace L2
open PySem PySem.Spec PySem.W PySem.Calls PyProof.Rows
theorem bt_max : bootBuiltins "max" = some (.builtin "max") := by decide +kernel
end L2
namespace Gm
open PySem L2
theorem RotEq.perm {a b : List Int} (h : RotEq a b) : a.Perm b := by
  rcases h with rfl | ⟨c, hc, rfl⟩
  · exact List.Perm.refl _
  · unfold rot
    exact (List.perm_append_comm).trans (by rw [List.take_append_drop])
theorem IsMap.of_perm {L M : List (List Int)} (m : IsMap M) (hl : L.length = M.length) (h : ∀ (i : Nat) (l k : List Int), L[i]? = some l → M[i]? = some k → l.Perm k) : IsMap L := by
  have at_ : ∀ (j : Nat) (x : List Int), L[j]? = some x → ∃ y, M[j]? = some y ∧ x.Perm y := fun j x e => by
    have hj : j < M.length := by rw [← hl]; exact (List.getElem?_eq_some_iff.mp e).1
    exact ⟨M[j], List.getElem?_eq_getElem hj, h j x M[j] e (List.getElem?_eq_getElem hj)⟩
  refine ⟨fun j x e => ?_, fun j x e y hy => ?_, fun j x e y hy k hk z ez => ?_⟩
  · obtain ⟨y, e1, e2⟩ := at_ j x e
    exact e2.nodup_iff.mpr (m.nd _ _ e1)
  · obtain ⟨w, e1, e2⟩ := at_ j x e
    rw [hl]
    exact m.rg _ _ e1 y (e2.mem_iff.mp hy)
  · obtain ⟨w, e1, e2⟩ := at_ j x e
    obtain ⟨w', e3, e4⟩ := at_ k z ez
    exact e4.mem_iff.mpr (m.sy _ _ e1 y (e2.mem_iff.mp hy) k hk _ e3)
def RotMap (L M : List (List Int)) : Prop := L.length = M.length ∧ ∀ (i : Nat) (l m : List Int), L[i]? = some l → M[i]? = some m → RotEq l m
theorem RotMap.isMap {L M : List (List Int)} (h : RotMap L M) (m : IsMap M) : IsMap L := m.of_perm h.1 fun i l k e1 e2 => (h.2 i l k e1 e2).perm
theorem RotMap.mem {L M : List (List Int)} (h : RotMap L M) {x y : Int} (x0 : 0 ≤ x) (x1 : x < L.length) : y ∈ rowOf L x ↔ y ∈ rowOf M x := by
  have e1 := rowOf_at x0 x1
  have e2 := rowOf_at (L := M) x0 (by rw [← h.1]; exact x1)
  exact (h.2 _ _ _ e1 e2).perm.mem_iff
end Gm
end
section
set_option Elab.async false
set_option linter.all false
set_option maxRecDepth 100000
namespace Gm
open PySem L2
theorem rotEq_le {b : List Int} {c : Nat} (h : c ≤ b.length) : RotEq (rot b c) b := by
  by_cases e : c = b.length
  · left; unfold rot; rw [e]; simp
  · exact .inr ⟨c, by omega, rfl⟩
theorem RotEq.trans {a b c : List Int} (h : RotEq a b) (k : RotEq b c) : RotEq a c := by
  rcases k with rfl | ⟨j, hj, rfl⟩
  · exact h
  · rcases h with rfl | ⟨i, hi, rfl⟩
    · exact .inr ⟨j, hj, rfl⟩
    · rw [rot_len (Nat.le_of_lt hj)] at hi
      rw [rot_rot hj hi]
      exact .inr ⟨_, Nat.mod_lt _ (by omega), rfl⟩
theorem RotEq.erase {l m : List Int} (h : RotEq l m) (n : m.Nodup) (x : Int) : RotEq (l.erase x) (m.erase x) := by
  by_cases hx : x ∈ m
  · rcases h with rfl | ⟨c, hc, rfl⟩
    · exact .inl rfl
    · obtain ⟨u, v, rfl⟩ := List.append_of_mem hx
      obtain ⟨n1, n2, n3⟩ := List.nodup_append.mp n
      obtain ⟨n4, n5⟩ := List.nodup_cons.mp n2
      have xu : x ∉ u := fun z => n3 x z x List.mem_cons_self rfl
      have em : (u ++ x :: v).erase x = u ++ v := by rw [List.erase_append_right _ xu, List.erase_cons_head]
      rw [em]
      by_cases hcu : c ≤ u.length
      · have e1 : (u ++ x :: v).drop c = u.drop c ++ x :: v := List.drop_append_of_le_length hcu
        have e2 : (u ++ x :: v).take c = u.take c := List.take_append_of_le_length hcu
        have e3 : (rot (u ++ x :: v) c).erase x = rot (u ++ v) c := by
          unfold rot
          rw [e1, e2, List.append_assoc, List.erase_append_right _ (fun z => xu (List.mem_of_mem_drop z)), List.cons_append, List.erase_cons_head, List.drop_append_of_le_length hcu, List.take_append_of_le_length hcu, List.append_assoc]
        rw [e3]
        exact rotEq_le (by rw [List.length_append]; omega)
      · obtain ⟨k, rfl⟩ : ∃ k, c = u.length + (k + 1) := ⟨c - u.length - 1, by omega⟩
        have e1 : (u ++ x :: v).drop (u.length + (k + 1)) = v.drop k := by rw [List.drop_append, List.drop_of_length_le (by omega), List.nil_append, show u.length + (k + 1) - u.length = k + 1 by omega]; rfl
        have e2 : (u ++ x :: v).take (u.length + (k + 1)) = u ++ x :: v.take k := by rw [List.take_append, List.take_of_length_le (by omega), show u.length + (k + 1) - u.length = k + 1 by omega]; rfl
        have d1 : (u ++ v).drop (u.length + k) = v.drop k := by
          have hu : u.drop (u.length + k) = [] := List.drop_of_length_le (by omega)
          rw [List.drop_append, hu, List.nil_append, show u.length + k - u.length = k by omega]
        have d2 : (u ++ v).take (u.length + k) = u ++ v.take k := by
          have hu : u.take (u.length + k) = u := List.take_of_length_le (by omega)
          rw [List.take_append, hu, show u.length + k - u.length = k by omega]
        have e3 : (rot (u ++ x :: v) (u.length + (k + 1))).erase x = rot (u ++ v) (u.length + k) := by
          unfold rot
          rw [e1, e2, d1, d2, List.erase_append_right _ (fun z => n4 (List.mem_of_mem_drop z)), List.erase_append_right _ xu, List.erase_cons_head]
        rw [e3]
        refine rotEq_le ?_
        rw [List.length_append, List.length_cons] at hc
        rw [List.length_append]
        omega
  · have h2 : x ∉ l := fun z => hx (h.perm.mem_iff.mp z)
    rw [List.erase_of_not_mem hx, List.erase_of_not_mem h2]
    exact h
theorem rotMap_of {L M : List (List Int)} (hl : L.length = M.length) (h : ∀ x : Int, 0 ≤ x → x < L.length → RotEq (rowOf L x) (rowOf M x)) : RotMap L M := by
  refine ⟨hl, fun i l m h1 h2 => ?_⟩
  have hi := (List.getElem?_eq_some_iff.mp h1).1
  have q := h i (by omega) (by omega)
  have r1 := rowOf_at (L := L) (a := (i : Int)) (by omega) (by omega)
  have r2 := rowOf_at (L := M) (a := (i : Int)) (by omega) (by omega)
  rw [Int.toNat_natCast] at r1 r2
  rw [r1] at h1
  rw [r2] at h2
  rw [← Option.some.inj h1, ← Option.some.inj h2]
  exact q
theorem RotMap.row {L M : List (List Int)} (h : RotMap L M) {x : Int} (x0 : 0 ≤ x) (x1 : x < L.length) : RotEq (rowOf L x) (rowOf M x) := h.2 _ _ _ (rowOf_at x0 x1) (rowOf_at x0 (by rw [← h.1]; exact x1))
theorem RotMap.trans {L M N : List (List Int)} (h : RotMap L M) (k : RotMap M N) : RotMap L N := rotMap_of (h.1.trans k.1) fun x x0 x1 => (h.row x0 x1).trans (k.row x0 (by rw [← h.1]; exact x1))
theorem RotMap.dt {L M : List (List Int)} (h : RotMap L M) {d : Dart} (k : Dt M d) : Dt L d := ⟨k.lo, by rw [h.1]; exact k.hi, (h.mem k.lo (by rw [h.1]; exact k.hi)).mpr k.mem⟩
theorem RotMap.rem {L M : List (List Int)} (h : RotMap L M) (m : IsMap M) {a b : Int} (d : Dt M (a, b)) : RotMap (rem L a b) (Gm.rem M a b) := by
  have mL := h.isMap m
  have dL := h.dt d
  obtain ⟨b0, b1, b2, b3⟩ := d.back m
  have a0 := d.lo
  have a1 := d.hi
  dsimp only at a0 a1 b0 b1
  refine rotMap_of (by rw [rem_len, rem_len]; exact h.1) fun x x0 x1 => ?_
  rw [rem_len] at x1
  rw [rem_row mL dL x0, rem_row m d x0]
  by_cases e : x = b
  · rw [if_pos e, if_pos e]; exact (h.row b0 (by rw [h.1]; exact b1)).erase (m.nd _ _ (rowOf_at b0 b1)) a
  · rw [if_neg e, if_neg e]
    by_cases e2 : x = a
    · rw [if_pos e2, if_pos e2]; exact (h.row a0 (by rw [h.1]; exact a1)).erase (m.nd _ _ (rowOf_at a0 a1)) b
    · rw [if_neg e2, if_neg e2]; exact h.row x0 x1
end Gm
end
section
set_option Elab.async false
set_option linter.all false
set_option maxRecDepth 100000
namespace PySem
abbrev ZipO (h : Heap) (z TI TO a : Addr) (f : Bool) : Prop :=
  h.get? z = some { cls := .type "zip", dict := none, data := .fields #[rawInt a, .bool f, .bool false, .ref TI, .ref TO], slots := #[] }
section
variable {prog : Program} {w : World} {A : Around} {E : Value → Shared → Prop} {s : Shared}
end
structure ZipSt (h : Heap) (z TI TO i1 i2 l1 l2 S : Addr) (i : Nat) : Prop where
  own : (i = 0 ∧ IsZip h z TI TO .none ∧ ∃ a b, IsPair h TO a b) ∨ ∃ a f oa, ZipO h z TI TO a f ∧ h.get? a = some oa ∧ a ∉ [z, i1, i2, S]
  it : IsPair h TI (.ref i1) (.ref i2)
  one : h.IsListIter i1 l1 i
  two : h.IsListIter i2 l2 i
theorem ZipSt.keep {h h' : Heap} {z TI TO i1 i2 l1 l2 S : Addr} {i : Nat} (x : ZipSt h z TI TO i1 i2 l1 l2 S i) (hk : ∀ b o, b ≠ S → h.get? b = some o → h'.get? b = some o) (hS : S ∉ [z, TI, TO, i1, i2]) : ZipSt h' z TI TO i1 i2 l1 l2 S i := by
  simp only [List.mem_cons, List.not_mem_nil, or_false, not_or] at hS
  obtain ⟨n1, n2, n3, n4, n5⟩ := hS
  refine ⟨?_, hk _ _ (Ne.symm n2) x.it, x.one.at fun o e => hk _ _ (Ne.symm n4) e, x.two.at fun o e => hk _ _ (Ne.symm n5) e⟩
  rcases x.own with ⟨e, h1, a, b, h2⟩ | ⟨a, f, oa, h1, h2, h3⟩
  · exact .inl ⟨e, hk _ _ (Ne.symm n1) h1, a, b, hk _ _ (Ne.symm n3) h2⟩
  · refine .inr ⟨a, f, oa, hk _ _ (Ne.symm n1) h1, hk _ _ ?_ h2, h3⟩
    simp only [List.mem_cons, List.not_mem_nil, or_false, not_or] at h3
    exact h3.2.2.2
structure ZipG (xs ys : Array Value) (lo : Addr) (h : Heap) (as : List Addr) : Prop where
  rise : as.Pairwise (· < ·)
  above : ∀ a ∈ as, lo ≤ a
  pairs : ∀ (j : Nat) (a : Addr), as[j]? = some a → ∃ x y, xs[j]? = some x ∧ ys[j]? = some y ∧ IsPair h a x y
section
variable {prog : Program} {w : World} {A : Around} {E : Value → Shared → Prop} {s : Shared}
end
section
variable {prog : Program} {w : World} {A : Around} {s : Shared} {R : Result → Shared → Prop} {xs ys : Array Value}
end
namespace F
end F
section
variable {prog : Program} {w : World} {A : Around} {E : Value → Shared → Prop} {s : Shared} {xs ys : Array Value}
end
end PySem
end
section
set_option Elab.async false
set_option linter.all false
set_option maxRecDepth 100000
namespace L2
open PySem PySem.Spec PySem.W PySem.Calls PyProof.Rows
section
variable {X : Cx} {pins : List (Addr × Obj)} {σ : St} {H H' : Hp} {s : Shared} {h' : Heap}
end
def layT : List Addr → List (V × V) → Hp → Hp
  | a :: as, p :: ps, H => upd (layT as ps H) a (.tup [p.1, p.2])
  | _, _, H => H
def tListZip (K : Frag) (ta : TA) : TE := fun σ H Q => ta σ H fun vs H1 => ∃ a b xs ys, vs = [.ref a, .ref b] ∧ SqL K H1 a xs ∧ SqL K H1 b ys ∧ xs.length = ys.length ∧
  ∀ (l : Addr) (as : List Addr) (H2 : Hp), Same H1 H2 → H1 l = none → H2 l = some (.lst (as.map V.ref)) → as.length = xs.length →
    (∀ (j : Nat) (a : Addr), as[j]? = some a → H1 a = none ∧ a ≠ l ∧ ∃ x y, xs[j]? = some x ∧ ys[j]? = some y ∧ H2 a = some (.tup [x, y])) → Q (.ref l) H2
theorem boot_list' : bootBuiltins "list" = some (.type "list") := by decide +kernel
end L2
end
section
set_option Elab.async false
set_option linter.all false
set_option maxRecDepth 100000
namespace Gm
open PySem L2
theorem Lp.perm {L R : List (List Int)} {ks ks' : List Dart} (p : Lp L R ks) (h : ks'.Perm ks) : Lp L R ks' :=
  ⟨p.good, p.least, h.nodup_iff.mpr p.nd, h.trans p.pm, by rw [h.length_eq]; exact p.two⟩
theorem PR.mk {H : Hp} : ∀ {ps : List Addr} {T : List (Int × Int)}, ps.length = T.length → (∀ (j : Nat) (a : Addr) (d : Int × Int), ps[j]? = some a → T[j]? = some d → H a = some (.tup [.int d.1, .int d.2])) → PR H ps T
  | [], [], _, _ => .nil
  | [], _ :: _, h, _ => by simp at h
  | _ :: _, [], h, _ => by simp at h
  | a :: ps, d :: T, h, f => .cons (f 0 a d rfl rfl) (PR.mk (by simpa using h) fun j b e h1 h2 => f (j + 1) b e (by simpa using h1) (by simpa using h2))
theorem at_cy {r : List Int} {j : Nat} (h : j < r.length) : r[j]? = some (cy r j) := by
  rw [cy_lt h]; exact List.getElem?_eq_getElem _
section
variable {K : PySem.W.Frag} {σ : St} {H : Hp} {Q : VK}
end
end Gm
end
section
set_option Elab.async false
set_option linter.all false
set_option maxRecDepth 100000
namespace L2
open PySem PySem.Spec PySem.W PySem.Calls PyProof.Rows
section
variable {X : Cx}
def rNotInP (K : Frag) : R2 := fun x y H Q => ∃ (p l : Addr) (d : Int × Int) (ps : List Addr) (T : List (Int × Int)), x = .ref p ∧ y = .ref l ∧ H p = some (.tup [.int d.1, .int d.2]) ∧ H l = some (.lst (ps.map V.ref)) ∧ Gm.PR H ps T ∧ Q (.bl (!decide (d ∈ T))) H
end
section
variable {K : Frag} {σ : St} {H : Hp} {Q : VK}
theorem r_gsub {to ti : TE} {t : TSet} {v : V} {Q : St → Hp → Prop} (h : to σ H fun o H1 => ti σ H1 fun i H2 => t o i v H2 fun H3 => Q σ H3) : gSub to ti t v σ H Q := h
theorem ixN_of {n : Nat} {k : Int} (h0 : 0 ≤ k) (h1 : k < n) : ixN n k = some k.toNat := by
  unfold ixN
  rw [if_pos h0, if_pos h1]
end
end L2
namespace Gm
open PySem L2
theorem Grid.setRow {H : Hp} {t b : Addr} {bs : List Addr} {R : List (List Int)} {l : List Int} {k : Nat} (g : Grid H t bs R) (nt : t ∉ bs) (nb : b ≠ t) (hb : H b = some (.lst (l.map V.int))) : Grid (upd H t (.lst ((bs.map V.ref).set k (.ref b)))) t (bs.set k b) (R.set k l) := by
  refine ⟨by rw [← List.map_set]; exact upd_same, by rw [List.length_set, List.length_set, g.len], fun i a m h1 h2 => ?_⟩
  have hne : ∀ c ∈ bs, c ≠ t := fun c hc e => nt (e ▸ hc)
  by_cases e : k = i
  · subst e
    by_cases hk : k < bs.length
    · rw [List.getElem?_set_self (by simpa using hk)] at h1
      rw [List.getElem?_set_self (by rw [← g.len]; simpa using hk)] at h2
      cases h1
      cases h2
      rw [upd_ne nb]
      exact hb
    · rw [List.getElem?_eq_none (by rw [List.length_set]; omega)] at h1
      cases h1
  · rw [List.getElem?_set_ne e] at h1 h2
    rw [upd_ne (hne a (List.mem_of_getElem? h1))]
    exact g.row i a m h1 h2
theorem RotMap.refl (L : List (List Int)) : RotMap L L := ⟨rfl, fun i l m h1 h2 => by rw [h1] at h2; cases h2; exact RotEq.refl _⟩
end Gm
end
section
set_option Elab.async false
set_option linter.all false
set_option maxRecDepth 100000
namespace Gm
open PySem L2
section
variable {K : PySem.W.Frag} {σ : St} {H : Hp} {Q : VK}
theorem copy_gen {te : TE} {i : Nat} {p : Addr} {as : List Addr} {L : List (List Int)}
    (hte : ∀ (σ' : St) (H' : Hp) (b : Addr) (l : List Int) (Q' : VK), σ'[0]? = some (some (.ref b)) → H' b = some (.lst (l.map V.int)) → (∀ c, H' c = none → Q' (.ref c) (upd H' c (.lst (l.map V.int)))) → te σ' H' Q')
    (hv : σ[i]? = some (some (.ref p))) (gp : Grid H p as L) (hn : L.length ≤ 1000)
    (q : ∀ acc cs H', Same H H' → Grid H' acc cs L → (acc :: cs).Nodup → (∀ b ∈ acc :: cs, H b = none) → Q (.ref acc) H') : tComp (iList K (tVar i)) (gName 0) tTrue te 1 [] σ H Q := by
  refine r_comp ?_
  refine ⟨_, hv, p, rfl, ⟨_, SqL.of gp.top⟩, fun acc hacc => ?_⟩
  refine comp_list (K := K) (a := p) (xs := as.map V.ref) (fun i σ' ys Hx => ∃ (bs : List Addr) (v : Option V), σ' = [v] ∧ ys = bs.map V.ref ∧ Same H Hx ∧ bs.length = i ∧ Grid Hx acc bs (L.take i) ∧ (acc :: bs).Nodup ∧ ∀ b ∈ acc :: bs, H b = none)
    ⟨[], none, rfl, rfl, Same.upd hacc, rfl, ⟨upd_same, rfl, fun i a l z => by simp at z⟩, by simp, by simpa using hacc⟩ (fun i σ' ys Hx _ ⟨_, _, _, _, e, _⟩ => SqL.of (e _ _ gp.top)) ?_ ?_
  · rintro i x σ' ys Hx hx hi ⟨bs, v, rfl, rfl, e2, rfl, g2, nd2, fr2⟩
    obtain ⟨b, l, ha, hl, hrow⟩ := gp.at (i := bs.length) (by rw [List.length_map, gp.len] at hi; exact hi)
    obtain rfl : x = V.ref b := by
      rw [List.getElem?_map, ha] at hx
      exact (Option.some.inj hx).symm
    have hi3 := hi
    rw [List.length_map, gp.len] at hi3
    refine r_gname ?_
    refine r_true ?_
    refine ifT (hte _ _ b l _ rfl (e2 _ _ hrow) fun c hc => ?_)
    have nc := g2.notin hc
    have e3 : Same Hx (upd Hx c (.lst (l.map V.int))) := Same.upd hc
    have c3 : upd Hx c (.lst (l.map V.int)) c = some (.lst (l.map V.int)) := upd_same
    have cH : H c = none := e2.free hc
    generalize upd Hx c (.lst (l.map V.int)) = Hy at e3 c3 ⊢
    have g3 := g2.same e3
    have nca : c ≠ acc := fun z => nc (z ▸ List.mem_cons_self)
    refine ⟨g3.top, by rw [List.length_map]; exact small_line (by omega), cturn hi ⟨bs ++ [c], _, rfl, by simp, Same.fresh (e2.trans e3) (fr2 _ List.mem_cons_self), by simp, ?_, ?_, fun y hy => ?_⟩⟩
    · rw [take_snoc hl]; exact g3.snoc (List.nodup_cons.mp nd2).1 nca c3
    · obtain ⟨n1, n2⟩ := List.nodup_cons.mp nd2
      refine List.nodup_cons.mpr ⟨fun z => ?_, snoc_ndA.mpr ⟨fun z => nc (List.mem_cons_of_mem _ z), n2⟩⟩
      rcases List.mem_append.mp z with z | z
      · exact n1 z
      · exact nca (List.mem_singleton.mp z).symm
    · rcases List.mem_cons.mp hy with z | z
      · rw [z]; exact fr2 _ List.mem_cons_self
      · rcases List.mem_append.mp z with z | z
        · exact fr2 y (List.mem_cons_of_mem _ z)
        · rw [List.mem_singleton.mp z]; exact cH
  · rintro σ' ys H4 ⟨cs, v, rfl, rfl, e4, hbl, g4, nd4, fr4⟩
    rw [List.length_map, gp.len, List.take_length] at g4
    exact q acc cs H4 e4 g4 nd4 fr4
theorem r_copyL {i : Nat} {p : Addr} {as : List Addr} {L : List (List Int)} (hv : σ[i]? = some (some (.ref p))) (gp : Grid H p as L) (hn : L.length ≤ 1000)
    (q : ∀ acc cs H', Same H H' → Grid H' acc cs L → (acc :: cs).Nodup → (∀ b ∈ acc :: cs, H b = none) → Q (.ref acc) H') :
    tComp (iList K (tVar i)) (gName 0) tTrue (tCB (fun xs H Q => ∃ p ys, xs = [V.ref p] ∧ (SqL K H p ys ∨ SqT K H p ys) ∧ ∀ (l : Addr), H l = none → Q (V.ref l) (upd H l (HO.lst ys))) (tCons (tVar 0) tNil)) 1 [] σ H Q :=
  copy_gen (fun σ' H' b l Q' h1 h2 h3 => ⟨_, h1, b, _, rfl, .inl (SqL.of h2), h3⟩) hv gp hn q
end
end Gm
end
section
set_option Elab.async false
set_option linter.all false
set_option maxRecDepth 100000
namespace L2
open PySem PySem.Spec PySem.W PySem.Calls PyProof.Rows
section
variable {X : Cx}
def rAll (K : Frag) : List V → Hp → VK → Prop := fun vs H Q => ∃ (a : Addr) (bs : List Bool), vs = [.ref a] ∧ SqL K H a (bs.map V.bl) ∧ Q (.bl (bs.all id)) H
theorem bools_are : ∀ {bs : List Bool} {its : List Value}, Vals (bs.map V.bl) its → its = bs.map Value.bool
  | [], _, h => by cases h; rfl
  | b :: bs, _, h => by
    cases h with
    | @cons _ u _ us ru rv =>
      cases ru
      rw [bools_are rv]
      rfl
theorem all_range (bs : List Bool) : ((List.range bs.length).all fun i => bs.getD i false) = bs.all id := by
  induction bs with
  | nil => rfl
  | cons b bs ih =>
    rw [List.length_cons, List.range_succ_eq_map, List.all_cons, List.all_map, List.all_cons]
    congr 1
theorem call_all (hc : X.calm = true) : CallR X (.builtin "all") (rAll X.K) := by
  intro pins s σ H xs us Q I r h
  obtain ⟨a, bs, rfl, ha, q⟩ := h
  obtain ⟨u, rfl, ru⟩ := vals1 r
  cases ru
  obtain ⟨its, rv, pl, hz⟩ := I.list ha
  obtain rfl := bools_are rv
  have ll : a < s.heap.objs.size := by obtain ⟨_, e, _⟩ := pl.isList; exact Heap.lt_size e
  refine call_all_walk (wpAny_pyIter_list pl.isList ?_)
  refine ⟨s.heap.objs.size, _, _, _, _, _, fun i => bs.getD i false, rfl, Walks.list (A := X.A.in1) (I.ok.hd hc) s.heap.objs.size a (Nat.ne_of_lt ll) (bs.map Value.bool).toArray, ⟨⟨_, Heap.get?_push_size _ rfl, rfl, rfl⟩, pl.isList.at fun o e => Heap.get?_push_of_some _ e⟩, fun i v s' Q' E' hv hq => ?_, fun h' tk hk => ?_⟩
  · have hv' : (bs.map Value.bool)[i]? = some v := by simpa using hv
    rw [List.getElem?_map] at hv'
    cases e : bs[i]? with
    | none => rw [e] at hv'; cases hv'
    | some b =>
      rw [e] at hv'
      cases hv'
      have : bs.getD i false = b := by rw [List.getD_eq_getElem?_getD, e]; rfl
      have hq2 : Q' b s' := by rw [← this]; exact hq
      exact wpAny_truthy_bool hq2
  · have ez : (bs.map Value.bool).toArray.size = bs.length := by simp
    rw [ez, all_range]
    exact ⟨.bl (bs.all id), H, I.kept (t' := tk) fun b o e => hk b o (fun z => by
      have : b = s.heap.objs.size := by simpa using z
      exact absurd (Heap.lt_size e) (by rw [this]; exact Nat.lt_irrefl _)) (Heap.get?_push_of_some _ e), rfl, q⟩
end
section
variable {K : Frag} {σ : St} {H : Hp} {Q : VK}
theorem comp_zip {R : Hp → Prop} {acc a b : Addr} {xs ys : List V} {n : Nat} {g : TG} {tt : TT} {te : TE} (hn : n = min xs.length ys.length) (Pv : Nat → St → List V → Hp → Prop) (h0 : Pv 0 σ [] H) (hl : ∀ i σ zs H, i ≤ n → Pv i σ zs H → SqL K H a xs ∧ SqL K H b ys)
    (hs : ∀ i x y p σ zs H, xs[i]? = some x → ys[i]? = some y → i < n → Pv i σ zs H → H p = none → g (.ref p) σ (upd H p (.tup [x, y])) fun σ2 H4 => tt σ2 H4 fun b H5 => if b = true then te σ2 H5 fun y H6 => H6 acc = some (.lst zs) ∧ zs.length < sizeLine ∧ ∃ m', m' < n - i ∧ (m' = n - (i + 1) ∧ i + 1 ≤ n ∧ Pv (i + 1) σ2 (zs ++ [y]) (upd H6 acc (.lst (zs ++ [y])))) else ∃ m', m' < n - i ∧ (m' = n - (i + 1) ∧ i + 1 ≤ n ∧ Pv (i + 1) σ2 zs H5))
    (hd : ∀ σ zs H, Pv n σ zs H → R H) :
    ∃ W : Nat → Nat → St → List V → Hp → Prop, (∃ m, W 0 m σ [] H) ∧ ∀ i m σ' zs H2, W i m σ' zs H2 → (((Itz K a b).stop i H2 ∧ R H2) ∨ ((Itz K a b).go i H2 ∧ ∀ x H3, (Itz K a b).yld i H2 x H3 → g x σ' H3 fun σ2 H4 => tt σ2 H4 fun b H5 =>
      if b = true then te σ2 H5 fun y H6 => H6 acc = some (.lst zs) ∧ zs.length < sizeLine ∧ ∃ m', m' < m ∧ W (i + 1) m' σ2 (zs ++ [y]) (upd H6 acc (.lst (zs ++ [y]))) else ∃ m', m' < m ∧ W (i + 1) m' σ2 zs H5)) := by
  refine ⟨fun i m σ zs H => m = n - i ∧ i ≤ n ∧ Pv i σ zs H, ⟨n, by simp, Nat.zero_le _, h0⟩, ?_⟩
  rintro i m σ zs H ⟨rfl, hi, p⟩
  obtain ⟨qa, qb⟩ := hl i σ zs H hi p
  by_cases hlt : i < n
  · have h1 : i < xs.length := by omega
    have h2 : i < ys.length := by omega
    refine .inr ⟨⟨xs, ys, xs[i], ys[i], qa, qb, by simp [h1], by simp [h2]⟩, fun x H' y => ?_⟩
    obtain ⟨r, u, v, hr, rfl, hu, hv, rfl⟩ := y
    exact hs i u v r σ zs H (hu xs qa) (hv ys qb) hlt p hr
  · have e : i = n := by omega
    exact .inl ⟨⟨xs, ys, qa, qb, by omega⟩, hd σ zs H (e ▸ p)⟩
end
end L2
end
section
set_option Elab.async false
set_option linter.all false
set_option maxRecDepth 100000
namespace PySem
namespace F
end F
section
variable {prog : Program} {w : World} {A : Around} {E : Value → Shared → Prop} {s : Shared} {items : Array Value} {z l : Addr}
end
end PySem
namespace L2
open PySem PySem.Spec PySem.W PySem.Calls PyProof.Rows
section
variable {X : Cx} {e st : Expr} {te tst : TE} {p2 pos : Pos}
def tRev (K : Frag) (te tst : TE) : TE := fun σ H Q => te σ H fun x H1 => tst σ H1 fun y H2 => y = .int (-1) ∧ ∃ a xs, x = .ref a ∧ SqL K H2 a xs ∧ ∀ p, H2 p = none → Q (.ref p) (upd H2 p (.lst xs.reverse))
end
section
variable {X : Cx} {l : Expr} {tl : TE} {p p2 pos pos2 : Pos}
def tListRev (K : Frag) (tl : TE) : TE := fun σ H Q => tl σ H fun x H1 => ∃ a xs, x = .ref a ∧ SqL K H1 a xs ∧ ∀ p, H1 p = none → Q (.ref p) (upd H1 p (.lst xs.reverse))
end
end L2
end
section
set_option Elab.async false
set_option linter.all false
set_option maxRecDepth 100000
namespace Gm
open PySem L2
def kN (ks : List (Dart × Int)) : List (List Key × V) := ks.map fun p => (keyD p.1, V.int p.2)
def lk (s : List Int → Nat) (R : List (List Int)) : Nat → List (Dart × Int)
  | 0 => []
  | k + 1 => lk s R k ++ (sh (s (R.getD k [])) (R.getD k [])).map fun d => (d, (k : Int))
def lo (R : List (List Int)) (d : Dart) : Int := (R.findIdx fun r => decide (d ∈ sh 0 r) : Nat)
def otS (R : List (List Int)) (s : Nat) (r : List Int) : List Int := (sh s r).map fun d => lo R (d.2, d.1)
def Fine (D : List (List Int)) : Prop := ∀ (k : Nat) (l : List Int), D[k]? = some l → (k : Int) ∉ l ∧ l.Nodup
theorem back_dt {L : List (List Int)} (im : IsMap L) {d : Dart} (h : Dt L d) : Dt L (d.2, d.1) := by
  have := h.back im
  exact ⟨this.1, this.2.1, this.2.2.2⟩
end Gm
namespace Gm
open PySem L2
end Gm
namespace L2
end L2
namespace Gm
open PySem L2
end Gm
namespace Gm
end Gm
namespace L2
open PySem
theorem pg_tupK {X : Cx} {K : PySem.W.Frag} (hK : X.K = K) {pos : Pos} {es : List Expr} {k : Nat} {t : TGs} {n : Nat} (hc : X.calm = true) (h : PGs X es t)
    (hn : (assignEach es X.env).length = n := by rfl) (hst : (assignEach es X.env).findIdx? (·.1) = none := by rfl) : PG X (.Tuple es k pos) (gTup K n t) := by
  subst hK
  exact pg_tup hc h hn hst
end L2
namespace L2
end L2
end
section
set_option Elab.async false
set_option linter.all false
set_option maxRecDepth 100000
namespace Gm
open PySem L2
inductive ReX (L : List (List Int)) (S : List Int) (s : Int) : Int → Prop where
  | here : ReX L S s s
  | step {i : Nat} {l : List Int} {x : Int} : ReX L S s i → L[i]? = some l → x ∈ l → x ∉ S → ReX L S s x
theorem ReX.rg {L : List (List Int)} {S : List Int} {s x : Int} (h : ReX L S s x) (m : IsMap L) (hs : 0 ≤ s ∧ s < L.length) : 0 ≤ x ∧ x < L.length := by
  cases h with
  | here => exact hs
  | step _ e hx _ =>
    have := m.rg _ _ e x hx
    exact ⟨this.1, this.2.1⟩
structure FlX (L : List (List Int)) (S : List Int) (s : Int) (ks ws : List Int) : Prop where
  nd : ks.Nodup
  nw : ws.Nodup
  st : s ∈ ks
  re : ∀ x ∈ ks, ReX L S s x
  sub : ∀ x ∈ ws, x ∈ ks
  cl : ∀ (i : Nat) (l : List Int), (i : Int) ∈ ks → (i : Int) ∉ ws → L[i]? = some l → ∀ x ∈ l, x ∉ S → x ∈ ks
structure FiX (L : List (List Int)) (S : List Int) (s : Int) (ks ws : List Int) (pl : Nat) (l : List Int) (k : Nat) : Prop where
  nd : ks.Nodup
  nw : ws.Nodup
  st : s ∈ ks
  re : ∀ x ∈ ks, ReX L S s x
  sub : ∀ x ∈ ws, x ∈ ks
  pk : (pl : Int) ∈ ks
  cl : ∀ (i : Nat) (m : List Int), (i : Int) ∈ ks → (i : Int) ∉ ws → i ≠ pl → L[i]? = some m → ∀ x ∈ m, x ∉ S → x ∈ ks
  tk : ∀ x ∈ l.take k, x ∉ S → x ∈ ks
section
variable {L : List (List Int)} {S : List Int} {s : Int} {ks ws : List Int} {pl k : Nat} {l : List Int} {x : Int}
theorem FlX.start : FlX L S s [s] [s] := ⟨by simp, by simp, by simp, fun x h => by rw [List.mem_singleton.mp h]; exact .here, fun x h => h, fun i l h1 h2 => absurd h1 h2⟩
theorem FlX.pop (h : FlX L S s ks (ws ++ [(pl : Int)])) : FiX L S s ks ws pl l 0 :=
  ⟨h.nd, (snoc_nd.mp h.nw).2, h.st, h.re, fun x hx => h.sub x (List.mem_append_left _ hx), h.sub _ (by simp), fun i m h1 h2 h3 h4 x hx => h.cl i m h1 (fun z => by
    rcases List.mem_append.mp z with z | z
    · exact h2 z
    · have := List.mem_singleton.mp z; omega) h4 x hx, fun x hx => by simp at hx⟩
theorem FiX.add (h : FiX L S s ks ws pl l k) (e : l[k]? = some x) (n : x ∉ ks) (nS : x ∉ S) (hl : L[pl]? = some l) : FiX L S s (ks ++ [x]) (ws ++ [x]) pl l (k + 1) := by
  refine ⟨snoc_nd.mpr ⟨n, h.nd⟩, snoc_nd.mpr ⟨fun z => n (h.sub _ z), h.nw⟩, List.mem_append_left _ h.st, fun y hy => ?_, fun y hy => ?_, List.mem_append_left _ h.pk, fun i m h1 h2 h3 h4 y hy hS => ?_, fun y hy hS => ?_⟩
  · rcases List.mem_append.mp hy with z | z
    · exact h.re y z
    · rw [List.mem_singleton.mp z]; exact .step (h.re _ h.pk) hl (List.mem_of_getElem? e) nS
  · rcases List.mem_append.mp hy with z | z
    · exact List.mem_append_left _ (h.sub y z)
    · exact List.mem_append_right _ z
  · refine List.mem_append_left _ (h.cl i m ?_ (fun z => h2 (List.mem_append_left _ z)) h3 h4 y hy hS)
    rcases List.mem_append.mp h1 with z | z
    · exact z
    · exact absurd (List.mem_append_right _ z) h2
  · rcases take_mem e hy with z | z
    · exact List.mem_append_left _ (h.tk y z hS)
    · rw [z]; exact List.mem_append_right _ (by simp)
theorem FiX.skip (h : FiX L S s ks ws pl l k) (e : l[k]? = some x) (n : x ∈ ks ∨ x ∈ S) : FiX L S s ks ws pl l (k + 1) :=
  ⟨h.nd, h.nw, h.st, h.re, h.sub, h.pk, h.cl, fun y hy hS => by
    rcases take_mem e hy with z | z
    · exact h.tk y z hS
    · rcases n with n | n
      · rw [z]; exact n
      · exact absurd (z ▸ n) hS⟩
theorem FiX.done (h : FiX L S s ks ws pl l l.length) (hl : L[pl]? = some l) : FlX L S s ks ws :=
  ⟨h.nd, h.nw, h.st, h.re, h.sub, fun i m h1 h2 h3 x hx hS => by
    by_cases e : i = pl
    · subst e
      rw [hl] at h3
      cases h3
      exact h.tk x (by rw [List.take_length]; exact hx) hS
    · exact h.cl i m h1 h2 e h3 x hx hS⟩
theorem FlX.all (h : FlX L S s ks []) (x : Int) : x ∈ ks ↔ ReX L S s x := by
  refine ⟨h.re x, fun r => ?_⟩
  induction r with
  | here => exact h.st
  | step _ e hx hS ih => exact h.cl _ _ ih (by simp) e _ hx hS
theorem FlX.len (m : IsMap L) (hs : 0 ≤ s ∧ s < L.length) {ks : List Int} (nd : ks.Nodup) (re : ∀ x ∈ ks, ReX L S s x) : ks.length ≤ L.length := len_range nd fun x hx => (re x hx).rg m hs
end
def CloX (L : List (List Int)) (S fs : List Int) : Prop := ∀ (i : Nat) (l : List Int), L[i]? = some l → (i : Int) ∉ S → (∃ x, x ∈ l ∧ x ∈ fs) → (i : Int) ∈ fs
structure PaX (L : List (List Int)) (S : List Int) (s : Int) (fs : List Int) (k : Nat) : Prop where
  nd : fs.Nodup
  st : s ∈ fs
  re : ∀ x ∈ fs, ReX L S s x
  gr : CloX L S fs ∨ k + 1 ≤ fs.length
structure PiX (L : List (List Int)) (S : List Int) (s : Int) (fs0 fs : List Int) (j : Nat) : Prop where
  nd : fs.Nodup
  st : s ∈ fs
  re : ∀ x ∈ fs, ReX L S s x
  kp : CloX L S fs0 → fs = fs0
  gr : fs0.length < fs.length ∨ (fs = fs0 ∧ ∀ (i : Nat) (l : List Int), i < j → L[i]? = some l → (i : Int) ∉ S → (∃ x, x ∈ l ∧ x ∈ fs) → (i : Int) ∈ fs)
section
variable {L : List (List Int)} {S : List Int} {s : Int} {fs0 fs : List Int} {j k : Nat} {l : List Int}
theorem PaX.start : PaX L S s [s] 0 := ⟨by simp, by simp, fun x h => by rw [List.mem_singleton.mp h]; exact .here, .inr (by simp)⟩
theorem PiX.done (h : PiX L S s fs0 fs L.length) (h0 : PaX L S s fs0 k) : PaX L S s fs (k + 1) := by
  refine ⟨h.nd, h.st, h.re, ?_⟩
  rcases h.gr with z | ⟨rfl, z⟩
  · rcases h0.gr with c | c
    · rw [h.kp c]; exact .inl c
    · exact .inr (by omega)
  · exact .inl fun i l e => z i l (List.getElem?_eq_some_iff.mp e).1 e
theorem PiX.add (h : PiX L S s fs0 fs j) (m : IsMap L) (hl : L[j]? = some l) (n : (j : Int) ∉ fs) (nS : (j : Int) ∉ S) {x : Int} (hx : x ∈ l) (hf : x ∈ fs) : PiX L S s fs0 (fs ++ [(j : Int)]) (j + 1) := by
  have hr := m.rg _ _ hl x hx
  have rj : ReX L S s (j : Int) := by
    have hxn : x = (x.toNat : Int) := by omega
    obtain ⟨lx, hlx⟩ : ∃ lx, L[x.toNat]? = some lx := ⟨L[x.toNat]'(by omega), by simp⟩
    exact .step (i := x.toNat) (by rw [← hxn]; exact h.re x hf) hlx (m.sy _ _ hl x hx _ hxn _ hlx) nS
  refine ⟨snoc_nd.mpr ⟨n, h.nd⟩, List.mem_append_left _ h.st, fun y hy => ?_, fun c => ?_, .inl ?_⟩
  · rcases List.mem_append.mp hy with z | z
    · exact h.re y z
    · rw [List.mem_singleton.mp z]; exact rj
  · have e := h.kp c
    subst e
    exact absurd (c j l hl nS ⟨x, hx, hf⟩) n
  · rw [List.length_append]
    rcases h.gr with z | ⟨z, _⟩
    · simp; omega
    · rw [z]; simp
theorem PiX.skip (h : PiX L S s fs0 fs j) (c : (j : Int) ∈ fs ∨ (j : Int) ∈ S ∨ ∀ l, L[j]? = some l → ∀ x ∈ l, x ∉ fs) : PiX L S s fs0 fs (j + 1) := by
  refine ⟨h.nd, h.st, h.re, h.kp, ?_⟩
  rcases h.gr with z | ⟨z1, z2⟩
  · exact .inl z
  · refine .inr ⟨z1, fun i l hi hl hS ⟨x, hx, hf⟩ => ?_⟩
    by_cases e : i = j
    · subst e
      rcases c with c | c | c
      · exact c
      · exact absurd c hS
      · exact absurd hf (c l hl x hx)
    · exact z2 i l (by omega) hl hS ⟨x, hx, hf⟩
theorem PaX.all (h : PaX L S s fs L.length) (m : IsMap L) (hs : 0 ≤ s ∧ s < L.length) (x : Int) : x ∈ fs ↔ ReX L S s x := by
  have c : CloX L S fs := by
    rcases h.gr with z | z
    · exact z
    · have := FlX.len m hs h.nd h.re
      omega
  refine ⟨h.re x, fun r => ?_⟩
  induction r with
  | here => exact h.st
  | step r e hx hS ih =>
    rename_i i l y
    have hr := m.rg _ _ e y hx
    have hyn : y = (y.toNat : Int) := by omega
    obtain ⟨ly, hly⟩ : ∃ ly, L[y.toNat]? = some ly := ⟨L[y.toNat]'(by omega), by simp⟩
    rw [hyn] at hS ⊢
    exact c y.toNat ly hly hS ⟨_, m.sy _ _ e y hx _ hyn _ hly, ih⟩
end
def upto (n : Nat) : List Int := (List.range n).map fun i : Nat => (i : Int)
theorem mem_upto {n : Nat} {x : Int} : x ∈ upto n ↔ 0 ≤ x ∧ x < n := by
  unfold upto
  rw [List.mem_map]
  constructor
  · rintro ⟨i, hi, rfl⟩
    have := List.mem_range.mp hi
    omega
  · intro ⟨h1, h2⟩
    exact ⟨x.toNat, List.mem_range.mpr (by omega), by omega⟩
theorem upto_nd (n : Nat) : (upto n).Nodup := List.Pairwise.map _ (fun a b h z => h (by omega)) List.nodup_range
theorem upto_len (n : Nat) : (upto n).length = n := by unfold upto; simp
def left (n : Nat) (S : List Int) : List Int := (upto n).filter fun x => !decide (x ∈ S)
open Classical in
noncomputable def rn (L : List (List Int)) (S : List Int) (s : Int) : Nat := ((upto L.length).filter fun x => decide (ReX L S s x)).length
noncomputable def pts (L : List (List Int)) (S : List Int) : Bool := match left L.length S with | [] => false | s :: r => decide (rn L S s < (s :: r).length)
def twos (n one : Nat) : List (List Int) := (List.range (n - (one + 1))).map fun j : Nat => [(one : Int), (one : Int) + 1 + (j : Int)]
def shorts (n : Nat) : Nat → List (List Int)
  | 0 => [] :: (upto n).map fun i => [i]
  | k + 1 => shorts n k ++ twos n k
end Gm
end
section
set_option Elab.async false
set_option linter.all false
set_option maxRecDepth 100000
namespace Gm
open PySem L2
def sw (d : Dart) : Dart := (d.2, d.1)
def mir (L : List (List Int)) : List (List Int) := L.map List.reverse
theorem mir_len (L : List (List Int)) : (mir L).length = L.length := by unfold mir; simp
theorem rowOf_mir (L : List (List Int)) (a : Int) : rowOf (mir L) a = (rowOf L a).reverse := by
  unfold rowOf mir
  rw [List.getD_eq_getElem?_getD, List.getD_eq_getElem?_getD, List.getElem?_map]
  cases L[a.toNat]? <;> rfl
theorem dt_mir {L : List (List Int)} {d : Dart} : Dt (mir L) d ↔ Dt L d := by
  constructor
  · intro h
    exact ⟨h.lo, by have := h.hi; rwa [mir_len] at this, by have := h.mem; rw [rowOf_mir] at this; exact List.mem_reverse.mp this⟩
  · intro h
    exact ⟨h.lo, by rw [mir_len]; exact h.hi, by rw [rowOf_mir]; exact List.mem_reverse.mpr h.mem⟩
theorem cy_rev {r : List Int} (h0 : 0 < r.length) (j : Nat) : cy r.reverse j = cy r (r.length - 1 - j % r.length) := by
  have hm := Nat.mod_lt j h0
  have e1 : cy r.reverse j = cy r.reverse (j % r.length) := cy_mod (by rw [List.length_reverse, Nat.mod_mod])
  rw [e1, cy_lt (show j % r.length < r.reverse.length by rw [List.length_reverse]; exact hm), cy_lt (show r.length - 1 - j % r.length < r.length by omega), List.getElem_reverse]
theorem idx_of {l : List Int} {k : Nat} (n : l.Nodup) (hk : k < l.length) : l.idxOf l[k] = k := by
  have ix := List.idxOf_lt_length_of_mem (List.getElem_mem hk)
  exact (List.getElem_inj n).mp (List.getElem_idxOf ix)
theorem pre_rev {l : List Int} {c : Int} (n : l.Nodup) (hc : c ∈ l) : pre l.reverse (pre l c) = c := by
  have ic := List.idxOf_lt_length_of_mem hc
  have p0 : 0 < l.length := by omega
  have gc := List.getElem_idxOf ic
  generalize l.idxOf c = i at ic gc
  have ma : (if i = 0 then l.length - 1 else i - 1) < l.length := by split <;> omega
  have ea : pre l c = l[if i = 0 then l.length - 1 else i - 1] := by
    unfold pre
    have hi2 : l.idxOf c = i := by rw [← gc]; exact idx_of n ic
    rw [hi2]
    have e1 : cy l (i + l.length - 1) = cy l (if i = 0 then l.length - 1 else i - 1) := cy_mod (by rw [md ic, Nat.mod_eq_of_lt ma])
    rw [e1, cy_lt ma]
  generalize hk : (if i = 0 then l.length - 1 else i - 1) = k at ma ea
  rw [ea]
  have nr : l.reverse.Nodup := l.reverse_perm.nodup_iff.mpr n
  have kl : l.length - 1 - k < l.reverse.length := by rw [List.length_reverse]; omega
  have er : l.reverse[l.length - 1 - k] = l[k] := by
    rw [List.getElem_reverse]
    congr 1
    omega
  unfold pre
  have hi3 : l.reverse.idxOf l[k] = l.length - 1 - k := by rw [← er]; exact idx_of nr kl
  rw [hi3, List.length_reverse, cy_rev p0]
  have hm : (l.length - 1 - k + l.length - 1) % l.length = if l.length - 1 - k = 0 then l.length - 1 else l.length - 1 - k - 1 := md (by omega)
  rw [hm]
  have : l.length - 1 - (if l.length - 1 - k = 0 then l.length - 1 else l.length - 1 - k - 1) = i := by
    split at hk <;> split <;> omega
  rw [this, cy_lt ic]
  exact gc
theorem dj_rev {r : List Int} (h0 : 0 < r.length) (j : Nat) : dj r.reverse j = sw (dj r (r.length - 1 - j % r.length + (r.length - 1))) := by
  have hm := Nat.mod_lt j h0
  unfold dj sw
  dsimp only
  rw [cy_rev h0, cy_rev h0]
  congr 1
  · refine cy_mod ?_
    rw [show r.length - 1 - j % r.length + (r.length - 1) + 1 = r.length - 1 - j % r.length + r.length by omega, Nat.add_mod_right]
  · refine cy_mod ?_
    by_cases h : j % r.length + 1 < r.length
    · have e : (j + 1) % r.length = j % r.length + 1 := by rw [Nat.add_mod, Nat.mod_eq_of_lt (show 1 < r.length by omega)]; exact Nat.mod_eq_of_lt h
      rw [e, show r.length - 1 - j % r.length + (r.length - 1) = r.length - 1 - (j % r.length + 1) + r.length by omega, Nat.add_mod_right]
    · have e1 : j % r.length = r.length - 1 := by omega
      have e : (j + 1) % r.length = 0 := by
        by_cases h1 : r.length = 1
        · rw [h1, Nat.mod_one]
        · rw [Nat.add_mod, Nat.mod_eq_of_lt (show 1 < r.length by omega), e1, show r.length - 1 + 1 = r.length by omega, Nat.mod_self]
      rw [e, e1]
      congr 1
      omega
theorem Good.mir {L : List (List Int)} {r : List Int} (g : Good L r) (m : IsMap L) : Good (mir L) r.reverse := by
  have tw := g.two
  have h0 : 0 < r.length := by omega
  have back : ∀ j, Dt L (sw (dj r j)) := fun j => back_dt m (g.dt j)
  refine ⟨by rw [List.length_reverse]; exact tw, fun j => ?_, fun j => ?_⟩
  · rw [dj_rev h0]; exact dt_mir.mpr (back _)
  · rw [dj_rev h0 j, dj_rev h0 (j + 1)]
    have hm := Nat.mod_lt j h0
    have hm1 := Nat.mod_lt (j + 1) h0
    have hst := g.st (r.length - 1 - (j + 1) % r.length + (r.length - 1))
    have ed : dj r (r.length - 1 - (j + 1) % r.length + (r.length - 1) + 1) = dj r (r.length - 1 - j % r.length + (r.length - 1)) := by
      refine dj_mod ?_
      by_cases h : j % r.length + 1 < r.length
      · have e : (j + 1) % r.length = j % r.length + 1 := by rw [Nat.add_mod, Nat.mod_eq_of_lt (show 1 < r.length by omega)]; exact Nat.mod_eq_of_lt h
        rw [e]
        congr 1
        omega
      · have e1 : j % r.length = r.length - 1 := by omega
        have e : (j + 1) % r.length = 0 := by rw [Nat.add_mod, Nat.mod_eq_of_lt (show 1 < r.length by omega), e1, show r.length - 1 + 1 = r.length by omega, Nat.mod_self]
        rw [e, e1, show r.length - 1 - 0 + (r.length - 1) + 1 = r.length - 1 - (r.length - 1) + (r.length - 1) + r.length by omega, Nat.add_mod_right]
    rw [ed] at hst
    have hD := g.dt (r.length - 1 - (j + 1) % r.length + (r.length - 1))
    generalize dj r (r.length - 1 - (j + 1) % r.length + (r.length - 1)) = D at hst hD
    rw [← hst]
    obtain ⟨b0, b1, b2, b3⟩ := hD.back m
    unfold Gm.nx sw
    dsimp only
    rw [rowOf_mir, pre_rev (m.nd _ _ (rowOf_at b0 b1)) b3]
theorem sh_rev {r : List Int} (h0 : 0 < r.length) : (sh 0 r.reverse).Perm ((sh 0 r).map sw) := by
  have e : sh 0 r.reverse = ((sh (r.length - 1) r).map sw).reverse := by
    refine List.ext_getElem? fun j => ?_
    by_cases hj : j < r.length
    · rw [sh_at (by rw [List.length_reverse]; exact hj), List.getElem?_reverse (by rw [List.length_map, sh_len]; exact hj), List.length_map, sh_len, List.getElem?_map, sh_at (by omega), dj_rev h0]
      rw [Nat.add_zero, Nat.mod_eq_of_lt hj]
      rfl
    · rw [List.getElem?_eq_none (by rw [sh_len, List.length_reverse]; omega), List.getElem?_eq_none (by rw [List.length_reverse, List.length_map, sh_len]; omega)]
  rw [e]
  exact (List.reverse_perm _).trans ((sh_perm r _).map sw)
theorem sw_inj {d e : Dart} (h : sw d = sw e) : d = e := Prod.ext (congrArg Prod.snd h) (congrArg Prod.fst h)
def BackR (r s : List Int) : Prop := ∃ c, c < r.length ∧ s = rot r.reverse c ∧ Least s
abbrev Backs : List (List Int) → List (List Int) → Prop := Paired BackR
theorem Backs.flat {R S : List (List Int)} (h : Backs R S) (hp : ∀ r ∈ R, 0 < r.length) : (S.flatMap (sh 0)).Perm ((R.flatMap (sh 0)).map sw) := by
  induction h with
  | nil => exact .nil
  | @cons r s R S hb _ ih =>
    obtain ⟨c, hc, rfl, _⟩ := hb
    rw [List.flatMap_cons, List.flatMap_cons, List.map_append]
    refine List.Perm.append ?_ (ih fun q hq => hp q (List.mem_cons_of_mem _ hq))
    rw [sh_rot (by rw [List.length_reverse]; exact hc)]
    exact (sh_perm _ _).trans (sh_rev (hp r List.mem_cons_self))
theorem Backs.mem {R S : List (List Int)} (h : Backs R S) : ∀ s ∈ S, ∃ r ∈ R, BackR r s := by
  induction h with
  | nil => intro s hs; cases hs
  | cons hb _ ih =>
    intro s hs
    rcases List.mem_cons.mp hs with z | z
    · exact ⟨_, List.mem_cons_self, z ▸ hb⟩
    · obtain ⟨r, hr, k⟩ := ih s z
      exact ⟨r, List.mem_cons_of_mem _ hr, k⟩
theorem Backs.lp {L R S : List (List Int)} (ld : Lands L R) (m : IsMap L) (h : Backs R S) : Lp (mir L) S ((R.flatMap (sh 0)).map sw) := by
  have hp : ∀ r ∈ R, 0 < r.length := fun r hr => by have := (ld.good r hr).two; omega
  refine ⟨fun s hs => ?_, fun s hs => ?_, ?_, (h.flat hp).symm, ?_⟩
  · obtain ⟨r, hr, c, hc, rfl, _⟩ := h.mem s hs
    exact ((ld.good r hr).mir m).rot (by rw [List.length_reverse]; exact hc)
  · obtain ⟨r, hr, c, hc, _, hl⟩ := h.mem s hs
    exact hl
  · exact List.Pairwise.map _ (fun a b hab z => hab (sw_inj z)) ld.nd
  · have l1 : S.length = R.length := (Paired.length h).symm
    have l2 : ∀ T : List (List Int), (∀ r ∈ T, 2 ≤ r.length) → 2 * T.length ≤ (T.flatMap (sh 0)).length := by
      intro T
      induction T with
      | nil => intro _; simp
      | cons q T ih =>
        intro hs
        rw [List.flatMap_cons, List.length_append, sh_len, List.length_cons]
        have h1 := hs q List.mem_cons_self
        have h2 := ih fun r hr => hs r (List.mem_cons_of_mem _ hr)
        omega
    rw [List.length_map, l1]
    exact l2 R fun r hr => (ld.good r hr).two
end Gm
end
section
set_option Elab.async false
set_option linter.all false
set_option maxRecDepth 100000
namespace Gm
open PySem L2
section
variable {K : PySem.W.Frag} {σ : St} {H : Hp} {Q : VK}
end
end Gm
end
section
set_option Elab.async false
set_option linter.all false
set_option maxRecDepth 100000
namespace Gm
open PySem L2
structure Lay (A B : List (List Int)) (f : Int → Int) : Prop where
  len : A.length = B.length
  rg : ∀ i : Int, 0 ≤ i → i < A.length → 0 ≤ f i ∧ f i < B.length
  row : ∀ i : Int, 0 ≤ i → i < A.length → RotEq ((rowOf A i).map f) (rowOf B (f i))
theorem Reach.row {L : List (List Int)} {s x : Int} (h : Reach L s x) (m : IsMap L) (hs : 0 ≤ s ∧ s < L.length) {y : Int} (hy : y ∈ rowOf L x) : Reach L s y := by
  have r := h.rg m hs
  have e : ((x.toNat : Nat) : Int) = x := Int.toNat_of_nonneg r.1
  exact .step (i := x.toNat) (by rw [e]; exact h) (rowOf_at r.1 r.2) hy
theorem nodup_of_all {n : Nat} {l : List Int} (hl : l.length ≤ n) (h : ∀ x : Int, 0 ≤ x → x < n → x ∈ l) : l.Nodup := by
  refine List.pairwise_iff_getElem.mpr fun i j hi hj hij e => ?_
  have sub : ∀ x ∈ upto n, x ∈ l.eraseIdx j := fun x hx => by
    have r := mem_upto.mp hx
    obtain ⟨k, hk, ek⟩ := List.mem_iff_getElem.mp (h x r.1 r.2)
    rw [List.mem_eraseIdx_iff_getElem]
    by_cases z : k = j
    · subst z
      exact ⟨i, hi, by omega, by rw [e]; exact ek⟩
    · exact ⟨k, hk, z, ek⟩
  have h1 := len_le (upto_nd n) sub
  rw [upto_len, List.length_eraseIdx_of_lt hj] at h1
  omega
theorem Lay.onto {A B : List (List Int)} {f : Int → Int} (h : Lay A B f) (mA : IsMap A) (mB : IsMap B) (n0 : 0 < A.length) (hB : ∀ x : Int, 0 ≤ x → x < B.length → Reach B (f 0) x) :
    ∀ y : Int, 0 ≤ y → y < B.length → ∃ i : Int, 0 ≤ i ∧ i < A.length ∧ f i = y := by
  have r0 := h.rg 0 (by omega) (by omega)
  have key : ∀ y, Reach B (f 0) y → ∃ i : Int, 0 ≤ i ∧ i < A.length ∧ f i = y := by
    intro y ry
    induction ry with
    | here => exact ⟨0, by omega, by omega, rfl⟩
    | @step j l x rj e hx ih =>
      obtain ⟨i, i0, i1, ei⟩ := ih
      have er : rowOf B (f i) = l := by
        rw [ei]
        unfold rowOf
        rw [Int.toNat_natCast, List.getD_eq_getElem?_getD, e]
        rfl
      have hm := (h.row i i0 i1).perm.mem_iff.mpr (show x ∈ rowOf B (f i) by rw [er]; exact hx)
      obtain ⟨k, hk, ek⟩ := List.mem_map.mp hm
      have bk := Dt.back (L := A) (d := (i, k)) ⟨i0, i1, hk⟩ mA
      exact ⟨k, bk.1, bk.2.1, ek⟩
  exact fun y y0 y1 => key y (hB y y0 y1)
theorem Lay.nodup {A B : List (List Int)} {f : Int → Int} (h : Lay A B f) (mA : IsMap A) (mB : IsMap B) (n0 : 0 < A.length) (hB : ∀ x : Int, 0 ≤ x → x < B.length → Reach B (f 0) x) : ((upto A.length).map f).Nodup := by
  refine nodup_of_all (n := A.length) (by rw [List.length_map, upto_len]; exact Nat.le_refl _) fun y y0 y1 => ?_
  obtain ⟨i, i0, i1, e⟩ := h.onto mA mB n0 hB y y0 (by rw [← h.len]; exact y1)
  exact List.mem_map.mpr ⟨i, mem_upto.mpr ⟨i0, i1⟩, e⟩
theorem rot_fix {m a b : List Int} (n : m.Nodup) (ha : RotEq a m) (hb : RotEq b m) {k : Nat} {x : Int} (h1 : a[k]? = some x) (h2 : b[k]? = some x) : a = b := by
  have la := ha.len
  have lb := hb.len
  have k1 := (List.getElem?_eq_some_iff.mp h1).1
  have all : ∀ {c : List Int}, RotEq c m → ∃ j, j < m.length ∧ c = rot m j := fun {c} hc => by
    rcases hc with rfl | ⟨j, hj, e⟩
    · exact ⟨0, by omega, by unfold rot; simp⟩
    · exact ⟨j, hj, e⟩
  obtain ⟨i, hi, rfl⟩ := all ha
  obtain ⟨j, hj, rfl⟩ := all hb
  rw [at_cy (by rw [rot_len (by omega)]; omega), cy_rot hi] at h1
  rw [at_cy (by rw [rot_len (by omega)]; omega), cy_rot hj] at h2
  have e := Option.some.inj (h1.trans h2.symm)
  have p0 : 0 < m.length := by omega
  have mi := Nat.mod_lt (k + i) p0
  have mj := Nat.mod_lt (k + j) p0
  have e1 : cy m (k + i) = m[(k + i) % m.length] := by rw [← cy_lt mi]; exact cy_mod (by rw [Nat.mod_mod])
  have e2 : cy m (k + j) = m[(k + j) % m.length] := by rw [← cy_lt mj]; exact cy_mod (by rw [Nat.mod_mod])
  rw [e1, e2] at e
  have em := (List.getElem_inj n).mp e
  have kl : k < m.length := by rw [rot_len (by omega)] at k1; exact k1
  have : i = j := by
    have a1 : (k + i) % m.length = if k + i < m.length then k + i else k + i - m.length := by
      split
      · exact Nat.mod_eq_of_lt (by assumption)
      · rw [Nat.mod_eq_sub_mod (by omega), Nat.mod_eq_of_lt (by omega)]
    have a2 : (k + j) % m.length = if k + j < m.length then k + j else k + j - m.length := by
      split
      · exact Nat.mod_eq_of_lt (by assumption)
      · rw [Nat.mod_eq_sub_mod (by omega), Nat.mod_eq_of_lt (by omega)]
    rw [a1, a2] at em
    split at em <;> split at em <;> omega
  rw [this]
theorem Lay.near {A B : List (List Int)} {f g : Int → Int} (hf : Lay A B f) (hg : Lay A B g) (mB : IsMap B) {i x : Int} (i0 : 0 ≤ i) (i1 : i < A.length) (e : f i = g i) (hx : x ∈ rowOf A i) (ex : f x = g x) : ∀ y ∈ rowOf A i, f y = g y := by
  obtain ⟨k, hk, ek⟩ := List.mem_iff_getElem.mp hx
  have r := hf.rg i i0 i1
  have rf := hf.row i i0 i1
  have rg' := hg.row i i0 i1
  rw [← e] at rg'
  have h1 : ((rowOf A i).map f)[k]? = some (f x) := by rw [List.getElem?_map, List.getElem?_eq_getElem hk, ek]; rfl
  have h2 : ((rowOf A i).map g)[k]? = some (f x) := by rw [List.getElem?_map, List.getElem?_eq_getElem hk, ek, ex]; rfl
  have em := rot_fix (mB.nd _ _ (rowOf_at r.1 r.2)) rf rg' h1 h2
  intro y hy
  obtain ⟨j, hj, ej⟩ := List.mem_iff_getElem.mp hy
  have := congrArg (fun l => l[j]?) em
  simp only [List.getElem?_map, List.getElem?_eq_getElem hj, ej] at this
  exact Option.some.inj this
end Gm
end
section
set_option Elab.async false
set_option linter.all false
set_option maxRecDepth 100000
namespace Gm
open PySem L2
theorem map_rotF (f : Int → Int) (r : List Int) (k : Nat) : (rot r k).map f = rot (r.map f) k := by
  unfold rot
  rw [List.map_append, List.map_drop, List.map_take]
theorem RotEq.symm {a b : List Int} (h : RotEq a b) : RotEq b a := by
  rcases h with rfl | ⟨c, hc, rfl⟩
  · exact .inl rfl
  · by_cases c0 : c = 0
    · subst c0
      refine .inl ?_
      unfold rot
      simp
    · refine .inr ⟨b.length - c, by rw [rot_len (by omega)]; omega, ?_⟩
      rw [rot_rot hc (by omega), show b.length - c + c = b.length by omega, Nat.mod_self]
      unfold rot
      simp
def nm (ks : List (Int × Int)) (p : Int) : Int := (ks.lookup p).getD 0
theorem nm_at : ∀ {ks : List (Int × Int)} {p v : Int}, (ks.map (·.1)).Nodup → (p, v) ∈ ks → nm ks p = v
  | [], _, _, _, h => by cases h
  | k :: ks, p, v, nd, h => by
    obtain ⟨h1, h2⟩ := List.nodup_cons.mp nd
    unfold nm
    rw [List.lookup_cons]
    by_cases e : p = k.1
    · rw [show (p == k.1) = true by simpa using e]
      rcases List.mem_cons.mp h with z | z
      · rw [← z]; rfl
      · exact absurd (List.mem_map.mpr ⟨_, z, e⟩) h1
    · rw [show (p == k.1) = false by simpa using e]
      rcases List.mem_cons.mp h with z | z
      · exact absurd (by rw [← z]) e
      · exact nm_at h2 z
theorem nm_uniq {ks : List (Int × Int)} {p v u : Int} (nd : (ks.map (·.1)).Nodup) (h1 : (p, v) ∈ ks) (h2 : (p, u) ∈ ks) : v = u := (nm_at nd h1).symm.trans (nm_at nd h2)
structure Wants (A B : List (List Int)) (first x0 second : Int) (f : Int → Int) : Prop where
  lay : Lay A B f
  e0 : f 0 = first
  e1 : f x0 = second
abbrev Wait := Int × Int × Int
structure Nf (A B : List (List Int)) (first x0 second : Int) (ks : List (Int × Int)) (ws : List Wait) : Prop where
  nd : (ks.map (·.1)).Nodup
  rg : ∀ p ∈ ks, (0 ≤ p.1 ∧ p.1 < A.length) ∧ 0 ≤ p.2 ∧ p.2 < B.length
  st : (0, first) ∈ ks
  wn : (ws.map (·.1)).Nodup
  wk : ∀ w ∈ ws, ∃ v, (w.1, v) ∈ ks ∧ w.2.1 ∈ rowOf A w.1 ∧ w.2.2 ∈ rowOf B v
  cl : ∀ p v, (p, v) ∈ ks → p ∉ ws.map (·.1) → (∀ y ∈ rowOf A p, ∃ u, (y, u) ∈ ks) ∧ RotEq ((rowOf A p).map (nm ks)) (rowOf B v)
  un : ∀ f, Wants A B first x0 second f → (∀ p ∈ ks, f p.1 = p.2) ∧ ∀ w ∈ ws, f w.2.1 = w.2.2
  ini : (0, x0, second) ∈ ws ∨ (x0, second) ∈ ks
structure Ni (A B : List (List Int)) (first x0 second : Int) (ks : List (Int × Int)) (ws : List Wait) (p v : Int) (od gl : List Int) (k : Nat) : Prop where
  nd : (ks.map (·.1)).Nodup
  rg : ∀ p ∈ ks, (0 ≤ p.1 ∧ p.1 < A.length) ∧ 0 ≤ p.2 ∧ p.2 < B.length
  st : (0, first) ∈ ks
  wn : (ws.map (·.1)).Nodup
  pn : p ∉ ws.map (·.1)
  pk : (p, v) ∈ ks
  wk : ∀ w ∈ ws, ∃ v, (w.1, v) ∈ ks ∧ w.2.1 ∈ rowOf A w.1 ∧ w.2.2 ∈ rowOf B v
  cl : ∀ q u, (q, u) ∈ ks → q ∉ ws.map (·.1) → q ≠ p → (∀ y ∈ rowOf A q, ∃ u, (y, u) ∈ ks) ∧ RotEq ((rowOf A q).map (nm ks)) (rowOf B u)
  un : ∀ f, Wants A B first x0 second f → (∀ p ∈ ks, f p.1 = p.2) ∧ ∀ w ∈ ws, f w.2.1 = w.2.2
  tk : ∀ (t : Nat) (y u : Int), t < k → od[t]? = some y → gl[t]? = some u → (y, u) ∈ ks
  ini : (0, x0, second) ∈ ws ∨ (x0, second) ∈ ks ∨ (od[0]? = some x0 ∧ gl[0]? = some second)
section
variable {A B : List (List Int)} {first x0 second p v : Int} {ks : List (Int × Int)} {ws : List Wait} {od gl : List Int} {k : Nat}
theorem Nf.start (n0 : 0 < A.length) (hf : 0 ≤ first ∧ first < B.length) (hx : x0 ∈ rowOf A 0) (hs : second ∈ rowOf B first) : Nf A B first x0 second [(0, first)] [(0, x0, second)] :=
  ⟨by simp, fun p hp => by rw [List.mem_singleton.mp hp]; exact ⟨⟨Int.le_refl 0, by simpa using n0⟩, hf⟩, List.mem_singleton.mpr rfl, by simp, fun w hw => by rw [List.mem_singleton.mp hw]; exact ⟨first, List.mem_singleton.mpr rfl, hx, hs⟩,
    fun p v hp hn => by
      have e := List.mem_singleton.mp hp
      have e1 : p = 0 := congrArg Prod.fst e
      exact absurd (by rw [e1]; simp) hn,
    fun f w => ⟨fun p hp => by rw [List.mem_singleton.mp hp]; exact w.e0, fun q hq => by rw [List.mem_singleton.mp hq]; exact w.e1⟩, .inl (List.mem_singleton.mpr rfl)⟩
theorem Nf.turn {q r : Int} (h : Nf A B first x0 second ks (ws ++ [(p, q, r)])) (hp : (p, v) ∈ ks) (h1 : od[0]? = some q) (h2 : gl[0]? = some r) : Ni A B first x0 second ks ws p v od gl 0 := by
  have wn := h.wn
  rw [List.map_append, List.map_singleton, snoc_nd] at wn
  refine ⟨h.nd, h.rg, h.st, wn.2, wn.1, hp, fun w hw => h.wk w (List.mem_append_left _ hw), fun q u hq hn hne => h.cl q u hq fun z => ?_, fun f w => ⟨(h.un f w).1, fun x hx => (h.un f w).2 x (List.mem_append_left _ hx)⟩, fun t y u ht => by omega, ?_⟩
  · rw [List.map_append, List.map_singleton] at z
    rcases List.mem_append.mp z with z | z
    · exact hn z
    · exact hne (List.mem_singleton.mp z)
  · rcases h.ini with z | z
    · rcases List.mem_append.mp z with z | z
      · exact .inl z
      · have e := List.mem_singleton.mp z
        have e1 : x0 = q := congrArg (fun w => w.2.1) e
        have e2 : second = r := congrArg (fun w => w.2.2) e
        exact .inr (.inr ⟨by rw [e1]; exact h1, by rw [e2]; exact h2⟩)
    · exact .inr (.inl z)
theorem Ni.old {y u : Int} (h : Ni A B first x0 second ks ws p v od gl k) (hy : od[k]? = some y) (hu : gl[k]? = some u) (hm : (y, u) ∈ ks) : Ni A B first x0 second ks ws p v od gl (k + 1) :=
  ⟨h.nd, h.rg, h.st, h.wn, h.pn, h.pk, h.wk, h.cl, h.un, fun t y' u' ht h1 h2 => by
    by_cases e : t = k
    · subst e
      rw [hy] at h1
      rw [hu] at h2
      cases h1
      cases h2
      exact hm
    · exact h.tk t y' u' (by omega) h1 h2, h.ini⟩
theorem nm_snoc {y u q : Int} (hq : ∃ w, (q, w) ∈ ks) (nd : ((ks ++ [(y, u)]).map (·.1)).Nodup) : nm (ks ++ [(y, u)]) q = nm ks q := by
  obtain ⟨w, hw⟩ := hq
  have nd1 : (ks.map (·.1)).Nodup := by rw [List.map_append] at nd; exact (List.nodup_append.mp nd).1
  rw [nm_at nd (List.mem_append_left _ hw), nm_at nd1 hw]
theorem Ni.new {y u : Int} (mA : IsMap A) (mB : IsMap B) (h : Ni A B first x0 second ks ws p v od gl k) (hy : od[k]? = some y) (hu : gl[k]? = some u) (hn : y ∉ ks.map (·.1)) (ho : ∀ z ∈ od, z ∈ rowOf A p) (hg : ∀ z ∈ gl, z ∈ rowOf B v)
    (uf : ∀ f, Wants A B first x0 second f → f y = u) : Ni A B first x0 second (ks ++ [(y, u)]) (ws ++ [(y, p, v)]) p v od gl (k + 1) := by
  have nd2 : ((ks ++ [(y, u)]).map (·.1)).Nodup := by rw [List.map_append, List.map_singleton]; exact snoc_nd.mpr ⟨hn, h.nd⟩
  have rp := h.rg _ h.pk
  have yA := ho y (List.mem_of_getElem? hy)
  have uB := hg u (List.mem_of_getElem? hu)
  have by_ := Dt.back (L := A) (d := (p, y)) ⟨rp.1.1, rp.1.2, yA⟩ mA
  have bu := Dt.back (L := B) (d := (v, u)) ⟨rp.2.1, rp.2.2, uB⟩ mB
  have wsk : ∀ z, z ∈ ws.map (·.1) → z ∈ ks.map (·.1) := fun z hz => by
    obtain ⟨w, hw, rfl⟩ := List.mem_map.mp hz
    obtain ⟨v', hv', _⟩ := h.wk w hw
    exact List.mem_map.mpr ⟨_, hv', rfl⟩
  refine ⟨nd2, fun q hq => ?_, List.mem_append_left _ h.st, ?_, fun z => ?_, List.mem_append_left _ h.pk, fun w hw => ?_, fun q u' hq hnw hne => ?_, fun f w => ⟨fun q hq => ?_, fun x hx => ?_⟩, fun t y' u' ht h1 h2 => ?_, ?_⟩
  · rcases List.mem_append.mp hq with z | z
    · exact h.rg q z
    · rw [List.mem_singleton.mp z]; exact ⟨⟨by_.1, by_.2.1⟩, bu.1, bu.2.1⟩
  · rw [List.map_append, List.map_singleton]
    exact snoc_nd.mpr ⟨fun z => hn (wsk _ z), h.wn⟩
  · rw [List.map_append, List.map_singleton] at z
    rcases List.mem_append.mp z with z | z
    · exact h.pn z
    · have e : p = y := List.mem_singleton.mp z
      exact hn (by rw [← e]; exact List.mem_map.mpr ⟨_, h.pk, rfl⟩)
  · rcases List.mem_append.mp hw with z | z
    · obtain ⟨v', a, b, c⟩ := h.wk w z
      exact ⟨v', List.mem_append_left _ a, b, c⟩
    · rw [List.mem_singleton.mp z]
      exact ⟨u, List.mem_append_right _ (List.mem_singleton.mpr rfl), by_.2.2.2, bu.2.2.2⟩
  · rw [List.map_append, List.map_singleton] at hnw
    rcases List.mem_append.mp hq with z | z
    · obtain ⟨c1, c2⟩ := h.cl q u' z (fun e => hnw (List.mem_append_left _ e)) hne
      refine ⟨fun x hx => ?_, ?_⟩
      · obtain ⟨w, hw⟩ := c1 x hx
        exact ⟨w, List.mem_append_left _ hw⟩
      · have e : (rowOf A q).map (nm (ks ++ [(y, u)])) = (rowOf A q).map (nm ks) := List.map_congr_left fun x hx => nm_snoc (c1 x hx) nd2
        rw [e]
        exact c2
    · have e := List.mem_singleton.mp z
      have e1 : q = y := congrArg Prod.fst e
      exact absurd (List.mem_append_right _ (List.mem_singleton.mpr e1)) hnw
  · rcases List.mem_append.mp hq with z | z
    · exact (h.un f w).1 q z
    · rw [List.mem_singleton.mp z]; exact uf f w
  · rcases List.mem_append.mp hx with z | z
    · exact (h.un f w).2 x z
    · rw [List.mem_singleton.mp z]; exact (h.un f w).1 _ h.pk
  · by_cases e : t = k
    · subst e
      rw [hy] at h1
      rw [hu] at h2
      cases h1
      cases h2
      exact List.mem_append_right _ (List.mem_singleton.mpr rfl)
    · exact List.mem_append_left _ (h.tk t y' u' (by omega) h1 h2)
  · rcases h.ini with z | z | z
    · exact .inl (List.mem_append_left _ z)
    · exact .inr (.inl (List.mem_append_left _ z))
    · exact .inr (.inr z)
theorem Ni.done (h : Ni A B first x0 second ks ws p v od gl od.length) (ho : RotEq od (rowOf A p)) (hg : RotEq gl (rowOf B v)) (hl : od.length = gl.length) : Nf A B first x0 second ks ws := by
  refine ⟨h.nd, h.rg, h.st, h.wn, h.wk, fun q u hq hn => ?_, h.un, ?_⟩
  rotate_left
  · rcases h.ini with z | z | z
    · exact .inl z
    · exact .inr z
    · exact .inr (h.tk 0 x0 second (List.getElem?_eq_some_iff.mp z.1).1 z.1 z.2)
  by_cases e : q = p
  · subst e
    obtain rfl := nm_uniq h.nd hq h.pk
    have all : ∀ y ∈ rowOf A q, ∃ u, (y, u) ∈ ks := fun y hy => by
      obtain ⟨t, ht, et⟩ := List.mem_iff_getElem.mp (ho.perm.mem_iff.mpr hy)
      exact ⟨gl[t]'(by omega), h.tk t y _ ht (by rw [List.getElem?_eq_getElem ht, et]) (List.getElem?_eq_getElem (by omega))⟩
    refine ⟨all, ?_⟩
    have em : od.map (nm ks) = gl := by
      refine List.ext_getElem (by rw [List.length_map]; exact hl) fun t h1 h2 => ?_
      rw [List.length_map] at h1
      rw [List.getElem_map]
      exact nm_at h.nd (h.tk t od[t] gl[t] h1 (List.getElem?_eq_getElem h1) (List.getElem?_eq_getElem h2))
    have r1 : RotEq ((rowOf A q).map (nm ks)) (od.map (nm ks)) := by
      rcases ho.symm with e | ⟨c, hc, e⟩
      · exact .inl (by rw [e])
      · exact .inr ⟨c, by rw [List.length_map]; exact hc, by rw [e, map_rotF]⟩
    rw [em] at r1
    exact r1.trans hg
  · exact h.cl q u hq hn e
theorem Nf.lay (mA : IsMap A) (hl : A.length = B.length) (n0 : 0 < A.length) (h : Nf A B first x0 second ks []) (hA : ∀ x : Int, 0 ≤ x → x < A.length → Reach A 0 x) : (∀ x : Int, 0 ≤ x → x < A.length → ∃ u, (x, u) ∈ ks) ∧ Lay A B (nm ks) := by
  have all : ∀ x, Reach A 0 x → ∃ u, (x, u) ∈ ks := by
    intro x r
    induction r with
    | here => exact ⟨_, h.st⟩
    | @step j l y rj e hy ih =>
      obtain ⟨u, hu⟩ := ih
      have er : rowOf A (j : Int) = l := by
        unfold rowOf
        rw [Int.toNat_natCast, List.getD_eq_getElem?_getD, e]
        rfl
      exact (h.cl j u hu (by simp)).1 y (by rw [er]; exact hy)
  refine ⟨fun x h0 h1 => all x (hA x h0 h1), hl, fun i i0 i1 => ?_, fun i i0 i1 => ?_⟩
  · obtain ⟨u, hu⟩ := all i (hA i i0 i1)
    rw [nm_at h.nd hu]
    exact (h.rg _ hu).2
  · obtain ⟨u, hu⟩ := all i (hA i i0 i1)
    rw [nm_at h.nd hu]
    exact (h.cl i u hu (by simp)).2
end
end Gm
end
section
set_option Elab.async false
set_option linter.all false
set_option maxRecDepth 100000
namespace Gm
open PySem L2
def kI (ks : List (Int × Int)) : List (Key × V) := ks.map fun p => ((Sum.inl p.1 : Key), V.int p.2)
abbrev WR (H : Hp) : List Addr → List Wait → Prop := Paired fun a w => H a = some (.tup [.int w.1, .int w.2.1, .int w.2.2])
theorem WR.keep {H H' : Hp} {as : List Addr} {ws : List Wait} (h : WR H as ws) (e : ∀ a o, (∃ w : Wait, H a = some (.tup [.int w.1, .int w.2.1, .int w.2.2])) → H a = some o → H' a = some o) : WR H' as ws := Paired.mapP h fun a w q => e a _ ⟨w, q⟩ q
theorem WR.last {H : Hp} {as : List Addr} {ws : List Wait} (h : WR H as ws) (hne : ws ≠ []) : ∃ as' a ws' w, as = as' ++ [a] ∧ ws = ws' ++ [w] ∧ WR H as' ws' ∧ H a = some (.tup [.int w.1, .int w.2.1, .int w.2.2]) := by
  induction h with
  | nil => exact absurd rfl hne
  | @cons a w as ws hw t ih =>
    by_cases e : ws = []
    · subst e
      cases t
      exact ⟨[], a, [], w, rfl, rfl, .nil, hw⟩
    · obtain ⟨as', a', ws', w', e1, e2, e3, e4⟩ := ih e
      exact ⟨a :: as', a', w :: ws', w', by rw [e1]; rfl, by rw [e2]; rfl, .cons hw e3, e4⟩
end Gm
end
section
set_option Elab.async false
set_option linter.all false
set_option maxRecDepth 100000
namespace L2
open PySem PySem.Spec PySem.W PySem.Calls PyProof.Rows Gm
section
variable {X : Cx} {l : Expr} {tl : TE} {p p2 pos pos2 : Pos}
def tListRng (tl : TE) : TE := fun σ H Q => tl σ H fun x H1 => ∃ n : Nat, x = .int (n : Int) ∧ n ≤ 1000 ∧ ∀ p, H1 p = none → Q (.ref p) (upd H1 p (.lst ((upto n).map V.int)))
theorem vals_upto {acc : Array Value} {n : Nat} (h : ItemsOf (fun i v => ∃ t, v = Value.int (0 + (i : Int) * 1) t) acc n) : Vals ((upto n).map V.int) acc.toList := by
  obtain ⟨hs, h⟩ := h
  have key : ∀ (l : List Value) (k : Nat), (∀ j v, l[j]? = some v → ∃ t, v = Value.int (((k + j : Nat) : Int)) t) → Vals (((List.range' k l.length).map fun i : Nat => (i : Int)).map V.int) l := by
    intro l
    induction l with
    | nil => intro k _; exact .nil
    | cons a l ih =>
      intro k hk
      rw [List.length_cons, List.range'_succ, List.map_cons, List.map_cons]
      refine .cons ?_ (ih (k + 1) fun j v e => ?_)
      · obtain ⟨t, e⟩ := hk 0 a rfl
        exact ⟨t, e⟩
      · obtain ⟨t, e'⟩ := hk (j + 1) v (by simpa using e)
        exact ⟨t, by rw [e']; congr 2; omega⟩
  have := key acc.toList 0 fun j v e => by
    obtain ⟨t, e'⟩ := h j v (by rw [← Array.getElem?_toList]; exact e)
    refine ⟨t, ?_⟩
    rw [e']
    congr 1
    omega
  rw [Array.length_toList, hs] at this
  unfold upto
  rw [List.range_eq_range']
  exact this
theorem pe_listrange (hc : X.calm = true) (hm : X.mg "range" = none) (hm2 : X.mg "list" = none) (ha : PE X l tl) (hg : Gl X "range" := by rfl) (hg2 : Gl X "list" := by rfl)
    (he : starEach [l] X.env = (false, eval l X.env) :: starEach [] X.env := by rfl)
    (he2 : starEach [.Call (.Name "range" p) [l] [] pos] X.env = (false, eval (.Call (.Name "range" p) [l] [] pos) X.env) :: starEach [] X.env := by rfl) :
    PE X (.Call (.Name "list" p2) [.Call (.Name "range" p) [l] [] pos] [] pos2) (tListRng tl) := by
  intro pins s σ H Q I h
  refine Call_ (ld_blt I hg2 hm2 boot_list' (PyProof.Rows.callWith_type1 ?_ he2 rfl))
  rw [he2]
  show wpAny _ _ (spliced ((false, eval (.Call (.Name "range" p) [l] [] pos) X.env) :: backTo pos2 (starEach [] X.env))) _ _ s
  refine Calls.spliced_cons ?_
  refine Call_ (ld_blt I hg hm boot_range (PyProof.Rows.callWith_type1 ?_ he rfl))
  rw [he]
  show wpAny _ _ (spliced ((false, eval l X.env) :: backTo pos (starEach [] X.env))) _ _ s
  refine Calls.spliced_cons (thn (ha pins s σ H _ I h) fun u1 s1 ⟨x, H1, I1, r1, q1⟩ => ?_)
  refine Calls.spliced_nil ?_
  obtain ⟨n, rfl, hn, q⟩ := q1
  obtain ⟨t, rfl⟩ := r1
  refine call_range_1 ?_
  refine Calls.spliced_nil ?_
  generalize hgen : s1.heap.push { cls := Value.type "range", data := Data.fields #[Value.int 0 s1.toks, Value.int (n : Int) t, Value.int 1 (s1.toks + 1)] } = h'
  have kp : ∀ c o, s1.heap.get? c = some o → h'.get? c = some o := fun c o e => hgen ▸ Heap.get?_push_of_some _ e
  have hz : IsRange h' s1.heap.objs.size 0 (n : Int) 1 s1.toks t (s1.toks + 1) := hgen ▸ IsRange.new ..
  have I2 : Inv X pins σ H1 { s1 with heap := h', toks := s1.toks + 1 + 1 } := I1.kept kp
  refine call_list_range (s := { s1 with heap := h', toks := s1.toks + 1 + 1 }) (n := n) (I2.ok.hd hc) hz (small_one (by omega) (by omega) (by omega) (by omega)) (by rw [rangeSize_one]; split <;> omega) (by omega) fun h3 tk acc c hk hS hit => ?_
  have I3 : Inv X pins σ (upd H1 h'.objs.size (.lst ((upto n).map V.int))) { s1 with heap := h3, toks := tk } := by
    refine Inv.turnedLay (s := { s1 with heap := h', toks := s1.toks + 1 + 1 }) (ch := []) I2 (fun b u _ e => hk b u e) (fun b hb => by simp at hb) (Nat.le_refl _) ?_
    exact ⟨by rw [List.length_map, upto_len, PySem.sizeLine_eq]; omega, acc.toList, c, vals_upto hit, by rw [Array.toArray_toList]; exact hS⟩
  exact ⟨.ref h'.objs.size, _, I3, rfl, q _ (I2.hok.fresh (Nat.le_refl _))⟩
end
section
variable {σ : St} {H : Hp} {Q : VK} {K : Frag}
theorem r_listrng {tl : TE} (h : tl σ H fun x H1 => ∃ n : Nat, x = .int (n : Int) ∧ n ≤ 1000 ∧ ∀ p, H1 p = none → Q (.ref p) (upd H1 p (.lst ((upto n).map V.int)))) : tListRng tl σ H Q := h
theorem r_slice {r : V → Option Int → Option Int → Hp → VK → Prop} {te : TE} {tl th : TO} (h : te σ H fun x H1 => tl σ H1 fun l H2 => th σ H2 fun u H3 => r x l u H3 Q) : tSl r te tl th σ H Q := h
theorem er_map (xs : List Int) (k : Nat) : (xs.map V.int).eraseIdx k = (xs.eraseIdx k).map V.int := by
  rw [List.eraseIdx_eq_take_drop_succ, List.eraseIdx_eq_take_drop_succ, List.map_append, List.map_take, List.map_drop]
theorem er_perm {xs : List Int} {k : Nat} {y : Int} (h : xs[k]? = some y) : (y :: xs.eraseIdx k).Perm xs := by
  obtain ⟨hl, e⟩ := List.getElem?_eq_some_iff.mp h
  rw [List.eraseIdx_eq_take_drop_succ]
  refine List.perm_middle.symm.trans ?_
  rw [← e, ← List.drop_eq_getElem_cons hl, List.take_append_drop]
theorem r_popAt {l : Addr} {xs : List Int} {k : Nat} {y : Int} (h : H l = some (.lst (xs.map V.int))) (hy : xs[k]? = some y) (hk : xs.length ≤ 1000) (q : Q (.int y) (upd H l (.lst ((xs.eraseIdx k).map V.int)))) : rPopAt (.ref l) [.int (k : Int)] H Q := by
  have hl := (List.getElem?_eq_some_iff.mp hy).1
  refine ⟨l, _, (k : Int), k, .int y, rfl, rfl, h, by omega, by omega, ?_, by rw [List.getElem?_map, hy]; rfl, ?_⟩
  · have := PySem.StrLaws.seqIndex_nonneg (i := (k : Int)) (n := (xs.map V.int).length) (by omega) (by rw [List.length_map]; omega)
    rwa [Int.toNat_natCast] at this
  · rw [er_map]
    exact q
end
end L2
end
section
set_option Elab.async false
set_option linter.all false
set_option maxRecDepth 100000
namespace Gm
open PySem L2
def lng (n : Nat) (l : List Int) : List (List Int) := ((upto n).filter fun x => !decide (x ∈ l)).map fun x => l ++ [x]
def allN (n : Nat) : Nat → List (List Int)
  | 0 => [[]]
  | k + 1 => (allN n k).flatMap (lng n)
theorem upto_lt (n : Nat) : (upto n).Pairwise (· < ·) := List.Pairwise.map _ (fun a b h => by omega) List.pairwise_lt_range
def nmF (l : List Int) (i : Int) : Int := l.getD i.toNat 0
theorem nmF_at {l : List Int} {k : Nat} {x : Int} (h : l[k]? = some x) : nmF l (k : Int) = x := by
  unfold nmF
  rw [Int.toNat_natCast, List.getD_eq_getElem?_getD, h]
  rfl
theorem nmF_get {l : List Int} {i : Int} (h0 : 0 ≤ i) (h1 : i < l.length) : l[i.toNat]? = some (nmF l i) := by
  have hl : i.toNat < l.length := by omega
  have := nmF_at (List.getElem?_eq_getElem hl)
  rw [Int.toNat_of_nonneg h0] at this
  rw [this]
  exact List.getElem?_eq_getElem hl
theorem ix_nmF {l : List Int} {x : Int} (h0 : 0 ≤ x) (h1 : x < l.length) : atI (l.map V.int) x = some (V.int (nmF l x)) := by
  have := atI_nat (xs := l.map V.int) (j := x.toNat) (v := V.int (nmF l x)) (by rw [List.getElem?_map, nmF_get h0 h1]; rfl)
  rwa [Int.toNat_of_nonneg h0] at this
theorem nmF_all {n : Nat} {f : Int → Int} {i : Int} (h0 : 0 ≤ i) (h1 : i < n) : nmF ((upto n).map f) i = f i := by
  have e : ((i.toNat : Nat) : Int) = i := Int.toNat_of_nonneg h0
  have hl : i.toNat < n := by omega
  have := nmF_at (l := (upto n).map f) (k := i.toNat) (x := f i) (by
    rw [List.getElem?_map]
    have : (upto n)[i.toNat]? = some i := by
      rw [List.getElem?_eq_getElem (by rw [upto_len]; exact hl)]
      unfold upto
      simp [e]
    rw [this]; rfl)
  rw [e] at this
  exact this
theorem Lay.congr {A B : List (List Int)} {f g : Int → Int} (h : Lay A B f) (mA : IsMap A) (e : ∀ i : Int, 0 ≤ i → i < A.length → f i = g i) : Lay A B g := by
  refine ⟨h.len, fun i i0 i1 => by rw [← e i i0 i1]; exact h.rg i i0 i1, fun i i0 i1 => ?_⟩
  have hr := h.row i i0 i1
  rw [← e i i0 i1]
  have : (rowOf A i).map g = (rowOf A i).map f := List.map_congr_left fun x hx => by
    have b := Dt.back (L := A) (d := (i, x)) ⟨i0, i1, hx⟩ mA
    exact (e x b.1 b.2.1).symm
  rw [this]
  exact hr
structure Nam (n : Nat) (l : List Int) : Prop where
  len : l.length = n
  nd : l.Nodup
  rg : ∀ x ∈ l, 0 ≤ x ∧ x < n
theorem Nam.all {n : Nat} {l : List Int} (h : Nam n l) {x : Int} (h0 : 0 ≤ x) (h1 : x < n) : x ∈ l := by
  refine Classical.byContradiction fun z => ?_
  have := len_range (n := n) (l := x :: l) (List.nodup_cons.mpr ⟨z, h.nd⟩) fun y hy => by
    rcases List.mem_cons.mp hy with rfl | hy
    · exact ⟨h0, h1⟩
    · exact h.rg y hy
  rw [List.length_cons, h.len] at this
  omega
theorem Nam.of_perm {n : Nat} {l : List Int} (h : l.Perm (upto n)) : Nam n l :=
  ⟨by rw [h.length_eq, upto_len], h.nodup_iff.mpr (upto_nd n), fun x hx => mem_upto.mp (h.mem_iff.mp hx)⟩
theorem Nam.rgF {n : Nat} {l : List Int} (h : Nam n l) {i : Int} (h0 : 0 ≤ i) (h1 : i < n) : 0 ≤ nmF l i ∧ nmF l i < n :=
  h.rg _ (List.mem_of_getElem? (nmF_get h0 (by rw [h.len]; exact h1)))
theorem Nam.inj {n : Nat} {l : List Int} (h : Nam n l) {i j : Int} (i0 : 0 ≤ i) (i1 : i < n) (j0 : 0 ≤ j) (j1 : j < n) (e : nmF l i = nmF l j) : i = j := by
  have a := nmF_get (l := l) i0 (by rw [h.len]; exact i1)
  have b := nmF_get (l := l) j0 (by rw [h.len]; exact j1)
  rw [e] at a
  obtain ⟨a1, a2⟩ := List.getElem?_eq_some_iff.mp a
  obtain ⟨b1, b2⟩ := List.getElem?_eq_some_iff.mp b
  have := (List.getElem_inj h.nd).mp (a2.trans b2.symm)
  omega
theorem Nam.onto {n : Nat} {l : List Int} (h : Nam n l) {x : Int} (h0 : 0 ≤ x) (h1 : x < n) : ∃ j : Int, 0 ≤ j ∧ j < n ∧ nmF l j = x := by
  obtain ⟨k, hk, e⟩ := List.mem_iff_getElem.mp (h.all h0 h1)
  exact ⟨(k : Int), by omega, by rw [h.len] at hk; omega, nmF_at (by rw [List.getElem?_eq_getElem hk, e])⟩
structure Ren (A : List (List Int)) (l : List Int) (R : List (List Int)) : Prop where
  len : R.length = A.length
  row : ∀ j : Int, 0 ≤ j → j < A.length → R[(nmF l j).toNat]? = some ((rowOf A j).map (nmF l))
theorem rowOf_nat {L : List (List Int)} {i : Nat} {l : List Int} (h : L[i]? = some l) : rowOf L (i : Int) = l := by
  unfold rowOf
  rw [Int.toNat_natCast, List.getD_eq_getElem?_getD, h]
  rfl
theorem Ren.lay {A B R : List (List Int)} {l : List Int} (h : Ren A l R) (n : Nam A.length l) (hl : A.length = B.length) :
    (∀ (i : Nat) (r b : List Int), R[i]? = some r → B[i]? = some b → RotEq r b) ↔ Lay A B (nmF l) := by
  constructor
  · intro q
    refine ⟨hl, fun i i0 i1 => by rw [← hl]; exact n.rgF i0 i1, fun i i0 i1 => ?_⟩
    have r := n.rgF i0 i1
    exact q _ _ _ (h.row i i0 i1) (rowOf_at r.1 (by rw [← hl]; exact r.2))
  · intro ly i r b hr hb
    have hi := (List.getElem?_eq_some_iff.mp hr).1
    rw [h.len] at hi
    obtain ⟨j, j0, j1, e⟩ := n.onto (x := (i : Int)) (by omega) (by omega)
    have h1 := h.row j j0 j1
    rw [e, Int.toNat_natCast, hr] at h1
    rw [Option.some.inj h1]
    have h2 := ly.row j j0 j1
    rw [e, rowOf_nat hb] at h2
    exact h2
theorem Ren.isMap {A R : List (List Int)} {l : List Int} (h : Ren A l R) (n : Nam A.length l) (m : IsMap A) : IsMap R := by
  have at_ : ∀ (i : Nat) (r : List Int), R[i]? = some r → ∃ j : Int, 0 ≤ j ∧ j < A.length ∧ nmF l j = i ∧ r = (rowOf A j).map (nmF l) := fun i r hr => by
    have hi := (List.getElem?_eq_some_iff.mp hr).1
    rw [h.len] at hi
    obtain ⟨j, j0, j1, e⟩ := n.onto (x := (i : Int)) (by omega) (by omega)
    have h1 := h.row j j0 j1
    rw [e, Int.toNat_natCast, hr] at h1
    exact ⟨j, j0, j1, e, Option.some.inj h1⟩
  have rg : ∀ {j x : Int}, 0 ≤ j → j < A.length → x ∈ rowOf A j → 0 ≤ x ∧ x < A.length ∧ x ≠ j ∧ j ∈ rowOf A x := fun {j x} j0 j1 hx => Dt.back (L := A) (d := (j, x)) ⟨j0, j1, hx⟩ m
  refine ⟨fun i r hr => ?_, fun i r hr y hy => ?_, fun i r hr y hy k ek m' hm' => ?_⟩
  · obtain ⟨j, j0, j1, e, rfl⟩ := at_ i r hr
    have nd := m.nd _ _ (rowOf_at j0 j1)
    have : ∀ l' : List Int, l'.Nodup → (∀ x ∈ l', 0 ≤ x ∧ x < A.length) → (l'.map (nmF l)).Nodup := by
      intro l'
      induction l' with
      | nil => intro _ _; exact List.nodup_nil
      | cons a l' ih =>
        intro nd' rg'
        rw [List.map_cons, List.nodup_cons]
        have nd2 := List.nodup_cons.mp nd'
        refine ⟨fun z => ?_, ih nd2.2 fun x hx => rg' x (List.mem_cons_of_mem _ hx)⟩
        obtain ⟨b, hb, eb⟩ := List.mem_map.mp z
        have ra := rg' a List.mem_cons_self
        have rb := rg' b (List.mem_cons_of_mem _ hb)
        exact nd2.1 (n.inj rb.1 rb.2 ra.1 ra.2 eb ▸ hb)
    exact this _ nd fun x hx => ⟨(rg j0 j1 hx).1, (rg j0 j1 hx).2.1⟩
  · obtain ⟨j, j0, j1, e, rfl⟩ := at_ i r hr
    obtain ⟨x, hx, rfl⟩ := List.mem_map.mp hy
    have rx := rg j0 j1 hx
    have r2 := n.rgF rx.1 rx.2.1
    exact ⟨r2.1, by rw [h.len]; exact r2.2, fun z => rx.2.2.1 (n.inj rx.1 rx.2.1 j0 j1 (z.trans e.symm))⟩
  · obtain ⟨j, j0, j1, e, rfl⟩ := at_ i r hr
    obtain ⟨x, hx, rfl⟩ := List.mem_map.mp hy
    have rx := rg j0 j1 hx
    have h1 := h.row x rx.1 rx.2.1
    rw [ek, Int.toNat_natCast, hm'] at h1
    rw [Option.some.inj h1]
    exact List.mem_map.mpr ⟨j, rx.2.2.2, e⟩
def Hang (L : List (List Int)) : Prop := ∀ x : Int, 0 ≤ x → x < L.length → Reach L 0 x
theorem Reach.sym {L : List (List Int)} {s x : Int} (h : Reach L s x) (m : IsMap L) (hs : 0 ≤ s ∧ s < L.length) : Reach L x s := by
  induction h with
  | here => exact .here
  | @step i l x r e hx ih =>
    have d := Reach.dart e hx
    have b := d.back m
    exact (Reach.one (d := (x, (i : Int))) .here ⟨b.1, b.2.1, b.2.2.2⟩).trans ih
theorem Hang.from {L : List (List Int)} (h : Hang L) (m : IsMap L) {s : Int} (s0 : 0 ≤ s) (s1 : s < L.length) : ∀ x : Int, 0 ≤ x → x < L.length → Reach L s x := fun x x0 x1 =>
  ((h s s0 s1).sym m ⟨Int.le_refl 0, by omega⟩).trans (h x x0 x1)
theorem Hang.of {L : List (List Int)} (m : IsMap L) {s : Int} (s0 : 0 ≤ s) (s1 : s < L.length) (h : ∀ x : Int, 0 ≤ x → x < L.length → Reach L s x) : Hang L := fun x x0 x1 =>
  ((h 0 (Int.le_refl 0) (by omega)).sym m ⟨s0, s1⟩).trans (h x x0 x1)
theorem Lay.reach {A B : List (List Int)} {f : Int → Int} (h : Lay A B f) (mA : IsMap A) (n0 : 0 < A.length) {x : Int} (r : Reach A 0 x) : Reach B (f 0) (f x) := by
  induction r with
  | here => exact .here
  | @step i l x r e hx ih =>
    have hi := (List.getElem?_eq_some_iff.mp e).1
    have rg := h.rg (i : Int) (by omega) (by omega)
    have er := rowOf_nat e
    refine Reach.one (d := (f (i : Int), f x)) ih ⟨rg.1, rg.2, ?_⟩
    exact (h.row (i : Int) (by omega) (by omega)).perm.mem_iff.mp (List.mem_map.mpr ⟨x, by rw [er]; exact hx, rfl⟩)
theorem Hang.lay {A B : List (List Int)} {f : Int → Int} (h : Hang A) (ly : Lay A B f) (mA : IsMap A) (mB : IsMap B) (n0 : 0 < A.length) (on : ∀ y : Int, 0 ≤ y → y < B.length → ∃ i : Int, 0 ≤ i ∧ i < A.length ∧ f i = y) : Hang B := by
  have r := ly.rg 0 (Int.le_refl 0) (by omega)
  refine Hang.of mB r.1 r.2 fun x x0 x1 => ?_
  obtain ⟨i, i0, i1, e⟩ := on x x0 x1
  rw [← e]
  exact ly.reach mA n0 (h i i0 i1)
theorem Hang.mir {L : List (List Int)} (h : Hang L) : Hang (mir L) := fun x x0 x1 => by
  rw [mir_len] at x1
  refine Reach.mono (fun d q => ⟨q.lo, by rw [mir_len]; exact q.hi, ?_⟩) (h x x0 x1)
  rw [rowOf_mir, List.mem_reverse]
  exact q.mem
def pathRow (n : Nat) (k : Nat) : List Int := [(k : Int) - 1, (k : Int) + 1].filter fun x => decide (0 ≤ x) && decide (x < n)
def path (n : Nat) : List (List Int) := (List.range n).map (pathRow n)
def dTwo (A B : List (List Int)) : PyData := .list [dGrid A, dGrid B]
end Gm
end
section
set_option Elab.async false
set_option linter.all false
set_option maxRecDepth 100000
namespace L2
open PySem PySem.Spec PySem.W PySem.Calls PyProof.Rows HT
section
open PySem.SeqAt
open PySem.AutoSeq1 (wpAny_loadPart')
open PySem.MeetsSeq PySem.MeetsSeq2 PySem.MeetsSeq3
end
section
variable {prog : Program} {w : World} {A : Around} {E : Value → Shared → Prop} {s : Shared} {l b : Addr} {us vs : Array Value} {ns ms : List Int}
end
def rGtL (K : Frag) : R2 := fun x y H Q => ∃ (a b : Addr) (ns ms : List Int), x = .ref a ∧ y = .ref b ∧ SqL K H a (ns.map V.int) ∧ SqL K H b (ms.map V.int) ∧ Q (.bl (lexLt ms ns)) H
end L2
end
section
set_option Elab.async false
set_option linter.all false
set_option maxRecDepth 100000
namespace L2
open PySem PySem.Spec PySem.W PySem.Calls PyProof.Rows Gm
section
variable {X : Cx}
def rJoin (K : Frag) : V → List V → Hp → VK → Prop := fun x vs H Q => ∃ (sep : Str) (a : Addr) (ts : List Str), x = .str sep ∧ vs = [.ref a] ∧ SqL K H a (ts.map V.str) ∧ JoinOk sep ts = true ∧ Q (.str (Str.join sep ts)) H
def rSplit : V → List V → Hp → VK → Prop := fun x vs H Q => ∃ (z y : Str), x = .str z ∧ vs = [.str y] ∧ (y.length == 0) = false ∧ z.length ≤ 1000000 ∧ (Builtin.Str.partsBetween z (Builtin.Str.occurrences z y 0 z.length (z.length + 1)) y.length).length ≤ sizeLine ∧
  ∀ p, H p = none → Q (.ref p) (upd H p (.lst ((Txt.split z y).map V.str)))
def tFmt (te : TE) (y : Str) : TE := fun σ H Q => te σ H fun x H1 => ∃ n : Int, x = .int n ∧ n.natAbs.log2 < 1920 ∧ ((toString n : String) : Str).length + y.length ≤ 1000000 ∧ Q (.str (((toString n : String) : Str) ++ y)) H1
end
def Its (x : Str) : It := ⟨fun i _ => i < x.cps.size, fun i H v H' => H' = H ∧ ∃ c, x.cps[i]? = some c ∧ v = .str ⟨#[c]⟩, fun i _ => x.cps.size ≤ i⟩
section
variable {X : Cx} {tg : Expr}
def iStr (tl : TE) : TI := fun σ H R => tl σ H fun x H1 => ∃ z : Str, x = .str z ∧ z.cps.all (· < 128) = true ∧ R (Its z) H1
end
section
variable {σ : St} {H : Hp} {Q : VK} {K : Frag}
end
end L2
end
section
set_option Elab.async false
set_option linter.all false
set_option maxRecDepth 100000
namespace Gm
open PySem L2
def jl (s : List Nat) : List (List Nat) → List Nat
  | [] => []
  | [a] => a
  | a :: b :: r => a ++ s ++ jl s (b :: r)
abbrev num (n : Int) : Str := ((toString n : String) : Str)
structure Num (x : Str) : Prop where
  l1 : 1 ≤ x.length
  l2 : x.length ≤ 2
  dg : ∀ c ∈ x.cps.toList, 48 ≤ c ∧ c ≤ 57
  hd : x = ((("0" : String)) : Str) ∨ ∃ c, x.cps[0]? = some c ∧ c ≠ 48
theorem num_ok {n : Int} (h0 : 0 ≤ n) (h1 : n < 14) : Num (num n) := by
  have : n = 0 ∨ n = 1 ∨ n = 2 ∨ n = 3 ∨ n = 4 ∨ n = 5 ∨ n = 6 ∨ n = 7 ∨ n = 8 ∨ n = 9 ∨ n = 10 ∨ n = 11 ∨ n = 12 ∨ n = 13 := by omega
  rcases this with rfl | rfl | rfl | rfl | rfl | rfl | rfl | rfl | rfl | rfl | rfl | rfl | rfl | rfl
  · exact ⟨by decide +kernel, by decide +kernel, by decide +kernel, .inl (by decide +kernel)⟩
  all_goals first
    | exact ⟨by decide +kernel, by decide +kernel, by decide +kernel, .inr ⟨49, by decide +kernel, by decide⟩⟩
    | exact ⟨by decide +kernel, by decide +kernel, by decide +kernel, .inr ⟨50, by decide +kernel, by decide⟩⟩
    | exact ⟨by decide +kernel, by decide +kernel, by decide +kernel, .inr ⟨51, by decide +kernel, by decide⟩⟩
    | exact ⟨by decide +kernel, by decide +kernel, by decide +kernel, .inr ⟨52, by decide +kernel, by decide⟩⟩
    | exact ⟨by decide +kernel, by decide +kernel, by decide +kernel, .inr ⟨53, by decide +kernel, by decide⟩⟩
    | exact ⟨by decide +kernel, by decide +kernel, by decide +kernel, .inr ⟨54, by decide +kernel, by decide⟩⟩
    | exact ⟨by decide +kernel, by decide +kernel, by decide +kernel, .inr ⟨55, by decide +kernel, by decide⟩⟩
    | exact ⟨by decide +kernel, by decide +kernel, by decide +kernel, .inr ⟨56, by decide +kernel, by decide⟩⟩
    | exact ⟨by decide +kernel, by decide +kernel, by decide +kernel, .inr ⟨57, by decide +kernel, by decide⟩⟩
end Gm
end
section
set_option Elab.async false
set_option linter.all false
set_option maxRecDepth 100000
namespace Gm
open PySem L2
theorem fst_inj {c : List Dart} (h : (c.map (·.1)).Nodup) {d e : Dart} (hd : d ∈ c) (he : e ∈ c) (q : d.1 = e.1) : d = e := by
  obtain ⟨i, hi, rfl⟩ := List.mem_iff_getElem.mp hd
  obtain ⟨j, hj, rfl⟩ := List.mem_iff_getElem.mp he
  have : i = j := (List.getElem_inj (h₀ := by rw [List.length_map]; exact hi) (h₁ := by rw [List.length_map]; exact hj) h).mp (by rw [List.getElem_map, List.getElem_map]; exact q)
  subst this
  rfl
theorem Wk.hold {f : Dart → Dart} {P : Dart → Prop} {x y : Dart} {l : List Dart} (k : Wk f x l y) (h0 : P x) (hs : ∀ d, d ∈ l → P d → P (f d)) : ∀ e ∈ l, P e := by
  induction k with
  | nil _ => intro e he; cases he
  | @cons x y l k ih =>
    intro e he
    rcases List.mem_cons.mp he with z | z
    · rw [z]; exact h0
    · exact ih (hs x List.mem_cons_self h0) (fun d hd => hs d (List.mem_cons_of_mem _ hd)) e z
theorem Cyc.all {f : Dart → Dart} {c : List Dart} {P : Dart → Prop} (h : Cyc f c) {d : Dart} (hd : d ∈ c) (h0 : P d) (hs : ∀ e, e ∈ c → P e → P (f e)) : ∀ e ∈ c, P e := by
  obtain ⟨v, pv, k⟩ := h.turn hd
  intro e he
  rcases List.mem_cons.mp (pv.mem_iff.mpr he) with z | z
  · rw [z]; exact h0
  · exact k.hold (hs d hd h0) (fun x hx => hs x (pv.mem_iff.mp (List.mem_cons_of_mem _ hx))) e z
def Smp (L : List (List Int)) : Prop := ∀ d, Dt L d → ∃ c, d ∈ c ∧ Cyc (nx L) c ∧ (c.map (·.1)).Nodup
theorem Smp.apart {L : List (List Int)} (s : Smp L) (st : Sheet L) (h3 : 3 ≤ L.length) {R : List (List Dart)} (D : Dec L R) {a b : Int} (h : Dt L (a, b)) {c : List Dart} (hc : c ∈ R) (h1 : (a, b) ∈ c) : (b, a) ∉ c := by
  intro h2
  obtain ⟨c', hc', cy', nd⟩ := s _ h
  have Cc := D.cyc c hc
  have b1 : (b, a) ∈ c' := Cc.all (P := fun d => d ∈ c') h1 hc' (fun e _ he => cy'.on he) _ h2
  have e1 : nx L (a, b) = (b, a) := fst_inj nd (cy'.on hc') b1 rfl
  have e2 : nx L (b, a) = (a, b) := fst_inj nd (cy'.on b1) hc' rfl
  have all := Cc.all (P := fun d => d = (a, b) ∨ d = (b, a)) h1 (.inl rfl) fun e _ he => by
    rcases he with rfl | rfl
    · exact .inr e1
    · exact .inl e2
  have cn : c.Nodup := (List.pairwise_flatten.mp D.nd).1 c hc
  have := len_le (r := [(a, b), (b, a)]) cn fun x hx => by
    rcases all x hx with z | z <;> simp [z]
  have := st.three h3 D hc
  simp at *
  omega
theorem Smp.out {L : List (List Int)} (s : Smp L) (st : Sheet L) (h3 : 3 ≤ L.length) {a b : Int} (h : Dt L (a, b)) : Sheet (rem L a b) := by
  obtain ⟨R, D⟩ := exists_dec st.map
  obtain ⟨c, hc, hd⟩ := List.mem_flatten.mp ((D.mem _).mpr h)
  exact st.out D h hc hd (s.apart st h3 D h hc hd)
def seg (r : List Int) (s m : Nat) : List Dart := (List.range m).map fun t => dj r (s + t)
theorem seg_succ (r : List Int) (s m : Nat) : seg r s (m + 1) = seg r s m ++ [dj r (s + m)] := by
  unfold seg; rw [List.range_succ, List.map_append]; rfl
theorem mem_seg {r : List Int} {s m : Nat} {d : Dart} : d ∈ seg r s m ↔ ∃ t, t < m ∧ d = dj r (s + t) := by
  unfold seg
  rw [List.mem_map]
  constructor
  · rintro ⟨t, ht, e⟩; exact ⟨t, List.mem_range.mp ht, e.symm⟩
  · rintro ⟨t, ht, e⟩; exact ⟨t, List.mem_range.mpr ht, e.symm⟩
theorem seg_walk {f : Dart → Dart} {r : List Int} {s : Nat} : ∀ {m : Nat}, (∀ t, t + 1 < m + 1 → f (dj r (s + t)) = dj r (s + t + 1)) → Wk f (dj r s) (seg r s m) (dj r (s + m))
  | 0, _ => .nil _
  | m + 1, h => by
    rw [seg_succ]
    refine (seg_walk (m := m) fun t ht => h t (by omega)).append ?_
    refine .cons ?_
    rw [h m (by omega)]
    exact .nil _
theorem seg_to {f : Dart → Dart} {r : List Int} {s m : Nat} {y : Dart} (m0 : 0 < m) (h : ∀ t, t + 1 < m → f (dj r (s + t)) = dj r (s + t + 1)) (e : f (dj r (s + (m - 1))) = y) : Wk f (dj r s) (seg r s m) y := by
  obtain ⟨k, rfl⟩ : ∃ k, m = k + 1 := ⟨m - 1, by omega⟩
  rw [seg_succ]
  refine (seg_walk (m := k) fun t ht => h t (by omega)).append (.cons ?_)
  rw [Nat.add_sub_cancel] at e
  rw [e]
  exact .nil _
theorem cy_win {r : List Int} (n : r.Nodup) {i j : Nat} (h : i < j) (h2 : j < i + r.length) : cy r i ≠ cy r j := by
  intro z
  have r0 : 0 < r.length := by omega
  have m1 := Nat.mod_lt i r0
  have m2 := Nat.mod_lt j r0
  have e1 : cy r i = r[i % r.length] := by rw [← cy_lt m1]; exact cy_mod (by rw [Nat.mod_mod])
  have e2 : cy r j = r[j % r.length] := by rw [← cy_lt m2]; exact cy_mod (by rw [Nat.mod_mod])
  rw [e1, e2] at z
  have e3 := (List.getElem_inj n).mp z
  have := Nat.div_add_mod i r.length
  have := Nat.div_add_mod j r.length
  have a : r.length * (i / r.length) < r.length * (j / r.length) := by omega
  have b : i / r.length + 1 ≤ j / r.length := Nat.lt_of_mul_lt_mul_left a
  have c := Nat.mul_le_mul_left r.length b
  rw [Nat.mul_add, Nat.mul_one] at c
  omega
theorem win_nd {r : List Int} (n : r.Nodup) (s : Nat) : ∀ {m : Nat}, m ≤ r.length → ((List.range m).map fun t => cy r (s + t)).Nodup := fun {m} hm => by
  refine List.Pairwise.map _ (R := fun a b => a < b ∧ b < m) (fun a b h => ?_) ?_
  · exact cy_win n (by omega) (by omega)
  · refine List.Pairwise.imp_of_mem (fun {a b} ha hb h => ⟨h, List.mem_range.mp hb⟩) List.pairwise_lt_range
theorem seg_fst (r : List Int) (s m : Nat) : (seg r s m).map (·.1) = (List.range m).map fun t => cy r (s + t) := by
  unfold seg
  rw [List.map_map]
  rfl
theorem seg_nd {r : List Int} (n : r.Nodup) {s m : Nat} (h : m + 1 ≤ r.length) : (cy r (s + m) :: (seg r s m).map (·.1)).Nodup := by
  have := win_nd n s h
  rw [List.range_succ, List.map_append, List.map_singleton] at this
  rw [seg_fst]
  exact (List.perm_append_singleton _ _).nodup_iff.mp this
theorem seg_at {r : List Int} {s t : Nat} (h0 : 0 < r.length) : ∃ u, u < r.length ∧ dj r t = dj r (s + u) := by
  refine ⟨(t + s * r.length - s) % r.length, Nat.mod_lt _ h0, dj_mod ?_⟩
  have e : s ≤ s * r.length := Nat.le_mul_of_pos_right s h0
  rw [Nat.add_mod_mod, show s + (t + s * r.length - s) = t + s * r.length by omega, Nat.add_mul_mod_self_right]
end Gm
end
section
set_option Elab.async false
set_option linter.all false
set_option maxRecDepth 100000
namespace Gm
open PySem L2
section
variable {L : List (List Int)} {a b : Int} {A B : List Int}
theorem Fresh2.nxs (F : Fresh2 L a b A B) {z1 z2 : Int} (h1 : z1 ∈ rowOf L a) (h2 : z2 ∈ rowOf L b) (f1 : pre A z1 = b) (f2 : pre B z2 = a) :
    nx (both L a b A B) (z1, a) = (a, b) ∧ nx (both L a b A B) (z2, b) = (b, a) ∧ nx (both L a b A B) (a, b) = nx L (z2, b) ∧ nx (both L a b A B) (b, a) = nx L (z1, a) ∧
    ∀ d, Dt L d → d ≠ (z1, a) → d ≠ (z2, b) → nx (both L a b A B) d = nx L d := by
  obtain ⟨c0, c1, c2, c3⟩ := Dt.back (d := (a, z1)) ⟨F.a0, F.a1, h1⟩ F.map
  obtain ⟨e0, e1, e2, e3⟩ := Dt.back (d := (b, z2)) ⟨F.b0, F.b1, h2⟩ F.map
  have d1 : Dt L (z1, a) := ⟨c0, c1, c3⟩
  have d2 : Dt L (z2, b) := ⟨e0, e1, e3⟩
  have n1 : nx (both L a b A B) (z1, a) = (a, b) := by
    unfold nx; dsimp only; rw [F.row F.a0, if_neg F.ne, if_pos rfl, f1]
  have n2 : nx (both L a b A B) (z2, b) = (b, a) := by
    unfold nx; dsimp only; rw [F.row F.b0, if_pos rfl, f2]
  have rn : ∀ d, Dt L d → nx L d = if nx (both L a b A B) d = (b, a) then nx (both L a b A B) (a, b) else if nx (both L a b A B) d = (a, b) then nx (both L a b A B) (b, a) else nx (both L a b A B) d := fun d hd => by
    have := rem_nx F.isMap F.dt (d := d) (by rw [F.rem]; exact hd)
    rwa [F.rem] at this
  refine ⟨n1, n2, ?_, ?_, fun d hd q1 q2 => ?_⟩
  · have := rn _ d2
    rw [if_pos n2] at this
    exact this.symm
  · have := rn _ d1
    rw [n1, if_neg (fun z => F.ne (congrArg Prod.fst z)), if_pos rfl] at this
    exact this.symm
  · have := rn d hd
    rw [if_neg (fun z => q2 (nx_inj F.isMap (F.sub _ hd) (F.sub _ d2) (z.trans n2.symm))), if_neg (fun z => q1 (nx_inj F.isMap (F.sub _ hd) (F.sub _ d1) (z.trans n1.symm)))] at this
    exact this.symm
theorem Fresh2.dts (F : Fresh2 L a b A B) {d : Dart} (h : Dt (both L a b A B) d) : Dt L d ∨ d = (a, b) ∨ d = (b, a) := by
  rcases (F.mem h.lo).mp h.mem with z | ⟨z, y⟩ | ⟨z, y⟩
  · exact .inl ⟨h.lo, by have := h.hi; rwa [both_len] at this, z⟩
  · exact .inr (.inl (Prod.ext z y))
  · exact .inr (.inr (Prod.ext z y))
end
theorem Cyc.keep {f g : Dart → Dart} {c : List Dart} (h : Cyc f c) (e : ∀ d ∈ c, g d = f d) : Cyc g c := by
  obtain ⟨x, l, rfl, k⟩ := h
  exact ⟨x, l, rfl, k.congr e⟩
section
variable {L N : List (List Int)} {r : List Int}
def Big (r : List Int) (n c1 cj : Nat) (d : Dart) : Prop := (∃ i, cj ≤ i ∧ i < c1 + r.length ∧ d = dj r i) ∨ d = (cy r c1, (n : Int)) ∨ d = ((n : Int), cy r cj)
def PlS (L : List (List Int)) (r : List Int) (c1 cj : Nat) (M : List (List Int)) : Prop := ∀ d, Dt M d → Big r L.length c1 cj d ∨ ∃ c, d ∈ c ∧ Cyc (nx M) c ∧ (c.map (·.1)).Nodup
theorem PlS.first (st : Sheet L) (s : Smp L) (g : Good L r) (nd : (sh 0 r).Nodup) {c : Nat} (hc : c < r.length)
    (F : Fresh2 (lone L) (cy r c) (L.length : Int) (put (rowOf L (cy r c)) ((rowOf L (cy r c)).idxOf (cy r (c + (r.length - 1)))) L.length) [cy r c])
    (p : Pl L r c c [c] (both (lone L) (cy r c) (L.length : Int) (put (rowOf L (cy r c)) ((rowOf L (cy r c)).idxOf (cy r (c + (r.length - 1)))) L.length) [cy r c])) :
    PlS L r c c (both (lone L) (cy r c) (L.length : Int) (put (rowOf L (cy r c)) ((rowOf L (cy r c)).idxOf (cy r (c + (r.length - 1)))) L.length) [cy r c]) := by
  generalize hM : both (lone L) (cy r c) (L.length : Int) (put (rowOf L (cy r c)) ((rowOf L (cy r c)).idxOf (cy r (c + (r.length - 1)))) L.length) [cy r c] = M at p ⊢
  have FM : IsMap M := hM ▸ F.isMap
  have Fd : Dt M (cy r c, (L.length : Int)) := hM ▸ F.dt
  have Fr : rem M (cy r c) (L.length : Int) = lone L := hM ▸ F.rem
  have x1 : cy r c < L.length := (corner_in g st.map (c := c)).2.2.1
  have xn : cy r c ≠ (L.length : Int) := by omega
  have old : ∀ d, Dt L d → (∀ t, d ≠ dj r t) → nx M d = nx L d := fun d h q => by
    have h0 := rem_nx FM Fd (d := d) (by rw [Fr]; exact lone_dt.mpr h)
    rw [Fr, lone_nx st.map h] at h0
    have dm := p.sub d h
    have d1 := p.sub _ (g.dt (c + (r.length - 1)))
    have n1 : nx M d ≠ (cy r c, (L.length : Int)) := fun z => q _ (nx_inj FM dm d1 (z.trans p.i2.symm))
    have n2 : nx M d ≠ ((L.length : Int), cy r c) := fun z => by
      have e := nx_inj FM dm Fd (z.trans p.i3.symm)
      have := (h.back st.map).2.1
      rw [e] at this
      simp at this
    rw [if_neg n2, if_neg n1] at h0
    exact h0.symm
  intro d h
  have : Dt L d ∨ d = (cy r c, (L.length : Int)) ∨ d = ((L.length : Int), cy r c) := by
    rcases F.dts (hM ▸ h) with z | z | z
    · exact .inl (lone_dt.mp z)
    · exact .inr (.inl z)
    · exact .inr (.inr z)
  rcases this with z | z | z
  · by_cases q : ∃ t, d = dj r t
    · obtain ⟨t, rfl⟩ := q
      obtain ⟨u, hu, e⟩ := seg_at (r := r) (s := c) (t := t) (by omega)
      exact .inl (.inl ⟨c + u, by omega, by omega, e⟩)
    · right
      obtain ⟨k, hk, cc, nc⟩ := s d z
      have dtc : ∀ e ∈ k, Dt L e := cc.all (P := fun e => Dt L e) hk z fun e _ he => he.nx st.map
      have no : ∀ e ∈ k, ∀ t, e ≠ dj r t := fun e he t w => q (cc.all (P := fun e => ∃ t, e = dj r t) he ⟨t, w⟩ (fun x _ ⟨t, hx⟩ => ⟨t + 1, by rw [hx, g.st]⟩) d hk)
      exact ⟨k, hk, cc.keep fun e he => old e (dtc e he) (no e he), nc⟩
  · exact .inl (.inr (.inl z))
  · exact .inl (.inr (.inr z))
theorem cy_rg (g : Good L r) (i : Nat) : cy r i < L.length := (g.dt i).hi
theorem PlS.next {M : List (List Int)} {c1 cj c : Nat} {dn : List Nat} (st : Sheet L) (g : Good L r) (nr : r.Nodup) (nd : (Gm.sh 0 r).Nodup) (p : Pl L r c1 cj dn M) (s : PlS L r c1 cj M) (hc : cj < c) (hc2 : c < r.length)
    (F : Fresh2 M (cy r c) (L.length : Int) (put (rowOf L (cy r c)) ((rowOf L (cy r c)).idxOf (cy r (c + (r.length - 1)))) L.length) (rowOf M (L.length : Int) ++ [cy r c])) (un : ∀ e ∈ dn, cy r e ≠ cy r c) :
    PlS L r c1 c (both M (cy r c) (L.length : Int) (put (rowOf L (cy r c)) ((rowOf L (cy r c)).idxOf (cy r (c + (r.length - 1)))) L.length) (rowOf M (L.length : Int) ++ [cy r c])) := by
  have le := p.le
  obtain ⟨z1, x0, x1, ed⟩ := corner_in g st.map (c := c)
  have rx := p.keep (cy r c) x0 x1 un
  have nn := near_n st.map x0 x1
  obtain ⟨rest, hdn⟩ := p.hd
  have rown : rowOf M (L.length : Int) = cy r c1 :: rest.map (cy r) := by rw [p.new, hdn]; rfl
  have f1' : pre (put (rowOf L (cy r c)) ((rowOf L (cy r c)).idxOf (cy r (c + (r.length - 1)))) L.length) (cy r (c + (r.length - 1))) = (L.length : Int) := pre_put z1 nn
  have f2' : pre (rowOf M (L.length : Int) ++ [cy r c]) (cy r c1) = cy r c := by rw [rown]; exact pre_snoc
  obtain ⟨m1, m2, m3, m4, m5⟩ := F.nxs (z1 := cy r (c + (r.length - 1))) (z2 := cy r c1) (by rw [rx]; exact z1) (by rw [rown]; exact List.mem_cons_self) f1' f2'
  have dts := fun d => F.dts (d := d)
  have e1 : dj r (c + (r.length - 1)) = dj r (c - 1) := dj_mod (by rw [show c + (r.length - 1) = c - 1 + r.length by omega, Nat.add_mod_right])
  rw [← ed, e1] at m1 m4 m5
  rw [p.i3] at m3
  rw [p.i1 (c - 1) (by omega) (by omega), show c - 1 + 1 = c by omega] at m4
  generalize both M (cy r c) (L.length : Int) (put (rowOf L (cy r c)) ((rowOf L (cy r c)).idxOf (cy r (c + (r.length - 1)))) L.length) (rowOf M (L.length : Int) ++ [cy r c]) = N at m1 m2 m3 m4 m5 dts ⊢
  have sub := p.sub
  have n4 : nx N ((L.length : Int), cy r cj) = dj r cj := by
    rw [m5 _ ?_ (fun z => ?_) (fun z => ?_), p.i4]
    · have := (p.sh.map |> fun m => (Dt.nx (L := M) (d := (cy r c1, (L.length : Int))) ?_ m))
      · rw [p.i3] at this; exact this
      · have := Dt.back (d := ((L.length : Int), cy r c1)) ⟨by simp, by rw [p.len]; simp; omega, by rw [rown]; exact List.mem_cons_self⟩ p.sh.map
        exact ⟨this.1, this.2.1, this.2.2.2⟩
    · have := congrArg Prod.fst z
      have q : (L.length : Int) = cy r (c - 1) := this
      have := cy_rg g (c - 1)
      omega
    · have := congrArg Prod.fst z
      have q : (L.length : Int) = cy r c1 := this
      have := cy_rg g c1
      omega
  have R : Cyc (nx N) ((cy r c, (L.length : Int)) :: ((L.length : Int), cy r cj) :: seg r cj (c - cj)) := by
    refine ⟨_, _, rfl, .cons ?_⟩
    rw [m3]
    refine .cons ?_
    rw [n4]
    refine seg_to (by omega) (fun t ht => ?_) ?_
    · rw [m5 _ (sub _ (g.dt _)) (dj_ne nd (by omega) (by omega)) (fun z => ?_), p.i1 _ (by omega) (by omega)]
      have q := (g.dt (cj + t)).back st.map
      rw [z] at q
      simp at q
    · rw [show cj + (c - cj - 1) = c - 1 by omega, m1]
  have S : (((cy r c, (L.length : Int)) :: ((L.length : Int), cy r cj) :: seg r cj (c - cj)).map (·.1)).Nodup := by
    have a := seg_nd nr (s := cj) (m := c - cj) (by omega)
    rw [show cj + (c - cj) = c by omega, List.nodup_cons] at a
    have ln : ∀ x ∈ (seg r cj (c - cj)).map (·.1), x ≠ (L.length : Int) := fun x hx => by
      obtain ⟨d, hd, rfl⟩ := List.mem_map.mp hx
      obtain ⟨t, _, rfl⟩ := mem_seg.mp hd
      have : cy r (cj + t) < L.length := cy_rg g _
      show cy r (cj + t) ≠ _
      omega
    rw [List.map_cons, List.map_cons, List.nodup_cons, List.nodup_cons]
    refine ⟨fun z => ?_, fun z => ln _ z rfl, a.2⟩
    rcases List.mem_cons.mp z with z | z
    · have z' : cy r c = (L.length : Int) := z
      omega
    · exact a.1 z
  intro d h
  by_cases q : Big r L.length c1 cj d
  · rcases q with ⟨i, i0, i1, rfl⟩ | rfl | rfl
    · by_cases z : i < c
      · exact .inr ⟨_, List.mem_cons_of_mem _ (List.mem_cons_of_mem _ (mem_seg.mpr ⟨i - cj, by omega, by rw [show cj + (i - cj) = i by omega]⟩)), R, S⟩
      · exact .inl (.inl ⟨i, by omega, i1, rfl⟩)
    · exact .inl (.inr (.inl rfl))
    · exact .inr ⟨_, List.mem_cons_of_mem _ List.mem_cons_self, R, S⟩
  · rcases dts d h with z | z | z
    · rcases s d z with w | ⟨k, hk, cc, nc⟩
      · exact absurd w q
      · right
        have dtc : ∀ e ∈ k, Dt M e := cc.all (P := fun e => Dt M e) hk z fun e _ he => he.nx p.sh.map
        have no : ∀ e ∈ k, ¬ Big r L.length c1 cj e := fun e he w => q (cc.all (P := fun e => Big r L.length c1 cj e) he w (fun x _ hx => by
          rcases hx with ⟨i, i0, i1, rfl⟩ | rfl | rfl
          · by_cases y : i + 1 < c1 + r.length
            · rw [p.i1 i i0 y]; exact .inl ⟨i + 1, by omega, y, rfl⟩
            · rw [show i = c1 + (r.length - 1) by omega, p.i2]; exact .inr (.inl rfl)
          · rw [p.i3]; exact .inr (.inr rfl)
          · rw [p.i4]; exact .inl ⟨cj, Nat.le_refl _, by omega, rfl⟩) d hk)
        exact ⟨k, hk, cc.keep fun e he => m5 e (dtc e he) (fun z => no e he (.inl ⟨c - 1, by omega, by omega, z⟩)) (fun z => no e he (.inr (.inl z))), nc⟩
    · exact .inr ⟨_, by rw [z]; exact List.mem_cons_self, R, S⟩
    · exact .inl (.inr (.inr z))
theorem PlS.done {M : List (List Int)} {c1 cj : Nat} {dn : List Nat} (g : Good L r) (nr : r.Nodup) (p : Pl L r c1 cj dn M) (s : PlS L r c1 cj M) (h : c1 < cj) : Smp M := by
  have top := p.top
  have R : Cyc (nx M) ((cy r c1, (L.length : Int)) :: ((L.length : Int), cy r cj) :: seg r cj (c1 + r.length - cj)) := by
    refine ⟨_, _, rfl, .cons ?_⟩
    rw [p.i3]
    refine .cons ?_
    rw [p.i4]
    refine seg_to (by omega) (fun t ht => p.i1 _ (by omega) (by omega)) ?_
    rw [show cj + (c1 + r.length - cj - 1) = c1 + (r.length - 1) by omega, p.i2]
  have S : (((cy r c1, (L.length : Int)) :: ((L.length : Int), cy r cj) :: seg r cj (c1 + r.length - cj)).map (·.1)).Nodup := by
    have a := seg_nd nr (s := cj) (m := c1 + r.length - cj) (by omega)
    have e : cy r (cj + (c1 + r.length - cj)) = cy r c1 := cy_mod (by rw [show cj + (c1 + r.length - cj) = c1 + r.length by omega, Nat.add_mod_right])
    rw [e, List.nodup_cons] at a
    have ln : ∀ x ∈ (seg r cj (c1 + r.length - cj)).map (·.1), x ≠ (L.length : Int) := fun x hx => by
      obtain ⟨d, hd, rfl⟩ := List.mem_map.mp hx
      obtain ⟨t, _, rfl⟩ := mem_seg.mp hd
      have : cy r (cj + t) < L.length := cy_rg g _
      show cy r (cj + t) ≠ _
      omega
    rw [List.map_cons, List.map_cons, List.nodup_cons, List.nodup_cons]
    refine ⟨fun z => ?_, fun z => ln _ z rfl, a.2⟩
    rcases List.mem_cons.mp z with z | z
    · have z' : cy r c1 = (L.length : Int) := z
      have := cy_rg g c1
      omega
    · exact a.1 z
  intro d hd
  rcases s d hd with (⟨i, i0, i1, rfl⟩ | rfl | rfl) | w
  · exact ⟨_, List.mem_cons_of_mem _ (List.mem_cons_of_mem _ (mem_seg.mpr ⟨i - cj, by omega, by rw [show cj + (i - cj) = i by omega]⟩)), R, S⟩
  · exact ⟨_, List.mem_cons_self, R, S⟩
  · exact ⟨_, List.mem_cons_of_mem _ List.mem_cons_self, R, S⟩
  · exact w
end
end Gm
end
section
set_option Elab.async false
set_option linter.all false
set_option maxRecDepth 100000
namespace Gm
open PySem L2
theorem RotEq.map {a b : List Int} (h : RotEq a b) (f : Int → Int) : RotEq (a.map f) (b.map f) := by
  rcases h with rfl | ⟨c, hc, rfl⟩
  · exact .inl rfl
  · exact .inr ⟨c, by rw [List.length_map]; exact hc, by unfold rot; rw [List.map_append, List.map_drop, List.map_take]⟩
theorem Lay.back {A B : List (List Int)} {f : Int → Int} (h : Lay A B f) (mA : IsMap A) (mB : IsMap B) (n0 : 0 < A.length) (hB : Hang B) : ∃ g, Lay B A g := by
  have r0 := h.rg 0 (Int.le_refl 0) (by omega)
  have on := h.onto mA mB n0 (hB.from mB r0.1 r0.2)
  have nd := h.nodup mA mB n0 (hB.from mB r0.1 r0.2)
  have inj : ∀ i j : Int, 0 ≤ i → i < A.length → 0 ≤ j → j < A.length → f i = f j → i = j := fun i j i0 i1 j0 j1 e => by
    have nam : Nam A.length ((upto A.length).map f) := ⟨by rw [List.length_map, upto_len], nd, fun x hx => by
      obtain ⟨k, hk, rfl⟩ := List.mem_map.mp hx
      have rk := mem_upto.mp hk
      rw [h.len]
      exact h.rg k rk.1 rk.2⟩
    exact nam.inj i0 i1 j0 j1 (by rw [nmF_all i0 i1, nmF_all j0 j1]; exact e)
  have ex : ∀ y : Int, ∃ i : Int, 0 ≤ y → y < B.length → 0 ≤ i ∧ i < A.length ∧ f i = y := fun y => by
    by_cases q : 0 ≤ y ∧ y < B.length
    · obtain ⟨i, hi⟩ := on y q.1 q.2
      exact ⟨i, fun _ _ => hi⟩
    · exact ⟨0, fun a b => absurd ⟨a, b⟩ q⟩
  let g : Int → Int := fun y => Classical.choose (ex y)
  have hg : ∀ y : Int, 0 ≤ y → y < B.length → 0 ≤ g y ∧ g y < A.length ∧ f (g y) = y := fun y => Classical.choose_spec (ex y)
  have gf : ∀ i : Int, 0 ≤ i → i < A.length → g (f i) = i := fun i i0 i1 => by
    have r := h.rg i i0 i1
    have q := hg _ r.1 r.2
    exact inj _ _ q.1 q.2.1 i0 i1 q.2.2
  refine ⟨g, h.len.symm, fun y y0 y1 => ⟨(hg y y0 y1).1, (hg y y0 y1).2.1⟩, fun y y0 y1 => ?_⟩
  have q := hg y y0 y1
  have r := (h.row (g y) q.1 q.2.1).symm.map g
  rw [q.2.2] at r
  have e : ((rowOf A (g y)).map f).map g = rowOf A (g y) := by
    rw [List.map_map]
    refine (List.map_congr_left fun x hx => ?_).trans (List.map_id _)
    have b := Dt.back (L := A) (d := (g y, x)) ⟨q.1, q.2.1, hx⟩ mA
    exact gf x b.1 b.2.1
  rw [e] at r
  exact r
theorem Sheet.row {L : List (List Int)} (s : Sheet L) {x : Int} (x0 : 0 ≤ x) (x1 : x < L.length) : rowOf L x ≠ [] := by
  have i := s.iso0
  unfold iso at i
  have := List.countP_eq_zero.mp i (rowOf L x) (List.mem_of_getElem? (rowOf_at x0 x1))
  intro z
  rw [z] at this
  exact this rfl
theorem Lay.nam {A B : List (List Int)} {f : Int → Int} (h : Lay A B f) (mA : IsMap A) (mB : IsMap B) (n0 : 0 < A.length) (hB : Hang B) : Nam A.length ((upto A.length).map f) := by
  have r0 := h.rg 0 (Int.le_refl 0) (by omega)
  exact ⟨by rw [List.length_map, upto_len], h.nodup mA mB n0 (hB.from mB r0.1 r0.2), fun x hx => by
    obtain ⟨k, hk, rfl⟩ := List.mem_map.mp hx
    have rk := mem_upto.mp hk
    rw [h.len]
    exact h.rg k rk.1 rk.2⟩
theorem lt_ext : ∀ {l r : List Int}, l.Pairwise (· < ·) → r.Pairwise (· < ·) → (∀ x, x ∈ l ↔ x ∈ r) → l = r
  | [], [], _, _, _ => rfl
  | [], b :: r, _, _, h => absurd ((h b).mpr List.mem_cons_self) (by simp)
  | a :: l, [], _, _, h => absurd ((h a).mp List.mem_cons_self) (by simp)
  | a :: l, b :: r, hl, hr, h => by
    obtain ⟨l1, l2⟩ := List.pairwise_cons.mp hl
    obtain ⟨r1, r2⟩ := List.pairwise_cons.mp hr
    have e : a = b := by
      rcases List.mem_cons.mp ((h a).mp List.mem_cons_self) with z | z
      · exact z
      · rcases List.mem_cons.mp ((h b).mpr List.mem_cons_self) with y | y
        · exact y.symm
        · have := l1 b y; have := r1 a z; omega
    subst e
    congr 1
    refine lt_ext l2 r2 fun x => ⟨fun z => ?_, fun z => ?_⟩
    · rcases List.mem_cons.mp ((h x).mp (List.mem_cons_of_mem _ z)) with y | y
      · have := l1 x z; omega
      · exact y
    · rcases List.mem_cons.mp ((h x).mpr (List.mem_cons_of_mem _ z)) with y | y
      · have := r1 x z; omega
      · exact y
theorem Nam.sorted {n : Nat} {l s : List Int} (h : Nam n l) (p : s.Perm l) (o : s.Pairwise (· ≤ ·)) : s = upto n :=
  lt_ext (strict o (p.nodup_iff.mpr h.nd)) (upto_lt n) fun x => by
    rw [p.mem_iff, mem_upto]
    exact ⟨fun z => h.rg x z, fun z => h.all z.1 z.2⟩
def tetra : List (List Int) := [[1, 3, 2], [2, 3, 0], [0, 3, 1], [2, 0, 1]]
def tetraR : List (List Dart) := [[(0, 1), (1, 3), (3, 0)], [(0, 3), (3, 2), (2, 0)], [(0, 2), (2, 1), (1, 0)], [(1, 2), (2, 3), (3, 1)]]
end Gm
end
section
set_option Elab.async false
set_option linter.all false
set_option maxRecDepth 100000
namespace Gm
open PySem L2
abbrev t32 : Str := ((" " : String) : Str)
abbrev t58 : Str := ((":" : String) : Str)
abbrev t10 : Str := (("\n" : String) : Str)
abbrev t0 : Str := (("" : String) : Str)
def rowT (k : Int) (l : List Int) : Str := Str.join t32 ((num k ++ t58) :: l.map num)
def rowsT (L : List (List Int)) : List Str := L.mapIdx fun i l => rowT ((i : Nat) : Int) l
def mapT (L : List (List Int)) : Str := Str.join t10 (rowsT L)
theorem rowsT_at (L : List (List Int)) (i : Nat) : (rowsT L)[i]? = L[i]?.map (rowT (i : Nat)) := by unfold rowsT; rw [List.getElem?_mapIdx]
def Few (l : List Int) : Prop := l.length ≤ 14 ∧ ∀ x ∈ l, 0 ≤ x ∧ x < 14
theorem Few.num {l : List Int} (h : Few l) {t : Str} (ht : t ∈ l.map Gm.num) : Num t := by
  obtain ⟨x, hx, rfl⟩ := List.mem_map.mp ht
  exact num_ok (h.2 x hx).1 (h.2 x hx).2
structure Sm (L : List (List Int)) : Prop where
  len : L.length ≤ 14
  few : ∀ l ∈ L, Few l
theorem Sm.row {L : List (List Int)} (s : Sm L) {t : Str} (ht : t ∈ rowsT L) : ∃ (i : Nat) (l : List Int), L[i]? = some l ∧ i < 14 ∧ Few l ∧ t = rowT i l := by
  obtain ⟨i, hi⟩ := List.mem_iff_getElem?.mp ht
  rw [rowsT_at] at hi
  cases e : L[i]? with
  | none => rw [e] at hi; cases hi
  | some l =>
    rw [e] at hi
    have := (List.getElem?_eq_some_iff.mp e).1
    exact ⟨i, l, e, by have := s.len; omega, s.few l (List.mem_of_getElem? e), (Option.some.inj hi).symm⟩
def mn (l : List Int) : Int := l.min?.getD 0
def lb (l : List Int) : List Int := rot l (l.idxOf (mn l))
theorem Few.rot {a b : List Int} (h : Few b) (r : RotEq a b) : Few a := ⟨by rw [r.len]; exact h.1, fun x hx => h.2 x (r.perm.mem_iff.mp hx)⟩
end Gm
end
section
set_option Elab.async false
set_option linter.all false
set_option maxRecDepth 100000
namespace L2
open PySem PySem.Spec PySem.W PySem.Calls PyProof.Rows Gm
theorem bt_all : bootBuiltins "all" = some (.builtin "all") := by decide +kernel
section
variable {X : Cx}
end
theorem ifA {c : Prop} [Decidable c] {ta tb : TS} {D : Ends} {σ : St} {H : Hp} (S : St → Hp → Prop) (key : ∀ σ' H', S σ' H' → D.nx σ' H') (h1 : c → (∀ σ' H', S σ' H' → D.nx σ' H') → ta D σ H) (h2 : ¬ c → (∀ σ' H', S σ' H' → D.nx σ' H') → tb D σ H) :
    if decide c = true then ta D σ H else tb D σ H := if2 (fun z => h1 z key) fun z => h2 z key
section
variable {K : Frag} {σ : St} {H : Hp} {Q : VK}
end
end L2
end
section
set_option Elab.async false
set_option linter.all false
set_option maxRecDepth 100000
namespace L2
open PySem PySem.Spec PySem.W PySem.Calls PyProof.Rows Gm
theorem ifAn {c : Prop} [Decidable c] {ta tb : TS} {D : Ends} {σ : St} {H : Hp} (S : St → Hp → Prop) (key : ∀ σ' H', S σ' H' → D.nx σ' H') (h1 : ¬ c → (∀ σ' H', S σ' H' → D.nx σ' H') → ta D σ H) (h2 : c → (∀ σ' H', S σ' H' → D.nx σ' H') → tb D σ H) :
    if (!decide c) = true then ta D σ H else tb D σ H := if2n (fun z => h1 z key) fun z => h2 z key
def dGI (A : List (List Int)) (l : List Int) : PyData := .list [dGrid A, dInts l]
theorem shaped_gi (A : List (List Int)) (l : List Int) : SeqAt.shaped (dGI A l) = true := by
  obtain ⟨h1, h2⟩ := lay_grid A
  obtain ⟨h3, h4⟩ := lay_ints l
  unfold SeqAt.shaped dGI dGrid dInts
  unfold dInts at h1 h2
  simp [PyData.canLay0, PyData.canLayAll0, PyData.depth, PyData.depthAll, h1, h3, h4]
  omega
theorem eqv_gi (A : List (List Int)) (l : List Int) : PyData.eqv (dGI A l) (dGI A l) = true := by
  unfold dGI
  rw [PyData.eqv, PyData.eqvAll, PyData.eqvAll, PyData.eqvAll, eqv_grid, show PyData.eqv (dInts l) (dInts l) = true by unfold dInts; rw [PyData.eqv, eqv_ints]; exact decide_eq_true rfl, decide_eq_true rfl]
  rfl
theorem rds_gi {H : Hp} {t p o : Addr} {as : List Addr} {A : List (List Int)} {l : List Int} (h : H t = some (.lst [.ref p, .ref o])) (g : Grid H p as A) (k : H o = some (.lst (l.map V.int))) : Rds H (.ref t) (dGI A l) := .lst h (.cons g.rds (.cons (rds_row k) .nil))
end L2
end
section
set_option Elab.async false
set_option linter.all false
set_option maxRecDepth 100000
set_option maxHeartbeats 4000000
namespace Toy
open PySem L2 Fr Gm
local macro_rules | `(tactic| walk_at "rd1") => `(tactic| first
  | with_reducible refine r_seq ?_ | with_reducible refine r_asg ?_ | with_reducible refine r_gname ?_ | with_reducible refine r_op ?_ | with_reducible refine r_c ?_
  | ((with_reducible refine' r_var ?hv ?_); case' hv => exact rfl)
  | with_reducible refine r_rI0 ?_ | with_reducible refine r_un ?_ | with_reducible refine r_rU ?_ | with_reducible refine r_eqI ?_ | with_reducible refine r_neI ?_
  | with_reducible refine r_ret ?_ | with_reducible refine r_retN ?_ | with_reducible refine r_drop ?_ | with_reducible refine r_ifS ?_ | with_reducible refine r_test ?_ | with_reducible refine r_B ?_ | with_reducible refine r_bl ?_
  | with_reducible refine r_not ?_ | with_reducible refine r_and ?_ | with_reducible refine r_or ?_ | with_reducible refine r_andV ?_ | with_reducible refine r_orV ?_ | with_reducible refine r_notV ?_ | with_reducible refine r_ifE ?_
  | with_reducible refine r_nil ?_ | with_reducible refine r_cons ?_ | with_reducible refine r_call ?_ | with_reducible refine r_cb ?_ | with_reducible refine r_tup ?_ | with_reducible refine r_lst ?_ | with_reducible refine r_next ?_
  | with_reducible refine r_gcons ?_ | with_reducible refine r_gnil ?_ | with_reducible refine r_par ?_ | with_reducible refine ifT ?_ | with_reducible refine ifF ?_ | with_reducible refine ifNT ?_ | with_reducible refine ifNF ?_
  | ((with_reducible refine r_rI ?hc ?_); case' hc => walk_at "side")
  | ((with_reducible refine' r_ixT ?hp ?hi ?_); (case' hp => walk_at "seq"); (case' hi => exact rfl))
  | ((with_reducible refine' r_ixL ?hp ?hi ?_); (case' hp => walk_at "seq"); (case' hi => exact rfl))
  | ((with_reducible refine' r_gtup ?hp ?hi ?_); (case' hp => walk_at "seq"); (case' hi => exact rfl))
  | ((with_reducible refine And.intro ?hl ?_); case' hl => (first | exact sl2 | exact sl3))
  | with_reducible refine r_bm ?_ | with_reducible refine r_bm0 ?_ | with_reducible refine r_true ?_ | with_reducible refine r_isN ?_ | with_reducible refine r_notN ?_ | with_reducible refine r_raise ?_ | with_reducible refine r_tryAs ?_ | with_reducible refine r_dnotin ?_ | with_reducible refine r_din ?_ | with_reducible refine r_dput ?_
  | dsimp only)
local macro_rules | `(tactic| walk_at "rd") => `(tactic| repeat walk_at "rd1")
local macro_rules | `(tactic| walk_at "blk_vis") => `(tactic| first | exact Or.inl rfl | exact Or.inr (Or.inl rfl) | exact Or.inr (Or.inr rfl))
local macro_rules | `(tactic| walk_at "blk_ok") => `(tactic| exact ⟨rfl, by decide +kernel, by decide +kernel, rfl, by (first | exact trivial | exact ⟨rfl, trivial⟩ | exact ⟨rfl, rfl, trivial⟩ | exact ⟨rfl, rfl, rfl, trivial⟩ | exact ⟨rfl, rfl, rfl, rfl, trivial⟩), rfl,
  by (first | exact fm_nil | exact fm_cons ⟨rfl, by walk_at "blk_vis", rfl, rfl⟩ fm_nil | exact fm_cons ⟨rfl, by walk_at "blk_vis", rfl, rfl⟩ (fm_cons ⟨rfl, by walk_at "blk_vis", rfl, rfl⟩ fm_nil) | exact fm_cons ⟨rfl, by walk_at "blk_vis", rfl, rfl⟩ (fm_cons ⟨rfl, by walk_at "blk_vis", rfl, rfl⟩ (fm_cons ⟨rfl, by walk_at "blk_vis", rfl, rfl⟩ fm_nil))),
  by (first | exact fm_nil | exact fm_cons rfl fm_nil | exact fm_cons rfl (fm_cons rfl fm_nil) | exact fm_cons rfl (fm_cons rfl (fm_cons rfl fm_nil)))⟩)
local macro_rules | `(tactic| walk_at "blk_ok1") => `(tactic| exact ⟨rfl, fun _ => rfl, fun _ => rfl, by decide +kernel, rfl, by (first | exact trivial | exact ⟨rfl, trivial⟩ | exact ⟨rfl, rfl, trivial⟩ | exact ⟨rfl, rfl, rfl, trivial⟩ | exact ⟨rfl, rfl, rfl, rfl, trivial⟩), rfl,
  by (first | exact fm_nil | exact fm_cons ⟨rfl, by walk_at "blk_vis", ⟨rfl, rfl⟩, rfl⟩ fm_nil | exact fm_cons ⟨rfl, by walk_at "blk_vis", ⟨rfl, rfl⟩, rfl⟩ (fm_cons ⟨rfl, by walk_at "blk_vis", ⟨rfl, rfl⟩, rfl⟩ fm_nil) | exact fm_cons ⟨rfl, by walk_at "blk_vis", ⟨rfl, rfl⟩, rfl⟩ (fm_cons ⟨rfl, by walk_at "blk_vis", ⟨rfl, rfl⟩, rfl⟩ (fm_cons ⟨rfl, by walk_at "blk_vis", ⟨rfl, rfl⟩, rfl⟩ fm_nil))),
  by (first | exact fm_nil | exact fm_cons rfl fm_nil | exact fm_cons rfl (fm_cons rfl fm_nil) | exact fm_cons rfl (fm_cons rfl (fm_cons rfl fm_nil)))⟩)
local macro_rules | `(tactic| walk_at "side") => `(tactic| first | assumption | exact (show (0 : Int) < _ by decide) | exact cfp_lit (by decide) (by decide) | exact cfp_big (by decide) (by decide) | exact mulL (by decide) (by decide))
local macro_rules | `(tactic| walk_at "seq") => `(tactic| first | assumption | exact SqT.of (by assumption))
def top (i : Nat) : Stmt := PySem.Challenge.pw_standup_k27_names.main.body.getD i (.Pass ⟨0, 0, 0, 0⟩)
abbrev s_renamed : Stmt := top 18
abbrev s_begun_at : Stmt := top 19
abbrev s_orders_alike : Stmt := top 20
abbrev s_same : Stmt := top 21
abbrev s__law_cell_at : Stmt := top 23
abbrev s__law_whole : Stmt := top 24
abbrev s__law_block : Stmt := top 25
abbrev s__law_mixed : Stmt := top 26
abbrev s__law_any : Stmt := top 27
abbrev s__law_rings : Stmt := top 28
abbrev s__law_put_tie : Stmt := top 29
abbrev s__law_put_place : Stmt := top 30
abbrev s__law_grown : Stmt := top 31
abbrev s__law_map : Stmt := top 32
abbrev s__law_names : Stmt := top 33
abbrev s__law_renamed : Stmt := top 34
abbrev s__law_begun : Stmt := top 35
abbrev s__law_same : Stmt := top 36
abbrev s__law_strange : Stmt := top 37
abbrev s__law_spoiled : Stmt := top 38
abbrev s__law_caught : Stmt := top 39
abbrev s__law_exchanged : Stmt := top 40
abbrev s__law_told : Stmt := top 41
abbrev s_law : Stmt := top 42
structure Adr where
  MapError : Addr
  NoNumber : Addr
  NoOne : Addr
  NoTie : Addr
  NoOther : Addr
  NoNames : Addr
  NoLand : Addr
  NoFrame : Addr
  NoThree : Addr
  Flat : Addr
  NotInside : Addr
  NoStep : Addr
  NoText : Addr
  NoMap : Addr
  NoSheet : Addr
  Parted : Addr
structure Txt (K : PySem.W.Frag) (mg : Str → Option Value) (Z : Adr) : Prop where
  len : mg "len" = none
  isinstance : mg "isinstance" = none
  int : mg "int" = none
  bool : mg "bool" = none
  enumerate : mg "enumerate" = none
  range : mg "range" = none
  min : mg "min" = none
  max : mg "max" = none
  sorted : mg "sorted" = none
  list : mg "list" = none
  zip : mg "zip" = none
  all : mg "all" = none
  ValueError : mg "ValueError" = none
  c_MapError : mg "MapError" = some (.ref Z.MapError)
  c_NoNumber : mg "NoNumber" = some (.ref Z.NoNumber)
  c_NoOne : mg "NoOne" = some (.ref Z.NoOne)
  c_NoTie : mg "NoTie" = some (.ref Z.NoTie)
  c_NoOther : mg "NoOther" = some (.ref Z.NoOther)
  c_NoNames : mg "NoNames" = some (.ref Z.NoNames)
  c_NoLand : mg "NoLand" = some (.ref Z.NoLand)
  c_NoFrame : mg "NoFrame" = some (.ref Z.NoFrame)
  c_NoThree : mg "NoThree" = some (.ref Z.NoThree)
  c_Flat : mg "Flat" = some (.ref Z.Flat)
  c_NotInside : mg "NotInside" = some (.ref Z.NotInside)
  c_NoStep : mg "NoStep" = some (.ref Z.NoStep)
  c_NoText : mg "NoText" = some (.ref Z.NoText)
  c_NoMap : mg "NoMap" = some (.ref Z.NoMap)
  c_NoSheet : mg "NoSheet" = some (.ref Z.NoSheet)
  c_Parted : mg "Parted" = some (.ref Z.Parted)
  x_NoNames : PySem.W.excIn K Z.NoNames [.type "ValueError", .type "Exception", .type "BaseException", .type "object"] "ValueError.__new__" = true
  t_NoNames : ExCls K Z.NoNames
  m1 : PySem.W.exmOne K (.ref Z.NoNames) (.ref Z.MapError) = some true
  m2 : PySem.W.kitOne K (.ref Z.NoNames) (.ref Z.NoNames) = some true
  m3 : PySem.W.kitAny K (.ref Z.NoNames) [.ref Z.Flat, .ref Z.NoFrame, .ref Z.NoLand, .ref Z.NoMap, .ref Z.NoNumber, .ref Z.NoOne] = some false
  m4 : PySem.W.kitAny K (.ref Z.NoNames) [.ref Z.NoOther, .ref Z.NoSheet, .ref Z.NoThree, .ref Z.NoTie, .ref Z.NotInside, .ref Z.Parted, .ref Z.NoStep, .ref Z.NoText] = some false
  m5 : PySem.W.kitOne K (.ref Z.NoNames) (.type "ValueError") = some true
def sp_mixed (K : PySem.W.Frag) : Sp := fun vs H Q _ => ∃ (a : Addr) (ns : List Int) (k : Int), vs = [.ref a, .int k] ∧ SqL K H a (ns.map V.int) ∧ 0 ≤ k ∧ k ≤ 100000 ∧ ∀ n, 0 ≤ n → n < 2147483587 → Q (.int n) H
def sp_any (K : PySem.W.Frag) : Sp := fun vs H Q _ => ∃ (a : Addr) (ns : List Int) (st n : Int), vs = [.ref a, .int st, .int n] ∧ SqL K H a (ns.map V.int) ∧ 0 ≤ st ∧ st ≤ 1000 ∧ 0 ≤ n ∧ n ≤ 60 ∧
  ∀ p as L H', Same H H' → Grid H' p as L → (p :: as).Nodup → (∀ b ∈ p :: as, H b = none) → (L.length : Int) = n → IsMap L → Q (.ref p) H'
def sp_rings : Sp := fun vs H Q _ => ∃ (p : Addr) (as : List Addr) (L : List (List Int)), vs = [.ref p] ∧ Grid H p as L ∧ IsMap L ∧ L.length ≤ 60 ∧ (dts L L.length).length < 1000 ∧
  ∀ (t : Addr) (bs : List Addr) (R : List (List Dart)) H', Same H H' → Grid H' t bs (R.map fun c => c.map (·.1)) → (t :: bs).Nodup → (∀ b ∈ t :: bs, H b = none) → Dec L R → Q (.ref t) H'
def sp_puttie : Sp := fun vs H Q _ => ∃ (p ra : Addr) (as : List Addr) (L : List (List Int)) (r : List Int) (i j : Nat), vs = [.ref p, .ref ra, .int (i : Int), .int (j : Int)] ∧ Grid H p as L ∧ (p :: as).Nodup ∧ H ra = some (.lst (r.map V.int)) ∧ ra ∉ as ∧ Sheet L ∧ Good L r ∧ i < r.length ∧ j < r.length ∧ L.length ≤ 60 ∧
  ∀ H' L', (∀ b o, b ∉ as → H b = some o → H' b = some o) → Grid H' p as L' → Sheet L' → L'.length = L.length → Q .non H'
def sp_putplace : Sp := fun vs H Q _ => ∃ (p ra rc : Addr) (as : List Addr) (L : List (List Int)) (r : List Int) (cs : List Nat), vs = [.ref p, .ref ra, .ref rc] ∧ Grid H p as L ∧ (p :: as).Nodup ∧ H ra = some (.lst (r.map V.int)) ∧ ra ∉ as ∧ H rc = some (.lst ((cs.map fun c : Nat => (c : Int)).map V.int)) ∧ rc ∉ as ∧ ra ≠ p ∧ rc ≠ p ∧ Sheet L ∧ Good L r ∧ (sh 0 r).Nodup ∧ cs ≠ [] ∧ cs.Pairwise (· < ·) ∧ (∀ c ∈ cs, c < r.length) ∧ (cs.map (cy r)).Nodup ∧ cs.length ≤ 200 ∧ L.length ≤ 60 ∧
  ∀ H' L' c, (∀ b o, b ∉ p :: as → H b = some o → H' b = some o) → H c = none → Grid H' p (as ++ [c]) L' → (p :: (as ++ [c])).Nodup → Sheet L' → L'.length = L.length + 1 → Q .non H'
def sp_grown (K : PySem.W.Frag) : Sp := fun vs H Q _ => ∃ (a : Addr) (ns : List Int) (st : Int) (n : Nat), vs = [.ref a, .int st, .int (n : Int)] ∧ SqL K H a (ns.map V.int) ∧ 0 ≤ st ∧ st ≤ 1000 ∧ n ≤ 16 ∧
  ∀ p as L H', Same H H' → Grid H' p as L → (p :: as).Nodup → (∀ b ∈ p :: as, H b = none) → Sheet L → L.length ≤ 2 + n → Q (.ref p) H'
def sp_map (K : PySem.W.Frag) : Sp := fun vs H Q _ => ∃ (a : Addr) (ns : List Int), vs = [.ref a] ∧ SqL K H a (ns.map V.int) ∧
  ∀ p as L H', Same H H' → Grid H' p as L → (p :: as).Nodup → (∀ b ∈ p :: as, H b = none) → IsMap L → 2 ≤ L.length → L.length ≤ 13 → (dts L L.length).length < 128 → Q (.ref p) H'
def sp_begunat : Sp := fun vs H Q _ => ∃ (a : Addr) (l : List Int) (x : Int), vs = [.ref a, .int x] ∧ H a = some (.lst (l.map V.int)) ∧ x ∈ l ∧ l.length ≤ 1000 ∧ ∀ (b : Addr) H', Same H H' → H b = none → H' b = some (.lst ((rot l (l.idxOf x)).map V.int)) → Q (.ref b) H'
def sp_law (K : PySem.W.Frag) : Sp := fun vs H Q _ => ∃ (a : Addr) (ns : List Int), vs = [.ref a] ∧ SqL K H a (ns.map V.int) ∧ ns.length ≤ 63 ∧ ∀ H', Q (.bl true) H'
def sp_names (K : PySem.W.Frag) : Sp := fun vs H Q _ => ∃ (a : Addr) (ns : List Int) (st : Int) (n : Nat), vs = [.ref a, .int st, .int (n : Int)] ∧ SqL K H a (ns.map V.int) ∧ 0 ≤ st ∧ st ≤ 1000 ∧ n ≤ 60 ∧
  ∀ (t : Addr) (l : List Int) H', Same H H' → H t = none → H' t = some (.lst (l.map V.int)) → Nam n l → Q (.ref t) H'
def sp_renamed : Sp := fun vs H Q _ => ∃ (p c : Addr) (as : List Addr) (A : List (List Int)) (l : List Int), vs = [.ref p, .ref c] ∧ Grid H p as A ∧ H c = some (.lst (l.map V.int)) ∧ IsMap A ∧ Nam A.length l ∧ A.length ≤ 60 ∧
  ∀ (q : Addr) (cs : List Addr) (R : List (List Int)) H', Same H H' → Grid H' q cs R → H q = none → Ren A l R → Q (.ref q) H'
def sp_begun (K : PySem.W.Frag) : Sp := fun vs H Q _ => ∃ (a p : Addr) (ns : List Int) (st : Int) (as : List Addr) (A : List (List Int)), vs = [.ref a, .int st, .ref p] ∧ SqL K H a (ns.map V.int) ∧ 0 ≤ st ∧ st ≤ 1000 ∧ Grid H p as A ∧ A.length ≤ 60 ∧ (∀ l ∈ A, l.length ≤ 60) ∧
  ∀ (q : Addr) (cs : List Addr) (R : List (List Int)) H', Same H H' → Grid H' q cs R → H q = none → R.length = A.length → (∀ (i : Nat) (r l : List Int), R[i]? = some r → A[i]? = some l → RotEq r l) → Q (.ref q) H'
def sp_sameD : Sp := fun vs H Q _ => ∃ (p t : Addr) (as bs : List Addr) (L M : List (List Int)), vs = [.ref p, .ref t] ∧ Grid H p as L ∧ Grid H t bs M ∧ L.length = M.length ∧ (∀ l ∈ L, l.length ≤ 1000) ∧ (∀ m ∈ M, m.Nodup ∧ m.length ≤ 1000) ∧ L.length ≤ 1000 ∧
  ((∀ (i : Nat) (l m : List Int), L[i]? = some l → M[i]? = some m → RotEq l m) → ∀ H', Same H H' → Q (.bl true) H') ∧ ((¬ ∀ (i : Nat) (l m : List Int), L[i]? = some l → M[i]? = some m → RotEq l m) → ∀ H', Same H H' → Q (.bl false) H')
def sp_renamedP (N : Addr) : Sp := fun vs H Q E => ∃ (p c : Addr) (as : List Addr) (A : List (List Int)) (l : List Int), vs = [.ref p, .ref c] ∧ Grid H p as A ∧ H c = some (.lst (l.map V.int)) ∧ IsMap A ∧ l.length ≤ 62 ∧ A.length ≤ 60 ∧
  (Nam A.length l → ∀ (q : Addr) (cs : List Addr) (R : List (List Int)) H', Same H H' → Grid H' q cs R → H q = none → Ren A l R → Q (.ref q) H') ∧ (¬ Nam A.length l → ∀ H', Same H H' → E (.ref N) none H')
def sp_alikeO : Sp := fun vs H Q _ => ∃ (a b : Addr) (l m : List Int), vs = [.ref a, .ref b] ∧ H a = some (.lst (l.map V.int)) ∧ H b = some (.lst (m.map V.int)) ∧ l.length ≤ 1000 ∧ m.length ≤ 1000 ∧ m.Nodup ∧
  (RotEq l m → ∀ H', Same H H' → Q (.bl true) H') ∧ (¬ RotEq l m → ∀ H', Same H H' → Q (.bl false) H')
def sp_sameP : Sp := fun vs H Q _ => ∃ (p t : Addr) (as bs : List Addr) (L M : List (List Int)), vs = [.ref p, .ref t] ∧ Grid H p as L ∧ Grid H t bs M ∧ (∀ l ∈ L, l.length ≤ 1000) ∧ (∀ m ∈ M, m.Nodup ∧ m.length ≤ 1000) ∧ L.length ≤ 1000 ∧ M.length ≤ 1000 ∧
  (RotMap L M → ∀ H', Same H H' → Q (.bl true) H') ∧ (¬ RotMap L M → ∀ H', Same H H' → Q (.bl false) H')
def sp_spoiled : Sp := fun vs H Q _ => ∃ (c : Addr) (l : List Int) (k : Int), vs = [.ref c, .int k] ∧ H c = some (.lst (l.map V.int)) ∧ 2 ≤ l.length ∧ l.length ≤ 60 ∧ 0 ≤ k ∧ k < 2147483587 ∧
  ∀ (t : Addr) (l' : List Int) H', Same H H' → H t = none → H' t = some (.lst (l'.map V.int)) → l'.length ≤ 61 → Q (.ref t) H'
def sp_strange (N : Addr) : Sp := fun vs H Q _ => ∃ a : Addr, vs = [.ref a] ∧ H a = some (excO N a) ∧ ∀ H', Same H H' → Q (.bl false) H'
def sp_caught (N : Addr) : Sp := fun vs H Q _ => ∃ (p c : Addr) (as : List Addr) (A : List (List Int)) (l : List Int), vs = [.ref p, .ref c] ∧ Grid H p as A ∧ H c = some (.lst (l.map V.int)) ∧ IsMap A ∧ l.length ≤ 62 ∧ A.length ≤ 60 ∧ ¬ Nam A.length l ∧ ∀ a H', Same H H' → H' a = some (excO N a) → Q (.ref a) H'
def sp_exch (K : PySem.W.Frag) : Sp := fun vs H Q _ => ∃ (a p : Addr) (ns : List Int) (as : List Addr) (A : List (List Int)), vs = [.ref a, .ref p] ∧ SqL K H a (ns.map V.int) ∧ Grid H p as A ∧ 0 < A.length ∧ A.length ≤ 60 ∧ (∀ l ∈ A, l.length ≤ 60) ∧
  ∀ (q : Addr) (cs : List Addr) (R : List (List Int)) H', Same H H' → Grid H' q cs R → R.length = A.length → (∀ (i : Nat) (r l : List Int), R[i]? = some r → A[i]? = some l → r.Perm l) → Q (.ref q) H'
def sp_told : Sp := fun vs H Q _ => ∃ b : Bool, vs = [.bl b, .bl b] ∧ Q (.bl true) H
end Toy
end
section
set_option Elab.async false
set_option linter.all false
set_option maxRecDepth 100000
set_option maxHeartbeats 4000000
namespace Toy
open PySem L2 Fr Gm
local macro_rules | `(tactic| walk_at "rd1") => `(tactic| first
  | with_reducible refine r_seq ?_ | with_reducible refine r_asg ?_ | with_reducible refine r_gname ?_ | with_reducible refine r_op ?_ | with_reducible refine r_c ?_
  | ((with_reducible refine' r_var ?hv ?_); case' hv => exact rfl)
  | with_reducible refine r_rI0 ?_ | with_reducible refine r_un ?_ | with_reducible refine r_rU ?_ | with_reducible refine r_eqI ?_ | with_reducible refine r_neI ?_
  | with_reducible refine r_ret ?_ | with_reducible refine r_retN ?_ | with_reducible refine r_drop ?_ | with_reducible refine r_ifS ?_ | with_reducible refine r_test ?_ | with_reducible refine r_B ?_ | with_reducible refine r_bl ?_
  | with_reducible refine r_not ?_ | with_reducible refine r_and ?_ | with_reducible refine r_or ?_ | with_reducible refine r_andV ?_ | with_reducible refine r_orV ?_ | with_reducible refine r_notV ?_ | with_reducible refine r_ifE ?_
  | with_reducible refine r_nil ?_ | with_reducible refine r_cons ?_ | with_reducible refine r_call ?_ | with_reducible refine r_cb ?_ | with_reducible refine r_tup ?_ | with_reducible refine r_lst ?_ | with_reducible refine r_next ?_
  | with_reducible refine r_gcons ?_ | with_reducible refine r_gnil ?_ | with_reducible refine r_par ?_ | with_reducible refine ifT ?_ | with_reducible refine ifF ?_ | with_reducible refine ifNT ?_ | with_reducible refine ifNF ?_
  | ((with_reducible refine r_rI ?hc ?_); case' hc => walk_at "side")
  | ((with_reducible refine' r_ixT ?hp ?hi ?_); (case' hp => walk_at "seq"); (case' hi => exact rfl))
  | ((with_reducible refine' r_ixL ?hp ?hi ?_); (case' hp => walk_at "seq"); (case' hi => exact rfl))
  | ((with_reducible refine' r_gtup ?hp ?hi ?_); (case' hp => walk_at "seq"); (case' hi => exact rfl))
  | ((with_reducible refine And.intro ?hl ?_); case' hl => (first | exact sl2 | exact sl3))
  | with_reducible refine r_bm ?_ | with_reducible refine r_bm0 ?_ | with_reducible refine r_true ?_ | with_reducible refine r_isN ?_ | with_reducible refine r_notN ?_ | with_reducible refine r_raise ?_ | with_reducible refine r_tryAs ?_ | with_reducible refine r_dnotin ?_ | with_reducible refine r_din ?_ | with_reducible refine r_dput ?_
  | dsimp only)
local macro_rules | `(tactic| walk_at "rd") => `(tactic| repeat walk_at "rd1")
local macro_rules | `(tactic| walk_at "blk_vis") => `(tactic| first | exact Or.inl rfl | exact Or.inr (Or.inl rfl) | exact Or.inr (Or.inr rfl))
local macro_rules | `(tactic| walk_at "blk_ok") => `(tactic| exact ⟨rfl, by decide +kernel, by decide +kernel, rfl, by (first | exact trivial | exact ⟨rfl, trivial⟩ | exact ⟨rfl, rfl, trivial⟩ | exact ⟨rfl, rfl, rfl, trivial⟩ | exact ⟨rfl, rfl, rfl, rfl, trivial⟩), rfl,
  by (first | exact fm_nil | exact fm_cons ⟨rfl, by walk_at "blk_vis", rfl, rfl⟩ fm_nil | exact fm_cons ⟨rfl, by walk_at "blk_vis", rfl, rfl⟩ (fm_cons ⟨rfl, by walk_at "blk_vis", rfl, rfl⟩ fm_nil) | exact fm_cons ⟨rfl, by walk_at "blk_vis", rfl, rfl⟩ (fm_cons ⟨rfl, by walk_at "blk_vis", rfl, rfl⟩ (fm_cons ⟨rfl, by walk_at "blk_vis", rfl, rfl⟩ fm_nil))),
  by (first | exact fm_nil | exact fm_cons rfl fm_nil | exact fm_cons rfl (fm_cons rfl fm_nil) | exact fm_cons rfl (fm_cons rfl (fm_cons rfl fm_nil)))⟩)
local macro_rules | `(tactic| walk_at "blk_ok1") => `(tactic| exact ⟨rfl, fun _ => rfl, fun _ => rfl, by decide +kernel, rfl, by (first | exact trivial | exact ⟨rfl, trivial⟩ | exact ⟨rfl, rfl, trivial⟩ | exact ⟨rfl, rfl, rfl, trivial⟩ | exact ⟨rfl, rfl, rfl, rfl, trivial⟩), rfl,
  by (first | exact fm_nil | exact fm_cons ⟨rfl, by walk_at "blk_vis", ⟨rfl, rfl⟩, rfl⟩ fm_nil | exact fm_cons ⟨rfl, by walk_at "blk_vis", ⟨rfl, rfl⟩, rfl⟩ (fm_cons ⟨rfl, by walk_at "blk_vis", ⟨rfl, rfl⟩, rfl⟩ fm_nil) | exact fm_cons ⟨rfl, by walk_at "blk_vis", ⟨rfl, rfl⟩, rfl⟩ (fm_cons ⟨rfl, by walk_at "blk_vis", ⟨rfl, rfl⟩, rfl⟩ (fm_cons ⟨rfl, by walk_at "blk_vis", ⟨rfl, rfl⟩, rfl⟩ fm_nil))),
  by (first | exact fm_nil | exact fm_cons rfl fm_nil | exact fm_cons rfl (fm_cons rfl fm_nil) | exact fm_cons rfl (fm_cons rfl (fm_cons rfl fm_nil)))⟩)
local macro_rules | `(tactic| walk_at "side") => `(tactic| first | assumption | exact (show (0 : Int) < _ by decide) | exact cfp_lit (by decide) (by decide) | exact cfp_big (by decide) (by decide) | exact mulL (by decide) (by decide))
local macro_rules | `(tactic| walk_at "seq") => `(tactic| first | assumption | exact SqT.of (by assumption))
section
variable {P : Program} {w : World} {K : PySem.W.Frag} {mg : Str → Option Value} {base : Heap} {Z : Adr}
theorem sc__law_block : FnScope ["_law_script", "_law_k", "_law_cell", "_law_j"] ["_law_script", "_law_k"] (defScope s__law_block) := ⟨rfl, rfl, rfl, by decide +kernel, rfl, by decide +kernel, by decide +kernel⟩
theorem ok__law_block (D : Def K mg "_law_block" s__law_block ["_law_script", "_law_k"]) (T : Txt K mg Z) : Has P w K mg base (CXe P w) "_law_block" 1 ["_law_script", "_law_k"] (sp_mixed K) := by
  refine D.hasN sc__law_block (fun vs H Q E h => ?_) (fun f cdv A outer s H vs Q E hr h => ?_)
  · obtain ⟨a, ns, k, rfl, _⟩ := h; rfl
  · obtain ⟨a, ns, k, rfl, hS, hk0, hk1, q⟩ := h
    refine ⟨_, (pss_cons (ps_set (i := 2) sc__law_block.nd rfl (by first | exact Or.inl rfl | exact Or.inr rfl) pe_int)
      (pss_cons (ps_if (pt_cmpR op_lt (pe_op op_add pe_int (pe_op op_mod (pe_op op_fdp (pv 1) pe_int) pe_int)) (pe_callB call_len (by rfl) T.len bt_len (pa_cons (pv 0) pa_nil)) (nomark _)) (pss_one (ps_set (i := 2) sc__law_block.nd rfl (by first | exact Or.inl rfl | exact Or.inr rfl) (pe_op op_fdp (pe_ix ix_list (pv 0) (pe_op op_add pe_int (pe_op op_mod (pe_op op_fdp (pv 1) pe_int) pe_int)) (fun _ _ => rfl)) (pe_fold (v := 10000000000000000000000000000000000000000000000000000000000000000) op_pow pe_int pe_int ⟨by decide, by decide, by decide⟩ (by decide +kernel))))) pss_nil)
      (pss_cons (ps_for PassesOwn.never rfl (pi_range1 rfl T.range (pa_cons (pe_op op_mod (pv 1) pe_int) pa_nil)) (pg_name (i := 3) sc__law_block.nd rfl (by first | exact Or.inl rfl | exact Or.inr rfl))
      (pss_one (ps_set (i := 2) sc__law_block.nd rfl (by first | exact Or.inl rfl | exact Or.inr rfl) (pe_op op_fdp (pv 2) pe_int))))
      (pss_one (ps_ret (pe_op op_mod (pv 2) pe_int)))))), ?_⟩
    dsimp only [cx_K]
    walk_at "rd"
    refine ⟨_, _, rfl, .inl ⟨_, hS, rfl⟩, ?_⟩
    walk_at "rd"
    refine if2 (fun hlt => ?_) (fun hlt => ?_)
    · walk_at "rd"
      rw [List.length_map] at hlt
      obtain ⟨n0, hn0⟩ := nth_int (ns := ns) (k := 1 + k / 8 % 62) (by omega) hlt
      refine r_ixL hS hn0 ?_
      walk_at "rd"
      refine r_for ?_
      refine ⟨_, rfl, _, _, rfl, rfl, (show (0 : Int) < 8 by decide), k % 8, rfl, by omega, by omega, for_range (fun i σ H1 => ∃ (c : Int) (v : Option V), σ = [some (.ref a), some (.int k), some (.int c), v] ∧ H1 = H) ⟨_, _, rfl, rfl⟩ ?_ ?_⟩
      · rintro i σ H1 hi ⟨c, v, rfl, rfl⟩
        walk_at "rd"
        exact ⟨_, _, rfl, rfl⟩
      · rintro σ H1 ⟨c, v, rfl, rfl⟩
        walk_at "rd"
        exact q _ (Int.emod_nonneg _ (by decide)) (Int.emod_lt_of_pos _ (by decide))
    · walk_at "rd"
      refine r_for ?_
      refine ⟨_, rfl, _, _, rfl, rfl, (show (0 : Int) < 8 by decide), k % 8, rfl, by omega, by omega, for_range (fun i σ H1 => ∃ (c : Int) (v : Option V), σ = [some (.ref a), some (.int k), some (.int c), v] ∧ H1 = H) ⟨_, _, rfl, rfl⟩ ?_ ?_⟩
      · rintro i σ H1 hi ⟨c, v, rfl, rfl⟩
        walk_at "rd"
        exact ⟨_, _, rfl, rfl⟩
      · rintro σ H1 ⟨c, v, rfl, rfl⟩
        walk_at "rd"
        exact q _ (Int.emod_nonneg _ (by decide)) (Int.emod_lt_of_pos _ (by decide))
theorem sc__law_mixed : FnScope ["_law_script", "_law_k", "_law_cell", "_law_number"] ["_law_script", "_law_k"] (defScope s__law_mixed) := ⟨rfl, rfl, rfl, by decide +kernel, rfl, by decide +kernel, by decide +kernel⟩
theorem ok__law_mixed (D : Def K mg "_law_mixed" s__law_mixed ["_law_script", "_law_k"]) (T : Txt K mg Z) (h__law_block : Has P w K mg base (CXe P w) "_law_block" 1 ["_law_script", "_law_k"] (sp_mixed K)) : Has P w K mg base (CXe P w) "_law_mixed" 2 ["_law_script", "_law_k"] (sp_mixed K) := by
  refine D.hasN sc__law_mixed (fun vs H Q E h => ?_) (fun f cdv A outer s H vs Q E hr h => ?_)
  · obtain ⟨a, ns, k, rfl, _⟩ := h; rfl
  · obtain ⟨a, ns, k, rfl, hS, hk0, hk1, q⟩ := h
    refine ⟨_, (pss_cons (ps_set (i := 2) sc__law_mixed.nd rfl (by first | exact Or.inl rfl | exact Or.inr rfl) pe_int)
      (pss_cons (ps_if (pt_cmpR op_gt (pe_callB call_len (by rfl) T.len bt_len (pa_cons (pv 0) pa_nil)) pe_int (nomark _)) (pss_one (ps_set (i := 2) sc__law_mixed.nd rfl (by first | exact Or.inl rfl | exact Or.inr rfl) (pe_ix ix_list (pv 0) pe_int (fun _ _ => rfl)))) pss_nil)
      (pss_cons (ps_if (pt_cmpR op_eq (pe_op op_mod (pe_op op_fdp (pv 2) (pe_fold (v := 1000000) op_pow pe_int pe_int ⟨by decide, by decide, by decide⟩ (by decide +kernel))) pe_int) pe_int (nomark _)) (pss_one (ps_ret (pe_callH h__law_block hr passN (pa_cons (pv 0) (pa_cons (pv 1) pa_nil))))) pss_nil)
      (pss_cons (ps_if (pt_cmpR op_gt (pe_callB call_len (by rfl) T.len bt_len (pa_cons (pv 0) pa_nil)) pe_int (nomark _)) (pss_one (ps_set (i := 2) sc__law_mixed.nd rfl (by first | exact Or.inl rfl | exact Or.inr rfl) (pe_ix ix_list (pv 0) (pe_op op_mod (pv 1) (pe_callB (call_min2 rfl) (by rfl) T.min bt_min (pa_cons pe_int (pa_cons (pe_callB call_len (by rfl) T.len bt_len (pa_cons (pv 0) pa_nil)) pa_nil)))) (fun _ _ => rfl)))) pss_nil)
      (pss_cons (ps_set (i := 3) sc__law_mixed.nd rfl (by first | exact Or.inl rfl | exact Or.inr rfl) (pe_op op_add (pe_op op_mod (pv 2) (pe_fold (v := 1000000000000000000) op_pow pe_int pe_int ⟨by decide, by decide, by decide⟩ (by decide +kernel))) (pe_op op_mulS pe_int (pe_op op_add (pv 1) pe_int))))
      (pss_cons (ps_set (i := 3) sc__law_mixed.nd rfl (by first | exact Or.inl rfl | exact Or.inr rfl) (pe_op op_add (pe_op op_mod (pe_op op_mulS (pv 3) (pv 3)) pe_int) (pe_op op_mulS pe_int (pv 1))))
      (pss_one (ps_ret (pe_op op_mod (pe_op op_mulS (pv 3) (pv 3)) pe_int))))))))), ?_⟩
    dsimp only [cx_K]
    walk_at "rd"
    refine ⟨_, _, rfl, .inl ⟨_, hS, rfl⟩, ?_⟩
    walk_at "rd"
    refine if2 (fun hpos => ?_) (fun hpos => ?_)
    · walk_at "rd"
      rw [List.length_map] at hpos
      obtain ⟨n0, hn0⟩ := nth_int (ns := ns) (k := 0) (by omega) hpos
      refine r_ixL hS hn0 ?_
      walk_at "rd"
      refine if2 (fun _ => ?_) (fun _ => ?_)
      · walk_at "rd"
        exact ⟨a, ns, k, rfl, hS, hk0, hk1, q⟩
      · walk_at "rd"
        refine ⟨_, _, rfl, .inl ⟨_, hS, rfl⟩, ?_⟩
        walk_at "rd"
        rw [List.length_map]
        refine if2 (fun _ => ?_) (fun h => absurd hpos h)
        walk_at "rd"
        refine ⟨_, _, rfl, .inl ⟨_, hS, rfl⟩, ?_⟩
        walk_at "rd"
        rw [List.length_map]
        refine ⟨_, _, rfl, ?_⟩
        have mp : 0 < (if (ns.length : Int) < 63 then (ns.length : Int) else 63) := by split <;> omega
        have ml : (if (ns.length : Int) < 63 then (ns.length : Int) else 63) ≤ ns.length := by split <;> omega
        generalize (if (ns.length : Int) < 63 then (ns.length : Int) else 63) = mm at mp ml ⊢
        walk_at "rd"
        have i0 := Int.emod_nonneg k (show mm ≠ 0 by omega)
        have i1 := Int.emod_lt_of_pos k mp
        obtain ⟨n1, hn1⟩ := nth_int (ns := ns) (k := k % mm) i0 (by omega)
        refine r_ixL hS hn1 ?_
        walk_at "rd"
        generalize n1 = cc
        have c0 := Int.emod_nonneg cc (show (1000000000000000000 : Int) ≠ 0 by decide)
        have c1 := Int.emod_lt_of_pos cc (show (0 : Int) < 1000000000000000000 by decide)
        generalize cc % 1000000000000000000 = r at c0 c1 ⊢
        have hm : IntMulOk (r + 48271 * (k + 1)) (r + 48271 * (k + 1)) := mulL (by omega) (by omega)
        walk_at "rd"
        generalize (r + 48271 * (k + 1)) * (r + 48271 * (k + 1)) = zz
        have z0 := Int.emod_nonneg zz (show (2147483629 : Int) ≠ 0 by decide)
        have z1 := Int.emod_lt_of_pos zz (show (0 : Int) < 2147483629 by decide)
        generalize zz % 2147483629 = r2 at z0 z1 ⊢
        have hm2 : IntMulOk (r2 + 69621 * k) (r2 + 69621 * k) := mulL (by omega) (by omega)
        walk_at "rd"
        exact q _ (Int.emod_nonneg _ (by decide)) (Int.emod_lt_of_pos _ (by decide))
    · walk_at "rd"
      rw [List.length_map] at hpos
      refine if2 (fun z => absurd z (by decide)) (fun _ => ?_)
      walk_at "rd"
      refine ⟨_, _, rfl, .inl ⟨_, hS, rfl⟩, ?_⟩
      walk_at "rd"
      rw [List.length_map]
      refine if2 (fun h => absurd h hpos) (fun _ => ?_)
      walk_at "rd"
      generalize hr0 : (0 : Int) % 1000000000000000000 = r
      have c0 : 0 ≤ r := by omega
      have c1 : r < 1000000000000000000 := by omega
      have hm : IntMulOk (r + 48271 * (k + 1)) (r + 48271 * (k + 1)) := mulL (by omega) (by omega)
      walk_at "rd"
      generalize (r + 48271 * (k + 1)) * (r + 48271 * (k + 1)) = zz
      have z0 := Int.emod_nonneg zz (show (2147483629 : Int) ≠ 0 by decide)
      have z1 := Int.emod_lt_of_pos zz (show (0 : Int) < 2147483629 by decide)
      generalize zz % 2147483629 = r2 at z0 z1 ⊢
      have hm2 : IntMulOk (r2 + 69621 * k) (r2 + 69621 * k) := mulL (by omega) (by omega)
      walk_at "rd"
      exact q _ (Int.emod_nonneg _ (by decide)) (Int.emod_lt_of_pos _ (by decide))
theorem sc__law_any : FnScope ["_law_script", "_law_start", "_law_many", "_law_orders", "_law_thick", "_law_one", "_law_other", "_law_number"] ["_law_script", "_law_start", "_law_many"] (defScope s__law_any) := ⟨rfl, rfl, rfl, by decide +kernel, rfl, by decide +kernel, by decide +kernel⟩
theorem ok__law_any (D : Def K mg "_law_any" s__law_any ["_law_script", "_law_start", "_law_many"]) (T : Txt K mg Z) (h__law_mixed : Has P w K mg base (CXe P w) "_law_mixed" 2 ["_law_script", "_law_k"] (sp_mixed K)) : Has P w K mg base (CXe P w) "_law_any" 3 ["_law_script", "_law_start", "_law_many"] (sp_any K) := by
  refine D.hasN sc__law_any (fun vs H Q E h => ?_) (fun f cdv A outer s H vs Q E hr h => ?_)
  · obtain ⟨a, ns, st, n, rfl, _⟩ := h; rfl
  · obtain ⟨a, ns, st, n, rfl, hS, hs0, hs1, hn0, hn1, q⟩ := h
    refine ⟨_, (pss_cons (ps_setC (i := 3) sc__law_any.nd rfl (by first | exact Or.inl rfl | exact Or.inr rfl) (tg := ["_law_k"]) (fr := []) (by walk_at "blk_ok") rfl (pi_range1 rfl T.range (pa_cons (pv 2) pa_nil)) (fun _ _ _ _ _ => (pg_name (i := 0) (show [("_law_k" : Str)].Nodup by decide +kernel) rfl (by first | exact Or.inl rfl | exact Or.inr rfl))) (fun _ _ _ _ _ => pifs_nil) (fun _ _ _ _ _ => (pe_lst pa_nil)))
      (pss_cons (ps_set (i := 4) sc__law_any.nd rfl (by first | exact Or.inl rfl | exact Or.inr rfl) (pe_op op_add pe_int (pe_op op_mod (pe_callH h__law_mixed hr passN (pa_cons (pv 0) (pa_cons (pv 1) pa_nil))) pe_int)))
      (pss_cons (ps_for PassesOwn.never rfl (pi_range1 rfl T.range (pa_cons (pv 2) pa_nil)) (pg_name (i := 5) sc__law_any.nd rfl (by first | exact Or.inl rfl | exact Or.inr rfl))
      (pss_one (ps_for PassesOwn.never rfl (pi_range1 rfl T.range (pa_cons (pv 5) pa_nil)) (pg_name (i := 6) sc__law_any.nd rfl (by first | exact Or.inl rfl | exact Or.inr rfl))
      (pss_cons (ps_set (i := 7) sc__law_any.nd rfl (by first | exact Or.inl rfl | exact Or.inr rfl) (pe_callH h__law_mixed hr passN (pa_cons (pv 0) (pa_cons (pe_op op_add (pe_op op_add (pe_op op_add (pv 1) pe_int) (pe_op op_mulS pe_int (pv 5))) (pv 6)) pa_nil))))
      (pss_one (ps_if (pt_cmpR op_ne (pe_op op_mod (pv 7) (pv 4)) pe_int (nomark _)) (pss_cons (ps_expr (pe_bm PySem.F.plainAttrs_list PySem.F.slot_list_insert PySem.F.type_list_insert mt_insert (pe_ix ix_list (pv 3) (pv 5) (fun _ _ => rfl)) (pa_cons (pe_op op_mod (pe_op op_fdp (pv 7) pe_int) (pe_op op_add (pe_callB call_len (by rfl) T.len bt_len (pa_cons (pe_ix ix_list (pv 3) (pv 5) (fun _ _ => rfl)) pa_nil)) pe_int)) (pa_cons (pv 6) pa_nil))))
      (pss_one (ps_expr (pe_bm PySem.F.plainAttrs_list PySem.F.slot_list_insert PySem.F.type_list_insert mt_insert (pe_ix ix_list (pv 3) (pv 6) (fun _ _ => rfl)) (pa_cons (pe_op op_mod (pe_op op_fdp (pv 7) pe_int) (pe_op op_add (pe_callB call_len (by rfl) T.len bt_len (pa_cons (pe_ix ix_list (pv 3) (pv 6) (fun _ _ => rfl)) pa_nil)) pe_int)) (pa_cons (pv 5) pa_nil)))))) pss_nil))))))
      (pss_one (ps_ret (pv 3)))))), ?_⟩
    dsimp only [cx_K]
    walk_at "rd"
    refine r_comp ?_
    refine ⟨_, rfl, n, rfl, by omega, by omega, fun acc hacc => comp_range (fun i σ' ys H1 => ∃ (as : List Addr) (v : Option V), σ' = [v] ∧ ys = as.map V.ref ∧ as.length = i ∧ Same H H1 ∧ H1 acc = some (.lst ys) ∧ (acc :: as).Nodup ∧ (∀ b ∈ acc :: as, H b = none) ∧ ∀ b ∈ as, H1 b = some (.lst [])) ⟨[], none, rfl, rfl, rfl, Same.upd hacc, upd_same, by simp, by simpa using hacc, by simp⟩ ?_ ?_⟩
    · rintro i σ' ys H1 hi ⟨as, v, rfl, rfl, rfl, e1, h1, nd, fr, hb⟩
      walk_at "rd"
      refine ⟨Nat.zero_le _, fun p hp => ⟨by rw [upd_ne (ne_of_none h1 hp)]; exact h1, by rw [List.length_map]; exact small_line (by omega), cturn hi ⟨as ++ [p], _, rfl, by simp, by simp, Same.fresh (Same.fresh e1 (e1.free hp)) hacc, upd_same, ?_, ?_, ?_⟩⟩⟩
      · have np : p ∉ acc :: as := fun z => by
          rcases List.mem_cons.mp z with z | z
          · rw [z, h1] at hp; cases hp
          · rw [hb p z] at hp; cases hp
        have := List.nodup_cons.mpr ⟨np, nd⟩
        have pm : (acc :: (as ++ [p])).Perm (p :: acc :: as) := by
          have : acc :: (as ++ [p]) = (acc :: as) ++ [p] := rfl
          rw [this]
          exact List.perm_append_singleton _ _
        exact pm.nodup_iff.mpr this
      · intro b hb'
        rcases List.mem_cons.mp hb' with z | z
        · rw [z]; exact hacc
        · rcases List.mem_append.mp z with z | z
          · exact fr b (List.mem_cons_of_mem _ z)
          · rw [List.mem_singleton.mp z]; exact e1.free hp
      · intro b hb'
        have ba : b ≠ acc := fun z => by
          subst z
          rcases List.mem_append.mp hb' with z | z
          · exact (List.nodup_cons.mp nd).1 z
          · exact ne_of_none h1 hp (List.mem_singleton.mp z)
        rw [upd_ne ba]
        rcases List.mem_append.mp hb' with z | z
        · rw [upd_ne (ne_of_none (hb b z) hp)]; exact hb b z
        · rw [List.mem_singleton.mp z]; exact upd_same
    · rintro σ' ys H1 ⟨as, v, rfl, rfl, has, e1, h1, nd, fr, hb⟩
      walk_at "rd"
      refine ⟨a, ns, st, rfl, e1.seq hS, by omega, by omega, fun n1 a0 a1 => ?_⟩
      have th0 : (0 : Int) < 2 + n1 % 3 := by omega
      walk_at "rd"
      generalize 2 + n1 % 3 = th at th0 ⊢
      refine r_for ?_
      refine ⟨_, rfl, n, rfl, by omega, by omega, for_range (fun i σ H1 => ∃ (L : List (List Int)) (v5 v6 v7 : Option V), σ = [some (.ref a), some (.int st), some (.int n), some (.ref acc), some (.int th), v5, v6, v7] ∧ Same H H1 ∧ Grid H1 acc as L ∧ Made n.toNat i 0 L) ⟨List.replicate n.toNat [], none, none, none, rfl, e1, ⟨h1, by simp [has], fun i b l h2 h3 => ?_⟩, Made.start (by simp) fun i l h => ?_⟩ ?_ ?_⟩
      · rw [List.getElem?_replicate] at h3
        split at h3
        · cases h3; exact hb b (List.mem_of_getElem? h2)
        · cases h3
      · rw [List.getElem?_replicate] at h
        split at h
        · cases h; rfl
        · cases h
      · rintro i σ H2 hi ⟨L, v5, v6, v7, rfl, e2, g2, m2⟩
        simp only [Int.zero_add]
        walk_at "rd"
        refine r_for ?_
        refine ⟨_, rfl, (i : Int), rfl, by omega, by omega, ?_⟩
        rw [Int.toNat_natCast]
        refine for_range (fun j σ H1 => ∃ (L : List (List Int)) (v6 v7 : Option V), σ = [some (.ref a), some (.int st), some (.int n), some (.ref acc), some (.int th), some (.int (i : Int)), v6, v7] ∧ Same H H1 ∧ Grid H1 acc as L ∧ Made n.toNat i j L) ⟨L, v6, v7, rfl, e2, g2, m2⟩ ?_ ?_
        · rintro j σ H3 hj ⟨L3, w6, w7, rfl, e3, g3, m3⟩
          simp only [Int.zero_add]
          walk_at "rd"
          refine ⟨a, ns, _, rfl, e3.seq hS, by omega, by omega, fun nb b0 b1 => ?_⟩
          walk_at "rd"
          refine if2n (fun _ => ?_) (fun _ => ?_)
          · have hL := m3.len
            obtain ⟨p1, l1, ha1, hl1, hr1⟩ := g3.at (i := i) (by omega)
            obtain ⟨p2, l2, ha2, hl2, hr2⟩ := g3.at (i := j) (by omega)
            have z1 := m3.small hl1
            have z2 := m3.small hl2
            have p12 : p2 ≠ p1 := fun z => by
              subst z
              obtain ⟨q1, w1⟩ := List.getElem?_eq_some_iff.mp ha1
              obtain ⟨q2, w2⟩ := List.getElem?_eq_some_iff.mp ha2
              exact Nat.ne_of_lt hj ((List.getElem_inj (List.nodup_cons.mp nd).2).mp (w2.trans w1.symm))
            walk_at "rd"
            refine r_ixL (SqL.of g3.top) (g3.ix ha1) ?_
            refine ⟨.inl ⟨rfl, _, SqL.of hr1⟩, ?_⟩
            walk_at "rd"
            refine r_ixL (SqL.of g3.top) (g3.ix ha1) ?_
            walk_at "rd"
            refine ⟨_, _, rfl, .inl ⟨_, SqL.of hr1, rfl⟩, ?_⟩
            rw [List.length_map]
            have hp1 : (0 : Int) < (l1.length : Int) + 1 := by omega
            walk_at "rd"
            have d0 := Int.emod_nonneg (nb / 12) (show (l1.length : Int) + 1 ≠ 0 by omega)
            have d1 := Int.emod_lt_of_pos (nb / 12) hp1
            generalize nb / 12 % ((l1.length : Int) + 1) = k1 at d0 d1 ⊢
            refine r_insert (k := k1.toNat) (by omega) hr1 (by rw [List.length_map]; omega) (by rw [List.length_map]; exact small_line (by omega)) ?_
            rw [map_put]
            have g4 := g3.set (l' := put l1 k1.toNat (j : Int)) nd ha1
            have fr1 : H p1 = none := fr p1 (List.mem_cons_of_mem _ (List.mem_of_getElem? ha1))
            have fr2 : H p2 = none := fr p2 (List.mem_cons_of_mem _ (List.mem_of_getElem? ha2))
            have hr2' : upd H3 p1 (.lst ((put l1 k1.toNat (j : Int)).map V.int)) p2 = some (.lst (l2.map V.int)) := by rw [upd_ne p12]; exact hr2
            have e4 : Same H (upd H3 p1 (.lst ((put l1 k1.toNat (j : Int)).map V.int))) := Same.fresh e3 fr1
            walk_at "rd"
            refine r_ixL (SqL.of g4.top) (g4.ix ha2) ?_
            refine ⟨.inl ⟨rfl, _, SqL.of hr2'⟩, ?_⟩
            walk_at "rd"
            refine r_ixL (SqL.of g4.top) (g4.ix ha2) ?_
            walk_at "rd"
            refine ⟨_, _, rfl, .inl ⟨_, SqL.of hr2', rfl⟩, ?_⟩
            rw [List.length_map]
            have hp2 : (0 : Int) < (l2.length : Int) + 1 := by omega
            walk_at "rd"
            have c0 := Int.emod_nonneg (nb / 128) (show (l2.length : Int) + 1 ≠ 0 by omega)
            have c1 := Int.emod_lt_of_pos (nb / 128) hp2
            generalize nb / 128 % ((l2.length : Int) + 1) = k2 at c0 c1 ⊢
            refine r_insert (k := k2.toNat) (by omega) hr2' (by rw [List.length_map]; omega) (by rw [List.length_map]; exact small_line (by omega)) ?_
            rw [map_put]
            exact ⟨_, _, _, rfl, Same.fresh e4 fr2, g4.set nd ha2, m3.step hj (by omega) hl1 hl2⟩
          · walk_at "rd"
            exact ⟨L3, _, _, rfl, e3, g3, m3.skip⟩
        · rintro σ H3 ⟨L3, w6, w7, rfl, e3, g3, m3⟩
          exact ⟨L3, _, _, _, rfl, e3, g3, m3.next⟩
      · rintro σ H2 ⟨L, v5, v6, v7, rfl, e2, g2, m2⟩
        walk_at "rd"
        exact q acc as L H2 e2 g2 nd fr (by have := m2.len; omega) m2.map
theorem sc__law_rings : FnScope ["_law_orders", "_law_gone", "_law_found", "_law_one", "_law_other", "_law_ring", "_law_here", "_law_there", "_law_order"] ["_law_orders"] (defScope s__law_rings) := ⟨rfl, rfl, rfl, by decide +kernel, rfl, by decide +kernel, by decide +kernel⟩
theorem ok__law_rings (D : Def K mg "_law_rings" s__law_rings ["_law_orders"]) (T : Txt K mg Z) : Has P w K mg base (CXe P w) "_law_rings" 1 ["_law_orders"] sp_rings := by
  refine D.hasN sc__law_rings (fun vs H Q E h => ?_) (fun f cdv A outer s H vs Q E hr h => ?_)
  · obtain ⟨p, as, L, rfl, _⟩ := h; rfl
  · obtain ⟨p, as, L, rfl, g, im, hn, hd, q⟩ := h
    refine ⟨_, (pss_cons (ps_set (i := 1) sc__law_rings.nd rfl (by first | exact Or.inl rfl | exact Or.inr rfl) pe_dnewT)
      (pss_cons (ps_set (i := 2) sc__law_rings.nd rfl (by first | exact Or.inl rfl | exact Or.inr rfl) (pe_lst pa_nil))
      (pss_cons (ps_for PassesOwn.never rfl (pi_range1 rfl T.range (pa_cons (pe_callB call_len (by rfl) T.len bt_len (pa_cons (pv 0) pa_nil)) pa_nil)) (pg_name (i := 3) sc__law_rings.nd rfl (by first | exact Or.inl rfl | exact Or.inr rfl))
      (pss_one (ps_for PassesOwn.never rfl (pi_list (pe_ix ix_list (pv 0) (pv 3) (fun _ _ => rfl))) (pg_name (i := 4) sc__law_rings.nd rfl (by first | exact Or.inl rfl | exact Or.inr rfl))
      (pss_one (ps_if (pt_cmp (pc_dnotin (hu_of hr) (pe_tup (pa_cons (pv 3) (pa_cons (pv 4) pa_nil))) (pv 1))) (pss_cons (ps_set (i := 5) sc__law_rings.nd rfl (by first | exact Or.inl rfl | exact Or.inr rfl) (pe_lst pa_nil))
      (pss_cons (ps_set (i := 6) sc__law_rings.nd rfl (by first | exact Or.inl rfl | exact Or.inr rfl) (pv 3))
      (pss_cons (ps_set (i := 7) sc__law_rings.nd rfl (by first | exact Or.inl rfl | exact Or.inr rfl) (pv 4))
      (pss_cons (ps_while PassesOwn.never (pt_cmp (pc_dnotin (hu_of hr) (pe_tup (pa_cons (pv 6) (pa_cons (pv 7) pa_nil))) (pv 1))) (pss_cons (ps_dput (hu_of hr) (pv 1) (pe_tup (pa_cons (pv 6) (pa_cons (pv 7) pa_nil))) pe_bl rfl)
      (pss_cons (ps_expr (pe_bm PySem.F.plainAttrs_list PySem.F.slot_list_append PySem.F.type_list_append mt_append (pv 5) (pa_cons (pv 6) pa_nil)))
      (pss_cons (ps_set (i := 8) sc__law_rings.nd rfl (by first | exact Or.inl rfl | exact Or.inr rfl) (pe_ix ix_list (pv 0) (pv 7) (fun _ _ => rfl)))
      (pss_one (ps_par (i := 6) (j := 7) rfl sc__law_rings.nd rfl rfl (by decide) rfl rfl (pa_cons (pv 7) (pa_cons (pe_ix ix_list (pv 8) (pe_op op_sub (pe_bm PySem.F.plainAttrs_list PySem.F.slot_list_index PySem.F.type_list_index mt_index (pv 8) (pa_cons (pv 6) pa_nil)) pe_int) (fun _ _ => rfl)) pa_nil)) rfl))))))
      (pss_one (ps_expr (pe_bm PySem.F.plainAttrs_list PySem.F.slot_list_append PySem.F.type_list_append mt_append (pv 2) (pa_cons (pv 5) pa_nil)))))))) pss_nil)))))
      (pss_one (ps_ret (pv 2)))))), ?_⟩
    dsimp only [cx_K]
    walk_at "rd"
    intro gd hgd
    walk_at "rd"
    refine ⟨Nat.zero_le _, fun t ht => ?_⟩
    have tH : H t = none := (Same.upd hgd).free ht
    have e0 : Same H (upd (upd H gd (.dT [])) t (.lst [])) := (Same.upd hgd).trans (Same.upd ht)
    have g0 : upd (upd H gd (.dT [])) t (.lst []) gd = some (.dT (kD [])) := by rw [upd_ne (ne_of_none upd_same ht)]; exact upd_same
    have t0 : Grid (upd (upd H gd (.dT [])) t (.lst [])) t [] [] := ⟨upd_same, rfl, fun i a l z => by simp at z⟩
    generalize upd (upd H gd (.dT [])) t (.lst []) = H0 at e0 g0 t0 ⊢
    walk_at "rd"
    refine r_for ?_
    refine ⟨_, rfl, _, _, rfl, .inl ⟨_, SqL.of (e0 _ _ g.top), rfl⟩, (L.length : Int), by rw [List.length_map, g.len], by omega, by omega, ?_⟩
    rw [Int.toNat_natCast]
    refine for_range (fun i σ H1 => ∃ (bs : List Addr) (R : List (List Dart)) (v3 v4 v5 v6 v7 v8 : Option V), σ = [some (.ref p), some (.ref gd), some (.ref t), v3, v4, v5, v6, v7, v8] ∧ Same H H1 ∧ H1 gd = some (.dT (kD R.flatten)) ∧ Grid H1 t bs (R.map fun c => c.map (·.1)) ∧ (t :: bs).Nodup ∧ (∀ b ∈ t :: bs, H b = none) ∧ Dp L R ∧ ∀ d, Dt L d → d.1 < i → d ∈ R.flatten)
      ⟨[], [], none, none, none, none, none, none, rfl, e0, g0, t0, by simp, by simpa using tH, Dp.start, fun d h1 h2 => by have := h1.lo; omega⟩ ?_ ?_
    · rintro i σ H1 hi ⟨bs, R, v3, v4, v5, v6, v7, v8, rfl, e1, g1, t1, nd1, fr1, lp1, cv1⟩
      obtain ⟨b, l, ha, hl, hrow⟩ := g.at hi
      simp only [Int.zero_add]
      have el : rowOf L (i : Int) = l := by
        have := rowOf_at (L := L) (a := (i : Int)) (by omega) (by omega)
        rw [Int.toNat_natCast, hl] at this
        exact (Option.some.inj this).symm
      walk_at "rd"
      refine r_for ?_
      refine ⟨_, rfl, _, rfl, r_ixL (SqL.of (e1 _ _ g.top)) (g.ix ha) ?_⟩
      refine ⟨b, rfl, ⟨_, SqL.of (e1 _ _ hrow)⟩, for_list (K := K) (a := b) (xs := l.map V.int) (fun k σ H3 => ∃ (bs : List Addr) (R : List (List Dart)) (v4 v5 v6 v7 v8 : Option V), σ = [some (.ref p), some (.ref gd), some (.ref t), some (.int (i : Int)), v4, v5, v6, v7, v8] ∧ Same H H3 ∧ H3 gd = some (.dT (kD R.flatten)) ∧ Grid H3 t bs (R.map fun c => c.map (·.1)) ∧ (t :: bs).Nodup ∧ (∀ b ∈ t :: bs, H b = none) ∧ Dp L R ∧ ∀ d, Dt L d → d.1 < i ∨ d.1 = i ∧ d.2 ∈ l.take k → d ∈ R.flatten)
        ⟨bs, R, v4, v5, v6, v7, v8, rfl, e1, g1, t1, nd1, fr1, lp1, fun d h1 h2 => cv1 d h1 (h2.elim id fun z => by simp at z)⟩ (fun k σ H3 _ ⟨_, _, _, _, _, _, _, _, e, _⟩ => SqL.of (e _ _ hrow)) ?_ ?_⟩
      · clear bs R v3 v4 v5 v6 v7 v8 e1 g1 t1 nd1 fr1 lp1 cv1
        rintro k x σ H3 hx ⟨bs, R, v4, v5, v6, v7, v8, rfl, e3, g3, t3, nd3, fr3, lp3, cv3⟩
        obtain ⟨y, hy, rfl⟩ : ∃ y, l[k]? = some y ∧ x = V.int y := by
          rw [List.getElem?_map] at hx
          cases e : l[k]? with
          | none => rw [e] at hx; cases hx
          | some z => rw [e] at hx; exact ⟨z, rfl, (Option.some.inj hx).symm⟩
        have dt : Dt L ((i : Int), y) := ⟨by simp, by simpa using hi, by rw [el]; exact List.mem_of_getElem? hy⟩
        walk_at "rd"
        intro q1 hq1
        have e4 : Same H3 (upd H3 q1 (.tup [.int i, .int y])) := Same.upd hq1
        have k4 : upd H3 q1 (.tup [.int i, .int y]) q1 = some (.tup ((keyD ((i : Int), y)).map kV)) := upd_same
        generalize upd H3 q1 (.tup [.int i, .int y]) = H4 at e4 k4 ⊢
        refine ⟨_, rfl, gd, _, rfl, DGet.t (k := keyD ((i : Int), y)) (e4 _ _ g3) k4, ?_⟩
        rw [val_darts]
        walk_at "rd"
        refine if2n (fun hny => ?_) (fun hyk => ?_)
        · obtain ⟨n, n0, ek, nr⟩ := exists_per im dt
          have dp := lp3.add im dt n0 ek nr hny
          have lb := dp.len
          have lf := Dp.few fun c hc => (lp3.cyc c hc).ne
          rw [List.flatten_append, List.flatten_singleton, List.length_append] at lb
          have tn : ∀ j, (tr L ((i : Int), y) j).length = j := fun j => by unfold tr; simp
          rw [tn] at lb
          walk_at "rd"
          refine ⟨Nat.zero_le _, fun r hr0 => ?_⟩
          have g4 := e4 _ _ g3
          have t4 := t3.same e4
          have nc := t4.notin hr0
          have rH : H r = none := (e3.trans e4).free hr0
          have e5 : Same H (upd H4 r (.lst [])) := (e3.trans e4).trans (Same.upd hr0)
          have g5 : upd H4 r (.lst []) gd = some (.dT (kD (R.flatten ++ tr L ((i : Int), y) 0))) := by
            rw [upd_ne (ne_of_none g4 hr0), show tr L ((i : Int), y) 0 = [] from rfl, List.append_nil]; exact g4
          have t5 := t4.same (Same.upd (o := .lst []) hr0)
          have r5 : upd H4 r (.lst []) r = some (.lst ((ringOf L ((i : Int), y) 0).map V.int)) := upd_same
          generalize upd H4 r (.lst []) = H5 at e5 g5 t5 r5 ⊢
          walk_at "rd"
          refine while_W (fun σ H6 => ∃ (j : Nat) (v8 : Option V), σ = [some (.ref p), some (.ref gd), some (.ref t), some (.int (i : Int)), some (.int y), some (.ref r), some (.int (it L ((i : Int), y) j).1), some (.int (it L ((i : Int), y) j).2), v8] ∧ j ≤ n ∧ Same H H6 ∧ H6 gd = some (.dT (kD (R.flatten ++ tr L ((i : Int), y) j))) ∧ Grid H6 t bs (R.map fun c => c.map (·.1)) ∧ H6 r = some (.lst ((ringOf L ((i : Int), y) j).map V.int)))
            (fun _ H6 => match H6 r with | some (.lst xs) => n - xs.length | _ => 0) ⟨0, v8, rfl, Nat.zero_le _, e5, g5, t5, r5⟩ ?_
          rintro σ H6 ⟨j, w8, rfl, hj, e6, g6, t6, r6⟩
          walk_at "rd"
          intro q7 hq7
          have e7 : Same H6 (upd H6 q7 (.tup [.int (it L ((i : Int), y) j).1, .int (it L ((i : Int), y) j).2])) := Same.upd hq7
          have k7 : upd H6 q7 (.tup [.int (it L ((i : Int), y) j).1, .int (it L ((i : Int), y) j).2]) q7 = some (.tup ((keyD (it L ((i : Int), y) j)).map kV)) := upd_same
          generalize upd H6 q7 (.tup [.int (it L ((i : Int), y) j).1, .int (it L ((i : Int), y) j).2]) = H7 at e7 k7 ⊢
          have g7 := e7 _ _ g6
          have t7 := t6.same e7
          have r7 := e7 _ _ r6
          refine ⟨_, rfl, gd, _, rfl, DGet.t (k := keyD (it L ((i : Int), y) j)) g7 k7, ?_⟩
          rw [val_darts]
          have rl : ∀ j, ((ringOf L ((i : Int), y) j).map V.int).length = j := fun j => by unfold ringOf; simp
          have ts : tr L ((i : Int), y) (j + 1) = tr L ((i : Int), y) j ++ [it L ((i : Int), y) j] := by unfold tr; rw [List.range_succ, List.map_append]; rfl
          walk_at "rd"
          refine if2n (fun hnew => ?_) (fun hold => ?_)
          · have jn : j < n := by
              refine Nat.lt_of_le_of_ne hj fun z => hnew (List.mem_append_right _ ?_)
              rw [z, ek]
              exact List.mem_map.mpr ⟨0, List.mem_range.mpr n0, rfl⟩
            have dtj := it_dt im dt j
            obtain ⟨b0, b1, b2, b3⟩ := dtj.back im
            obtain ⟨c2, l2, ca2, cl2, cr2⟩ := g.at (i := (it L ((i : Int), y) j).2.toNat) (by omega)
            have el2 : l2 = rowOf L (it L ((i : Int), y) j).2 := by rw [rowOf_at b0 b1] at cl2; exact (Option.some.inj cl2).symm
            subst el2
            have i2 : atI (as.map V.ref) (it L ((i : Int), y) j).2 = some (V.ref c2) := by
              have := g.ix ca2
              rwa [Int.toNat_of_nonneg b0] at this
            refine w_turn ?_
            rw [r6]
            dsimp only
            walk_at "rd"
            intro q8 hq8
            have e8 : Same H7 (upd H7 q8 (.tup [.int (it L ((i : Int), y) j).1, .int (it L ((i : Int), y) j).2])) := Same.upd hq8
            have k8 : upd H7 q8 (.tup [.int (it L ((i : Int), y) j).1, .int (it L ((i : Int), y) j).2]) q8 = some (.tup ((keyD (it L ((i : Int), y) j)).map kV)) := upd_same
            generalize upd H7 q8 (.tup [.int (it L ((i : Int), y) j).1, .int (it L ((i : Int), y) j).2]) = H8 at e8 k8 ⊢
            have g8 := e8 _ _ g7
            refine ⟨gd, _, rfl, DPut.t (k := keyD (it L ((i : Int), y) j)) g8 k8 ?_, ?_⟩
            · rw [kD_len, List.length_append, tn]
              exact small_line (by omega)
            · rw [put_dart hnew, List.append_assoc, ← ts]
              have e9 : Same H (upd H8 gd (.dT (kD (R.flatten ++ tr L ((i : Int), y) (j + 1))))) := Same.fresh ((e6.trans e7).trans e8) hgd
              have g9 : upd H8 gd (.dT (kD (R.flatten ++ tr L ((i : Int), y) (j + 1)))) gd = some (.dT (kD (R.flatten ++ tr L ((i : Int), y) (j + 1)))) := upd_same
              have t9 := (t7.same e8).other (o := .dT (kD (R.flatten ++ tr L ((i : Int), y) (j + 1)))) g8
              have r8 := e8 _ _ r7
              have r9 : upd H8 gd (.dT (kD (R.flatten ++ tr L ((i : Int), y) (j + 1)))) r = some (.lst ((ringOf L ((i : Int), y) j).map V.int)) := by
                rw [upd_ne (fun z => by rw [z, g8] at r8; cases r8)]; exact r8
              generalize upd H8 gd (.dT (kD (R.flatten ++ tr L ((i : Int), y) (j + 1)))) = H9 at e9 g9 t9 r9 ⊢
              walk_at "rd"
              refine ⟨.inl ⟨rfl, _, SqL.of r9⟩, ?_⟩
              walk_at "rd"
              refine r_append r9 (by rw [rl]; exact small_line (by omega)) ?_
              have er : (ringOf L ((i : Int), y) j).map V.int ++ [V.int (it L ((i : Int), y) j).1] = (ringOf L ((i : Int), y) (j + 1)).map V.int := by
                unfold ringOf
                rw [List.range_succ, List.map_append, List.map_append]
                rfl
              rw [er]
              have eA : Same H (upd H9 r (.lst ((ringOf L ((i : Int), y) (j + 1)).map V.int))) := Same.fresh e9 rH
              have gA : upd H9 r (.lst ((ringOf L ((i : Int), y) (j + 1)).map V.int)) gd = some (.dT (kD (R.flatten ++ tr L ((i : Int), y) (j + 1)))) := by
                rw [upd_ne (fun z => by rw [← z, g9] at r9; cases r9)]; exact g9
              have tA : Grid (upd H9 r (.lst ((ringOf L ((i : Int), y) (j + 1)).map V.int))) t bs (R.map fun c => c.map (·.1)) := t9.away nc
              have rA : upd H9 r (.lst ((ringOf L ((i : Int), y) (j + 1)).map V.int)) r = some (.lst ((ringOf L ((i : Int), y) (j + 1)).map V.int)) := upd_same
              generalize upd H9 r (.lst ((ringOf L ((i : Int), y) (j + 1)).map V.int)) = HA at eA gA tA rA ⊢
              walk_at "rd"
              refine r_ixL (SqL.of (eA _ _ g.top)) i2 ?_
              walk_at "rd"
              refine ⟨.inl ⟨rfl, _, SqL.of (eA _ _ cr2)⟩, ?_⟩
              walk_at "rd"
              refine ⟨c2, _, _, rfl, rfl, eA _ _ cr2, b3, ?_⟩
              walk_at "rd"
              refine r_ixL (SqL.of (eA _ _ cr2)) (atI_pre b3) ?_
              walk_at "rd"
              refine ⟨_, _, rfl, ⟨j + 1, _, rfl, jn, eA, gA, tA, rA⟩, ?_⟩
              rw [rA]
              dsimp only
              rw [rl, rl]
              omega
          · have jn : j = n := by
              refine Nat.le_antisymm hj (Nat.le_of_not_lt fun z => ?_)
              rcases List.mem_append.mp hold with w | w
              · exact lp3.new n0 ek hny j w
              · have nd := tr_nodup im dt nr
                have ej : (tr L ((i : Int), y) n)[j]? = some (it L ((i : Int), y) j) := by unfold tr; simp [z]
                have := nodup_prefix (A := []) (by simpa using nd) ej
                refine this ?_
                have et : (tr L ((i : Int), y) n).take j = tr L ((i : Int), y) j := by
                  unfold tr
                  rw [← List.map_take, List.take_range, Nat.min_eq_left (by omega)]
                rw [et]
                exact List.mem_append_right _ w
            subst jn
            have e07 := e6.trans e7
            walk_at "rd"
            refine ⟨.inl ⟨rfl, _, SqL.of t7.top⟩, ?_⟩
            walk_at "rd"
            have zb := t7.len
            rw [List.length_map] at zb
            refine r_append t7.top (by rw [List.length_map]; exact small_line (by omega)) ?_
            have nbt : r ≠ t := fun z => nc (z ▸ List.mem_cons_self)
            have er : ringOf L ((i : Int), y) j = (tr L ((i : Int), y) j).map (·.1) := by unfold ringOf tr; rw [List.map_map]; rfl
            rw [er] at r7
            have t8 := t7.snoc (List.nodup_cons.mp nd3).1 nbt r7
            have g8 : upd H7 t (.lst (bs.map V.ref ++ [.ref r])) gd = some (.dT (kD (R.flatten ++ tr L ((i : Int), y) j))) := by
              rw [upd_ne (fun z => by have := t7.top; rw [← z, g7] at this; cases this)]; exact g7
            refine ⟨bs ++ [r], R ++ [tr L ((i : Int), y) j], _, _, _, _, _, rfl, Same.fresh e07 tH, ?_, ?_, ?_, fun b hb => ?_, dp, fun d h1 h2 => ?_⟩
            · rw [List.flatten_append, List.flatten_singleton]; exact g8
            · rw [List.map_append]; exact t8
            · obtain ⟨n1, n2⟩ := List.nodup_cons.mp nd3
              refine List.nodup_cons.mpr ⟨fun z => ?_, snoc_ndA.mpr ⟨fun z => nc (List.mem_cons_of_mem _ z), n2⟩⟩
              rcases List.mem_append.mp z with z | z
              · exact n1 z
              · exact nbt (List.mem_singleton.mp z).symm
            · rcases List.mem_cons.mp hb with z | z
              · rw [z]; exact tH
              · rcases List.mem_append.mp z with z | z
                · exact fr3 b (List.mem_cons_of_mem _ z)
                · rw [List.mem_singleton.mp z]; exact rH
            · rw [List.flatten_append, List.flatten_singleton]
              rw [take_snoc hy] at h2
              by_cases z : d = ((i : Int), y)
              · rw [z]
                exact List.mem_append_right _ (List.mem_map.mpr ⟨0, List.mem_range.mpr n0, rfl⟩)
              · refine List.mem_append_left _ (cv3 d h1 ?_)
                rcases h2 with h2 | ⟨h2, h3⟩
                · exact .inl h2
                · rcases List.mem_append.mp h3 with h3 | h3
                  · exact .inr ⟨h2, h3⟩
                  · exact absurd (Prod.ext h2 (List.mem_singleton.mp h3)) z
        · refine ⟨bs, R, _, _, _, _, _, rfl, e3.trans e4, e4 _ _ g3, t3.same e4, nd3, fr3, lp3, fun d h1 h2 => ?_⟩
          rw [take_snoc hy] at h2
          rcases h2 with h2 | ⟨h2, h3⟩
          · exact cv3 d h1 (.inl h2)
          · rcases List.mem_append.mp h3 with h3 | h3
            · exact cv3 d h1 (.inr ⟨h2, h3⟩)
            · rw [show d = ((i : Int), y) from Prod.ext h2 (List.mem_singleton.mp h3)]; exact hyk
      · rintro σ H3 ⟨bs, R, v4, v5, v6, v7, v8, rfl, e3, g3, t3, nd3, fr3, lp3, cv3⟩
        rw [List.length_map, List.take_length] at cv3
        refine ⟨bs, R, _, _, _, _, _, _, rfl, e3, g3, t3, nd3, fr3, lp3, fun d h1 h2 => cv3 d h1 ?_⟩
        by_cases z : d.1 = i
        · refine .inr ⟨z, ?_⟩
          have := h1.mem
          rw [z, el] at this
          exact this
        · exact .inl (by omega)
    · rintro σ H1 ⟨bs, R, v3, v4, v5, v6, v7, v8, rfl, e1, g1, t1, nd1, fr1, lp1, cv1⟩
      walk_at "rd"
      exact q t bs R H1 e1 t1 nd1 fr1 (lp1.dec fun d hd => cv1 d hd hd.hi)
theorem sc__law_put_tie : FnScope ["_law_orders", "_law_ring", "_law_one", "_law_other", "_law_first", "_law_second"] ["_law_orders", "_law_ring", "_law_one", "_law_other"] (defScope s__law_put_tie) := ⟨rfl, rfl, rfl, by decide +kernel, rfl, by decide +kernel, by decide +kernel⟩
theorem ok__law_put_tie (D : Def K mg "_law_put_tie" s__law_put_tie ["_law_orders", "_law_ring", "_law_one", "_law_other"]) (T : Txt K mg Z) : Has P w K mg base (CXe P w) "_law_put_tie" 1 ["_law_orders", "_law_ring", "_law_one", "_law_other"] sp_puttie := by
  refine D.hasN sc__law_put_tie (fun vs H Q E h => ?_) (fun f cdv A outer s H vs Q E hr h => ?_)
  · obtain ⟨p, ra, as, L, r, i, j, rfl, _⟩ := h; rfl
  · obtain ⟨p, ra, as, L, r, i, j, rfl, g, nd, hra, nra, sh, gd, hi, hj, hn, q⟩ := h
    have im := sh.map
    obtain ⟨z1m, a0, a1, ed1⟩ := corner_in gd im (c := i)
    obtain ⟨z2m, b0, b1, ed2⟩ := corner_in gd im (c := j)
    obtain ⟨ca, la, ha, hla, hrowa⟩ := g.at (i := (cy r i).toNat) (by omega)
    obtain ⟨cb, lb, hb, hlb, hrowb⟩ := g.at (i := (cy r j).toNat) (by omega)
    have ela : la = rowOf L (cy r i) := by rw [rowOf_at a0 a1] at hla; exact (Option.some.inj hla).symm
    have elb : lb = rowOf L (cy r j) := by rw [rowOf_at b0 b1] at hlb; exact (Option.some.inj hlb).symm
    subst ela elb
    have ia : atI (as.map V.ref) (cy r i) = some (V.ref ca) := by
      have := g.ix ha
      rwa [Int.toNat_of_nonneg a0] at this
    have ib : atI (as.map V.ref) (cy r j) = some (V.ref cb) := by
      have := g.ix hb
      rwa [Int.toNat_of_nonneg b0] at this
    have sa : (rowOf L (cy r i)).length ≤ L.length := len_range (im.nd _ _ hla) fun y hy => ⟨(im.rg _ _ hla y hy).1, (im.rg _ _ hla y hy).2.1⟩
    have sb : (rowOf L (cy r j)).length ≤ L.length := len_range (im.nd _ _ hlb) fun y hy => ⟨(im.rg _ _ hlb y hy).1, (im.rg _ _ hlb y hy).2.1⟩
    have ii := List.idxOf_lt_length_of_mem z1m
    have ij := List.idxOf_lt_length_of_mem z2m
    refine ⟨_, (pss_cons (ps_set (i := 4) sc__law_put_tie.nd rfl (by first | exact Or.inl rfl | exact Or.inr rfl) (pe_ix ix_list (pv 1) (pv 2) (fun _ _ => rfl)))
      (pss_cons (ps_set (i := 5) sc__law_put_tie.nd rfl (by first | exact Or.inl rfl | exact Or.inr rfl) (pe_ix ix_list (pv 1) (pv 3) (fun _ _ => rfl)))
      (pss_one (ps_if (PW.pt (pw_and (pt_cmpR op_ne (pv 4) (pv 5) (nomark _)) (pw_and1 (pt_cmpR op_notIn_seq (pv 5) (pe_ix ix_list (pv 0) (pv 4) (fun _ _ => rfl)) (by with_unfolding_all rfl))))) (pss_cons (ps_expr (pe_bm PySem.F.plainAttrs_list PySem.F.slot_list_insert PySem.F.type_list_insert mt_insert (pe_ix ix_list (pv 0) (pv 4) (fun _ _ => rfl)) (pa_cons (pe_bm PySem.F.plainAttrs_list PySem.F.slot_list_index PySem.F.type_list_index mt_index (pe_ix ix_list (pv 0) (pv 4) (fun _ _ => rfl)) (pa_cons (pe_ix ix_list (pv 1) (pe_op op_sub (pv 2) pe_int) (fun _ _ => rfl)) pa_nil)) (pa_cons (pv 5) pa_nil))))
      (pss_one (ps_expr (pe_bm PySem.F.plainAttrs_list PySem.F.slot_list_insert PySem.F.type_list_insert mt_insert (pe_ix ix_list (pv 0) (pv 5) (fun _ _ => rfl)) (pa_cons (pe_bm PySem.F.plainAttrs_list PySem.F.slot_list_index PySem.F.type_list_index mt_index (pe_ix ix_list (pv 0) (pv 5) (fun _ _ => rfl)) (pa_cons (pe_ix ix_list (pv 1) (pe_op op_sub (pv 3) pe_int) (fun _ _ => rfl)) pa_nil)) (pa_cons (pv 4) pa_nil)))))) pss_nil)))), ?_⟩
    dsimp only [cx_K]
    walk_at "rd"
    refine r_ixL (SqL.of hra) (atI_cy (j := i) (by omega) (by omega) (.inl rfl)) ?_
    walk_at "rd"
    refine r_ixL (SqL.of hra) (atI_cy (j := j) (by omega) (by omega) (.inl rfl)) ?_
    walk_at "rd"
    refine if2n (fun hne => ?_) (fun heq => ?_)
    · walk_at "rd"
      refine r_ixL (SqL.of g.top) ia ?_
      refine r_in (SqL.of hrowa) ?_
      rw [if_pos rfl]
      walk_at "rd"
      refine if2n (fun hno => ?_) (fun hyes => ?_)
      · have F : Fresh2 L (cy r i) (cy r j) (put (rowOf L (cy r i)) ((rowOf L (cy r i)).idxOf (cy r (i + (r.length - 1)))) (cy r j)) (put (rowOf L (cy r j)) ((rowOf L (cy r j)).idxOf (cy r (j + (r.length - 1)))) (cy r i)) := by
          have hno' : cy r i ∉ rowOf L (cy r j) := fun z => hno (Dt.back (d := (cy r j, cy r i)) ⟨b0, b1, z⟩ im).2.2.2
          exact ⟨im, a0, a1, b0, b1, hne, hno, put_perm _ _ _, put_perm _ _ _, put_erase hno, put_erase hno'⟩
        have sh' := F.sheet sh z1m z2m (pre_put z1m hno) (pre_put z2m F.no') (fun Pd h0 hs => by
          rw [← ed1] at h0
          rw [← ed2]
          exact gd.on hs h0 _)
        walk_at "rd"
        refine r_ixL (SqL.of g.top) ia ?_
        refine ⟨.inl ⟨rfl, _, SqL.of hrowa⟩, ?_⟩
        walk_at "rd"
        refine r_ixL (SqL.of g.top) ia ?_
        refine ⟨.inl ⟨rfl, _, SqL.of hrowa⟩, ?_⟩
        walk_at "rd"
        refine r_ixL (SqL.of hra) (atI_cy (j := i + (r.length - 1)) (by omega) (by omega) (.inr (by omega))) ?_
        walk_at "rd"
        refine ⟨ca, _, _, rfl, rfl, hrowa, z1m, ?_⟩
        walk_at "rd"
        refine r_insert (k := (rowOf L (cy r i)).idxOf (cy r (i + (r.length - 1)))) rfl hrowa (by rw [List.length_map]; omega) (by rw [List.length_map]; exact small_line (by omega)) ?_
        rw [map_put]
        have cam := List.mem_of_getElem? ha
        have cbm := List.mem_of_getElem? hb
        have g1 := g.set nd (l' := put (rowOf L (cy r i)) ((rowOf L (cy r i)).idxOf (cy r (i + (r.length - 1)))) (cy r j)) ha
        have o1 : ∀ b o, b ∉ as → H b = some o → upd H ca (.lst ((put (rowOf L (cy r i)) ((rowOf L (cy r i)).idxOf (cy r (i + (r.length - 1)))) (cy r j)).map V.int)) b = some o := fun b o hb' e => by rw [upd_off cam hb']; exact e
        generalize upd H ca (.lst ((put (rowOf L (cy r i)) ((rowOf L (cy r i)).idxOf (cy r (i + (r.length - 1)))) (cy r j)).map V.int)) = H1 at g1 o1 ⊢
        have hlb1 : (L.set (cy r i).toNat (put (rowOf L (cy r i)) ((rowOf L (cy r i)).idxOf (cy r (i + (r.length - 1)))) (cy r j)))[(cy r j).toNat]? = some (rowOf L (cy r j)) := by rw [List.getElem?_set_ne (by omega)]; exact hlb
        have hrowb1 := g1.row _ _ _ hb hlb1
        have hra1 := o1 _ _ nra hra
        walk_at "rd"
        refine r_ixL (SqL.of g1.top) ib ?_
        refine ⟨.inl ⟨rfl, _, SqL.of hrowb1⟩, ?_⟩
        walk_at "rd"
        refine r_ixL (SqL.of g1.top) ib ?_
        refine ⟨.inl ⟨rfl, _, SqL.of hrowb1⟩, ?_⟩
        walk_at "rd"
        refine r_ixL (SqL.of hra1) (atI_cy (j := j + (r.length - 1)) (by omega) (by omega) (.inr (by omega))) ?_
        walk_at "rd"
        refine ⟨cb, _, _, rfl, rfl, hrowb1, z2m, ?_⟩
        walk_at "rd"
        refine r_insert (k := (rowOf L (cy r j)).idxOf (cy r (j + (r.length - 1)))) rfl hrowb1 (by rw [List.length_map]; omega) (by rw [List.length_map]; exact small_line (by omega)) ?_
        rw [map_put]
        have g2 := g1.set nd (l' := put (rowOf L (cy r j)) ((rowOf L (cy r j)).idxOf (cy r (j + (r.length - 1)))) (cy r i)) hb
        refine q _ _ (fun b o hb' e => ?_) g2 sh' (by rw [List.length_set, List.length_set])
        rw [upd_off cbm hb']
        exact o1 b o hb' e
      · exact q _ L (fun b o _ e => e) g sh rfl
    · walk_at "rd"
      exact q _ L (fun b o _ e => e) g sh rfl
theorem sc__law_put_place : FnScope ["_law_orders", "_law_ring", "_law_corners", "_law_many", "_law_at", "_law_order"] ["_law_orders", "_law_ring", "_law_corners"] (defScope s__law_put_place) := ⟨rfl, rfl, rfl, by decide +kernel, rfl, by decide +kernel, by decide +kernel⟩
theorem ok__law_put_place (D : Def K mg "_law_put_place" s__law_put_place ["_law_orders", "_law_ring", "_law_corners"]) (T : Txt K mg Z) : Has P w K mg base (CXe P w) "_law_put_place" 1 ["_law_orders", "_law_ring", "_law_corners"] sp_putplace := by
  refine D.hasN sc__law_put_place (fun vs H Q E h => ?_) (fun f cdv A outer s H vs Q E hr h => ?_)
  · obtain ⟨p, ra, rc, as, L, r, cs, rfl, _⟩ := h; rfl
  · obtain ⟨p, ra, rc, as, L, r, cs, rfl, g, nd, hra, nra, hrc, nrc, rap, rcp, sht, gd, ndr, c0, cinc, clt, cnd, clen, hn, q⟩ := h
    have im := sht.map
    have two := gd.two
    have two2 := sht.two
    obtain ⟨c1, ct, hcs⟩ : ∃ c1 ct, cs = c1 :: ct := by cases cs with | nil => exact absurd rfl c0 | cons a b => exact ⟨a, b, rfl⟩
    refine ⟨_, (pss_cons (ps_set (i := 3) sc__law_put_place.nd rfl (by first | exact Or.inl rfl | exact Or.inr rfl) (pe_callB call_len (by rfl) T.len bt_len (pa_cons (pv 0) pa_nil)))
      (pss_cons (ps_for PassesOwn.never rfl (pi_list (pv 2)) (pg_name (i := 4) sc__law_put_place.nd rfl (by first | exact Or.inl rfl | exact Or.inr rfl))
      (pss_cons (ps_set (i := 5) sc__law_put_place.nd rfl (by first | exact Or.inl rfl | exact Or.inr rfl) (pe_ix ix_list (pv 0) (pe_ix ix_list (pv 1) (pv 4) (fun _ _ => rfl)) (fun _ _ => rfl)))
      (pss_one (ps_expr (pe_bm PySem.F.plainAttrs_list PySem.F.slot_list_insert PySem.F.type_list_insert mt_insert (pv 5) (pa_cons (pe_bm PySem.F.plainAttrs_list PySem.F.slot_list_index PySem.F.type_list_index mt_index (pv 5) (pa_cons (pe_ix ix_list (pv 1) (pe_op op_sub (pv 4) pe_int) (fun _ _ => rfl)) pa_nil)) (pa_cons (pv 3) pa_nil)))))))
      (pss_one (ps_expr (pe_bm PySem.F.plainAttrs_list PySem.F.slot_list_append PySem.F.type_list_append mt_append (pv 0) (pa_cons (pe_comp (tg := ["_law_at"]) (fr := [("_law_ring", 1)]) (by walk_at "blk_ok") rfl (pi_list (pv 2)) (fun _ _ _ _ _ => (pg_name (i := 0) (show [("_law_at" : Str), ("_law_ring" : Str)].Nodup by decide +kernel) rfl (by first | exact Or.inl rfl | exact Or.inr rfl))) (fun _ _ _ _ _ => pifs_nil) (fun _ _ _ _ _ => (pe_ix (ix_listK (K := K) rfl) (pv 1) (pv 0) (fun _ _ => rfl)))) pa_nil)))))), ?_⟩
    dsimp only [cx_K]
    walk_at "rd"
    refine ⟨_, _, rfl, .inl ⟨_, SqL.of g.top, rfl⟩, ?_⟩
    rw [List.length_map, g.len]
    walk_at "rd"
    refine r_for ?_
    refine ⟨_, rfl, rc, rfl, ⟨_, SqL.of hrc⟩, for_list (K := K) (a := rc) (xs := (cs.map fun c : Nat => (c : Int)).map V.int) (fun k σ H1 => ∃ (G : List (List Int)) (v4 v5 : Option V), σ = [some (.ref p), some (.ref ra), some (.ref rc), some (.int (L.length : Int)), v4, v5] ∧ (∀ b o, b ∉ as → H b = some o → H1 b = some o) ∧ Grid H1 p as G ∧ ((k = 0 ∧ G = L) ∨ (∃ M cj, Pl L r c1 cj (cs.take k) M ∧ G = M.take L.length ∧ 0 < k ∧ cs[k - 1]? = some cj)))
      ⟨L, none, none, rfl, fun _ _ _ e => e, g, .inl ⟨rfl, rfl⟩⟩ (fun k σ H1 _ ⟨_, _, _, _, o, _⟩ => SqL.of (o _ _ nrc hrc)) ?_ ?_⟩
    · rintro k x σ H1 hx ⟨G, v4, v5, rfl, o1, g1, st⟩
      obtain ⟨c, hc, rfl⟩ : ∃ c : Nat, cs[k]? = some c ∧ x = V.int (c : Int) := by
        rw [List.getElem?_map, List.getElem?_map] at hx
        cases e : cs[k]? with
        | none => rw [e] at hx; cases hx
        | some z => rw [e] at hx; exact ⟨z, rfl, (Option.some.inj hx).symm⟩
      have hcl := clt c (List.mem_of_getElem? hc)
      obtain ⟨zm, x0, x1, ed⟩ := corner_in gd im (c := c)
      have hra1 := o1 _ _ nra hra
      have un : ∀ e ∈ cs.take k, cy r e ≠ cy r c := fun e he z => by
        have := nodup_prefix (A := []) (B := cs.map (cy r)) (j := k) (x := cy r c) (by simpa using cnd) (by rw [List.getElem?_map, hc]; rfl)
        refine this ?_
        rw [List.nil_append, ← List.map_take, ← z]
        exact List.mem_map.mpr ⟨e, he, rfl⟩
      have step : G[(cy r c).toNat]? = some (rowOf L (cy r c)) ∧ ∃ M, Pl L r c1 c (cs.take (k + 1)) M ∧ G.set (cy r c).toNat (put (rowOf L (cy r c)) ((rowOf L (cy r c)).idxOf (cy r (c + (r.length - 1)))) L.length) = M.take L.length := by
        rcases st with ⟨rfl, rfl⟩ | ⟨M, cj, pl, rfl, k0, hcj⟩
        · obtain ⟨F, pl⟩ := Pl.first sht gd ndr hcl
          have ec : c1 = c := by rw [hcs] at hc; simpa using hc
          have e1 : cs.take (0 + 1) = [c] := by rw [hcs, ec]; rfl
          rw [e1, ec]
          refine ⟨rowOf_at x0 x1, _, pl, ?_⟩
          rw [take_both (by rw [lone_len]) (by omega)]
          unfold lone
          rw [List.take_left]
        · have lt : cj < c := by
            obtain ⟨q1, w1⟩ := List.getElem?_eq_some_iff.mp hcj
            obtain ⟨q2, w2⟩ := List.getElem?_eq_some_iff.mp hc
            have := List.pairwise_iff_getElem.mp cinc (k - 1) k q1 q2 (by omega)
            rw [w1, w2] at this
            exact this
          obtain ⟨F, pl2⟩ := pl.next sht gd ndr lt hcl un
          rw [take_snoc hc]
          refine ⟨?_, _, pl2, ?_⟩
          · rw [List.getElem?_take, if_pos (by omega), ← pl.keep _ x0 x1 un]
            exact rowOf_at x0 (by rw [pl.len]; omega)
          · rw [take_both pl.len (by omega)]
      obtain ⟨gx, M, plM, eM⟩ := step
      obtain ⟨ca, la, ha, hla, hrowa⟩ := g1.at (i := (cy r c).toNat) (List.getElem?_eq_some_iff.mp gx).1
      rw [gx] at hla
      cases hla
      have ia : atI (as.map V.ref) (cy r c) = some (V.ref ca) := by
        have := g1.ix ha
        rwa [Int.toNat_of_nonneg x0] at this
      have hlL := rowOf_at x0 x1
      have sa : (rowOf L (cy r c)).length ≤ L.length := len_range (im.nd _ _ hlL) fun y hy => ⟨(im.rg _ _ hlL y hy).1, (im.rg _ _ hlL y hy).2.1⟩
      have ii := List.idxOf_lt_length_of_mem zm
      walk_at "rd"
      refine r_ixL (SqL.of hra1) (atI_cy (j := c) (by omega) (by omega) (.inl rfl)) ?_
      refine r_ixL (SqL.of g1.top) ia ?_
      walk_at "rd"
      refine ⟨.inl ⟨rfl, _, SqL.of hrowa⟩, ?_⟩
      walk_at "rd"
      refine ⟨.inl ⟨rfl, _, SqL.of hrowa⟩, ?_⟩
      walk_at "rd"
      refine r_ixL (SqL.of hra1) (atI_cy (j := c + (r.length - 1)) (by omega) (by omega) (.inr (by omega))) ?_
      walk_at "rd"
      refine ⟨ca, _, _, rfl, rfl, hrowa, zm, ?_⟩
      walk_at "rd"
      refine r_insert (k := (rowOf L (cy r c)).idxOf (cy r (c + (r.length - 1)))) rfl hrowa (by rw [List.length_map]; omega) (by rw [List.length_map]; exact small_line (by omega)) ?_
      rw [map_put]
      have cam := List.mem_of_getElem? ha
      have g2 := g1.set nd (l' := put (rowOf L (cy r c)) ((rowOf L (cy r c)).idxOf (cy r (c + (r.length - 1)))) L.length) ha
      rw [eM] at g2
      refine ⟨_, _, _, rfl, fun b o hb' e => ?_, g2, .inr ⟨M, c, plM, rfl, by omega, by rw [Nat.add_sub_cancel]; exact hc⟩⟩
      rw [upd_off cam hb']
      exact o1 b o hb' e
    · rintro σ H1 ⟨G, v4, v5, rfl, o1, g1, st⟩
      rw [List.length_map, List.length_map, List.take_length] at st
      rcases st with ⟨z, _⟩ | ⟨M, cj, pl, rfl, k0, hcj⟩
      · exact absurd (List.length_eq_zero_iff.mp z) c0
      have hra1 := o1 _ _ nra hra
      have hrc1 := o1 _ _ nrc hrc
      walk_at "rd"
      refine ⟨.inl ⟨rfl, _, SqL.of g1.top⟩, ?_⟩
      walk_at "rd"
      refine r_comp ?_
      refine ⟨_, rfl, rc, rfl, ⟨_, SqL.of hrc1⟩, fun acc hacc => ?_⟩
      refine comp_list (K := K) (a := rc) (xs := (cs.map fun c : Nat => (c : Int)).map V.int) (fun i σ' ys H2 => ∃ v : Option V, σ' = [v, some (.ref ra)] ∧ Same H1 H2 ∧ H2 acc = some (.lst ys) ∧ ys = ((cs.take i).map (cy r)).map V.int)
        ⟨none, rfl, Same.upd hacc, upd_same, rfl⟩ (fun i σ' ys H2 _ ⟨_, _, e, _⟩ => SqL.of (e _ _ hrc1)) ?_ ?_
      · rintro i x σ' ys H2 hx hi ⟨v, rfl, e2, a2, rfl⟩
        obtain ⟨c, hc, rfl⟩ : ∃ c : Nat, cs[i]? = some c ∧ x = V.int (c : Int) := by
          rw [List.getElem?_map, List.getElem?_map] at hx
          cases e : cs[i]? with
          | none => rw [e] at hx; cases hx
          | some z => rw [e] at hx; exact ⟨z, rfl, (Option.some.inj hx).symm⟩
        have hcl := clt c (List.mem_of_getElem? hc)
        walk_at "rd"
        refine r_ixL (SqL.of (e2 _ _ hra1)) (atI_cy (j := c) (by omega) (by omega) (.inl rfl)) ?_
        refine ⟨a2, by rw [List.length_map, List.length_map, List.length_take]; exact small_line (by omega), cturn hi ⟨_, rfl, Same.fresh e2 hacc, upd_same, ?_⟩⟩
        rw [take_snoc hc, List.map_append, List.map_append]
        rfl
      · rintro σ' ys H2 ⟨v, rfl, e2, a2, rfl⟩
        rw [List.length_map, List.length_map, List.take_length] at a2
        have g2 := g1.same e2
        have nacc := g1.notin hacc
        have anp : acc ≠ p := fun z => nacc (z ▸ List.mem_cons_self)
        walk_at "rd"
        refine r_append g2.top (by rw [List.length_map, g.len]; exact small_line (by omega)) ?_
        have g3 := g2.snoc (List.nodup_cons.mp nd).1 anp a2
        rw [← pl.new, take_last pl.len] at g3
        have accH : H acc = none := by
          cases e : H acc with
          | none => rfl
          | some o =>
            have := o1 acc o (fun z => nacc (List.mem_cons_of_mem _ z)) e
            rw [hacc] at this
            cases this
        refine q _ M acc (fun b o hb e => ?_) accH g3 ?_ pl.sh pl.len
        · rw [upd_off (as := p :: as) List.mem_cons_self hb]
          exact e2 _ _ (o1 b o (fun z => hb (List.mem_cons_of_mem _ z)) e)
        · obtain ⟨n1, n2⟩ := List.nodup_cons.mp nd
          refine List.nodup_cons.mpr ⟨fun z => ?_, snoc_ndA.mpr ⟨fun z => nacc (List.mem_cons_of_mem _ z), n2⟩⟩
          rcases List.mem_append.mp z with z | z
          · exact n1 z
          · exact anp (List.mem_singleton.mp z).symm
theorem sc__law_grown : FnScope ["_law_script", "_law_start", "_law_steps", "_law_orders", "_law_k", "_law_number", "_law_rings_here", "_law_ring", "_law_corners", "_law_at"] ["_law_script", "_law_start", "_law_steps"] (defScope s__law_grown) := ⟨rfl, rfl, rfl, by decide +kernel, rfl, by decide +kernel, by decide +kernel⟩
theorem ok__law_grown (D : Def K mg "_law_grown" s__law_grown ["_law_script", "_law_start", "_law_steps"]) (T : Txt K mg Z) (h__law_mixed : Has P w K mg base (CXe P w) "_law_mixed" 2 ["_law_script", "_law_k"] (sp_mixed K)) (h__law_rings : Has P w K mg base (CXe P w) "_law_rings" 1 ["_law_orders"] sp_rings)
    (h__law_put_tie : Has P w K mg base (CXe P w) "_law_put_tie" 1 ["_law_orders", "_law_ring", "_law_one", "_law_other"] sp_puttie) (h__law_put_place : Has P w K mg base (CXe P w) "_law_put_place" 1 ["_law_orders", "_law_ring", "_law_corners"] sp_putplace) : Has P w K mg base (CXe P w) "_law_grown" 3 ["_law_script", "_law_start", "_law_steps"] (sp_grown K) := by
  refine D.hasN sc__law_grown (fun vs H Q E h => ?_) (fun f cdv A outer s H vs Q E hr h => ?_)
  · obtain ⟨a, ns, st, n, rfl, _⟩ := h; rfl
  · obtain ⟨a, ns, st, n, rfl, hS, st0, st1, hn, q⟩ := h
    refine ⟨_, (pss_cons (ps_set (i := 3) sc__law_grown.nd rfl (by first | exact Or.inl rfl | exact Or.inr rfl) (pe_lst (pa_cons (pe_lst (pa_cons pe_int pa_nil)) (pa_cons (pe_lst (pa_cons pe_int pa_nil)) pa_nil))))
      (pss_cons (ps_for PassesOwn.never rfl (pi_range1 rfl T.range (pa_cons (pv 2) pa_nil)) (pg_name (i := 4) sc__law_grown.nd rfl (by first | exact Or.inl rfl | exact Or.inr rfl))
      (pss_cons (ps_set (i := 5) sc__law_grown.nd rfl (by first | exact Or.inl rfl | exact Or.inr rfl) (pe_callH h__law_mixed hr passN (pa_cons (pv 0) (pa_cons (pe_op op_add (pv 1) (pv 4)) pa_nil))))
      (pss_cons (ps_set (i := 6) sc__law_grown.nd rfl (by first | exact Or.inl rfl | exact Or.inr rfl) (pe_callH h__law_rings hr passN (pa_cons (pv 3) pa_nil)))
      (pss_cons (ps_set (i := 7) sc__law_grown.nd rfl (by first | exact Or.inl rfl | exact Or.inr rfl) (pe_ix ix_list (pv 6) (pe_op op_mod (pv 5) (pe_callB call_len (by rfl) T.len bt_len (pa_cons (pv 6) pa_nil))) (fun _ _ => rfl)))
      (pss_one (ps_if (pt_cmpR op_eq (pe_op op_mod (pe_op op_fdp (pv 5) pe_int) pe_int) pe_int (nomark _)) (pss_one (ps_expr (pe_callH h__law_put_tie hr passN (pa_cons (pv 3) (pa_cons (pv 7) (pa_cons (pe_op op_mod (pe_op op_fdp (pv 5) pe_int) (pe_callB call_len (by rfl) T.len bt_len (pa_cons (pv 7) pa_nil))) (pa_cons (pe_op op_mod (pe_op op_fdp (pv 5) pe_int) (pe_callB call_len (by rfl) T.len bt_len (pa_cons (pv 7) pa_nil))) pa_nil))))))) (pss_cons (ps_set (i := 8) sc__law_grown.nd rfl (by first | exact Or.inl rfl | exact Or.inr rfl) (pe_lst pa_nil))
      (pss_cons (ps_for PassesOwn.never rfl (pi_range1 rfl T.range (pa_cons (pe_callB call_len (by rfl) T.len bt_len (pa_cons (pv 7) pa_nil)) pa_nil)) (pg_name (i := 9) sc__law_grown.nd rfl (by first | exact Or.inl rfl | exact Or.inr rfl))
      (pss_one (ps_if (PW.pt (pw_and (pt_cmpR op_notIn_seq (pe_ix ix_list (pv 7) (pv 9) (fun _ _ => rfl)) (pe_slice sl_list (pv 7) po_none (po_some (pv 9))) (by with_unfolding_all rfl)) (pw_and1 (pt_cmpR op_ne (pe_op op_mod (pe_op op_add (pe_op op_fdp (pv 5) pe_int) (pe_op op_mulS (pv 9) (pe_op op_fdp (pv 5) pe_int))) pe_int) pe_int (nomark _))))) (pss_one (ps_expr (pe_bm PySem.F.plainAttrs_list PySem.F.slot_list_append PySem.F.type_list_append mt_append (pv 8) (pa_cons (pv 9) pa_nil)))) pss_nil)))
      (pss_cons (ps_if (pt_cmpR (op_eqD hr.units) (pv 8) (pe_lst pa_nil) (nomark _)) (pss_one (ps_set (i := 8) sc__law_grown.nd rfl (by first | exact Or.inl rfl | exact Or.inr rfl) (pe_lst (pa_cons (pe_op op_mod (pe_op op_fdp (pv 5) pe_int) (pe_callB call_len (by rfl) T.len bt_len (pa_cons (pv 7) pa_nil))) pa_nil)))) pss_nil)
      (pss_one (ps_expr (pe_callH h__law_put_place hr passN (pa_cons (pv 3) (pa_cons (pv 7) (pa_cons (pv 8) pa_nil)))))))))))))))
      (pss_one (ps_ret (pv 3))))), ?_⟩
    dsimp only [cx_K]
    walk_at "rd"
    refine ⟨by rw [PySem.sizeLine_eq]; simp, fun b1 hb1 => ?_⟩
    walk_at "rd"
    refine ⟨by rw [PySem.sizeLine_eq]; simp, fun b2 hb2 => ?_⟩
    walk_at "rd"
    refine fun p hp => ?_
    have hb2' : H b2 = none := (Same.upd hb1).free hb2
    have hp' : H p = none := ((Same.upd hb1).trans (Same.upd hb2)).free hp
    have n12 : b2 ≠ b1 := fun z => by rw [z, upd_same] at hb2; cases hb2
    have np2 : p ≠ b2 := fun z => by rw [z, upd_same] at hp; cases hp
    have np1 : p ≠ b1 := fun z => by rw [z, upd_ne (fun w => n12 w.symm), upd_same] at hp; cases hp
    have e0 : Same H (upd (upd (upd H b1 (.lst [.int 1])) b2 (.lst [.int 0])) p (.lst [.ref b1, .ref b2])) := ((Same.upd hb1).trans (Same.upd hb2)).trans (Same.upd hp)
    have g0 : Grid (upd (upd (upd H b1 (.lst [.int 1])) b2 (.lst [.int 0])) p (.lst [.ref b1, .ref b2])) p [b1, b2] [[1], [0]] := by
      refine ⟨upd_same, rfl, fun i c l h1 h2 => ?_⟩
      have hi : i = 0 ∨ i = 1 := by
        have := (List.getElem?_eq_some_iff.mp h1).1
        simp at this
        omega
      rcases hi with rfl | rfl
      · simp at h1 h2
        subst h1 h2
        rw [upd_ne (fun z => np1 z.symm), upd_ne (fun z => n12 z.symm)]
        exact upd_same
      · simp at h1 h2
        subst h1 h2
        rw [upd_ne (fun z => np2 z.symm)]
        exact upd_same
    have nd0 : (p :: [b1, b2]).Nodup := by
      simp [np1, np2]
      exact fun z => n12 z.symm
    have fr0 : ∀ b ∈ p :: [b1, b2], H b = none := by
      intro b hb
      simp at hb
      rcases hb with rfl | rfl | rfl
      · exact hp'
      · exact hb1
      · exact hb2'
    generalize upd (upd (upd H b1 (.lst [.int 1])) b2 (.lst [.int 0])) p (.lst [.ref b1, .ref b2]) = H0 at e0 g0 ⊢
    walk_at "rd"
    refine r_for ?_
    refine ⟨_, rfl, (n : Int), rfl, by omega, by omega, ?_⟩
    rw [Int.toNat_natCast]
    refine for_range (fun k σ H1 => ∃ (as : List Addr) (L : List (List Int)) (v4 v5 v6 v7 v8 v9 : Option V), σ = [some (.ref a), some (.int st), some (.int (n : Int)), some (.ref p), v4, v5, v6, v7, v8, v9] ∧ Same H H1 ∧ Grid H1 p as L ∧ (p :: as).Nodup ∧ (∀ b ∈ p :: as, H b = none) ∧ Sheet L ∧ L.length ≤ 2 + k)
      ⟨[b1, b2], [[1], [0]], none, none, none, none, none, none, rfl, e0, g0, nd0, fr0, base_sheet, by simp⟩ ?_ ?_
    · clear e0 g0 nd0 fr0
      rintro k σ H1 hk ⟨as, L, v4, v5, v6, v7, v8, v9, rfl, e1, g1, nd1, fr1, sht, hlen⟩
      simp only [Int.zero_add]
      have im := sht.map
      have few := sht.few (by omega)
      walk_at "rd"
      refine ⟨a, ns, st + k, rfl, e1.seq hS, by omega, by omega, fun num n0 n1 => ?_⟩
      walk_at "rd"
      refine ⟨p, as, L, rfl, g1, im, by omega, by omega, fun t bs R H2 e2 t2 ndt frt dec => ?_⟩
      have R0 := sht.pos dec
      have g2 := g1.same e2
      walk_at "rd"
      refine ⟨_, _, rfl, .inl ⟨_, SqL.of t2.top, rfl⟩, ?_⟩
      rw [List.length_map, t2.len, List.length_map]
      have hp : (0 : Int) < (R.length : Int) := by omega
      walk_at "rd"
      have m0 := Int.emod_nonneg num (show (R.length : Int) ≠ 0 by omega)
      have m1 := Int.emod_lt_of_pos num hp
      obtain ⟨mi, hmi⟩ := Int.eq_ofNat_of_zero_le m0
      rw [hmi] at m1 ⊢
      obtain ⟨rc, rl, hrc, hrl, hring⟩ := t2.at (i := mi) (by rw [List.length_map]; omega)
      rw [List.getElem?_map] at hrl
      obtain ⟨c, hcR, rfl⟩ : ∃ c, R[mi]? = some c ∧ c.map (·.1) = rl := by
        cases e : R[mi]? with
        | none => rw [e] at hrl; cases hrl
        | some z => rw [e] at hrl; exact ⟨z, rfl, Option.some.inj hrl⟩
      have hcm := List.mem_of_getElem? hcR
      obtain ⟨gd, shc, cnd⟩ := dec.good im hcm
      have shn : (sh 0 (c.map (·.1))).Nodup := by rw [shc]; exact cnd
      have clen : (c.map (·.1)).length ≤ (dts L L.length).length := by
        rw [List.length_map]
        exact len_le cnd fun d hd => ((dec.mem d).mp (List.mem_flatten.mpr ⟨c, hcm, hd⟩)).all
      have rcm := List.mem_of_getElem? hrc
      have rnot := g1.notin (frt rc (List.mem_cons_of_mem _ rcm))
      have rnas : rc ∉ as := fun z => rnot (List.mem_cons_of_mem _ z)
      have rnp : rc ≠ p := fun z => rnot (by rw [z]; exact List.mem_cons_self)
      generalize c.map (·.1) = r at gd shn clen hring
      have two := gd.two
      have rpos : (0 : Int) < (r.length : Int) := by omega
      refine r_ixL (SqL.of t2.top) (t2.ix hrc) ?_
      walk_at "rd"
      refine if2 (fun heven => ?_) (fun hodd => ?_)
      · walk_at "rd"
        refine ⟨_, _, rfl, .inl ⟨_, SqL.of hring, rfl⟩, ?_⟩
        rw [List.length_map]
        walk_at "rd"
        refine ⟨_, _, rfl, .inl ⟨_, SqL.of hring, rfl⟩, ?_⟩
        rw [List.length_map]
        walk_at "rd"
        have i0 := Int.emod_nonneg (num / 128) (show (r.length : Int) ≠ 0 by omega)
        have i1 := Int.emod_lt_of_pos (num / 128) rpos
        have j0 := Int.emod_nonneg (num / 4096) (show (r.length : Int) ≠ 0 by omega)
        have j1 := Int.emod_lt_of_pos (num / 4096) rpos
        obtain ⟨i, hi⟩ := Int.eq_ofNat_of_zero_le i0
        obtain ⟨j, hj⟩ := Int.eq_ofNat_of_zero_le j0
        rw [hi, hj]
        refine ⟨p, rc, as, L, r, i, j, rfl, g2, nd1, hring, rnas, sht, gd, by omega, by omega, by omega, fun H3 L3 off g3 sh3 l3 => ?_⟩
        exact ⟨as, L3, _, _, _, _, _, _, rfl, Same.off (e1.trans e2) (fun b hb => fr1 b (List.mem_cons_of_mem _ hb)) off, g3, nd1, fr1, sh3, by omega⟩
      · walk_at "rd"
        refine ⟨Nat.zero_le _, fun qa hqa => ?_⟩
        have e3 : Same H2 (upd H2 qa (.lst [])) := Same.upd hqa
        have q3 : upd H2 qa (.lst []) qa = some (.lst ((([] : List Nat).map fun c : Nat => (c : Int)).map V.int)) := upd_same
        generalize upd H2 qa (.lst []) = H3 at e3 q3 ⊢
        have qnot := g2.notin hqa
        walk_at "rd"
        refine r_for ?_
        refine ⟨_, rfl, _, _, rfl, .inl ⟨_, SqL.of (e3 _ _ hring), rfl⟩, (r.length : Int), by rw [List.length_map], by omega, by omega, ?_⟩
        rw [Int.toNat_natCast]
        refine for_range (fun i σ H4 => ∃ (cs : List Nat) (v9 : Option V), σ = [some (.ref a), some (.int st), some (.int (n : Int)), some (.ref p), some (.int (k : Int)), some (.int num), some (.ref t), some (.ref rc), some (.ref qa), v9] ∧ Same H2 H4 ∧ H4 qa = some (.lst ((cs.map fun c : Nat => (c : Int)).map V.int)) ∧ cs.Pairwise (· < ·) ∧ (∀ c ∈ cs, c < i) ∧ (cs.map (cy r)).Nodup ∧ cs.length ≤ i)
          ⟨[], _, rfl, e3, q3, .nil, by simp, .nil, Nat.le_refl _⟩ ?_ ?_
        · rintro i σ H4 hi ⟨cs, w9, rfl, e4, q4, c1, c2, c3, c4⟩
          simp only [Int.zero_add]
          have hring4 := e4 _ _ hring
          walk_at "rd"
          refine r_ixL (SqL.of hring4) (atI_cy (j := i) (by omega) (by omega) (.inl rfl)) ?_
          refine r_cutTo (a := rc) (i := 7) (k := 9) (n := i) (r := r) rfl rfl (SqL.of hring4) (by omega) fun p1 hp1 => ?_
          have e5 : Same H4 (upd H4 p1 (.lst ((r.take i).map V.int))) := Same.upd hp1
          refine r_in (SqL.of upd_same) ?_
          rw [if_pos rfl]
          generalize upd H4 p1 (.lst ((r.take i).map V.int)) = H5 at e5 ⊢
          walk_at "rd"
          refine if2n (fun hnew => ?_) (fun hold => ?_)
          · walk_at "rd"
            refine r_rI (Sz.mulOk (m := 20) (n := 40) (by unfold Sz; omega) (by unfold Sz; omega)) ?_
            walk_at "rd"
            refine if2n (fun h3 => ?_) (fun h3 => ?_)
            · walk_at "rd"
              refine ⟨.inl ⟨rfl, _, SqL.of (e5 _ _ q4)⟩, ?_⟩
              walk_at "rd"
              refine r_append (e5 _ _ q4) (by rw [List.length_map, List.length_map]; exact small_line (by omega)) ?_
              refine ⟨cs ++ [i], _, rfl, Same.fresh (e4.trans e5) hqa, ?_, ?_, fun c hc => ?_, ?_, by rw [List.length_append, List.length_singleton]; omega⟩
              · rw [List.map_append, List.map_append]; exact upd_same
              · rw [List.pairwise_append]
                refine ⟨c1, by simp, fun x hx y hy => ?_⟩
                rw [List.mem_singleton.mp hy]
                exact c2 x hx
              · rcases List.mem_append.mp hc with z | z
                · have := c2 c z; omega
                · rw [List.mem_singleton.mp z]; omega
              · rw [List.map_append, List.map_singleton]
                refine snoc_nd.mpr ⟨fun z => ?_, c3⟩
                obtain ⟨c, hc, ec⟩ := List.mem_map.mp z
                refine hnew ?_
                rw [← ec, cy_lt (by have := c2 c hc; omega)]
                refine List.mem_take_iff_getElem.mpr ⟨c, by have := c2 c hc; omega, rfl⟩
            · exact ⟨cs, _, rfl, e4.trans e5, e5 _ _ q4, c1, fun c hc => by have := c2 c hc; omega, c3, by omega⟩
          · walk_at "rd"
            exact ⟨cs, _, rfl, e4.trans e5, e5 _ _ q4, c1, fun c hc => by have := c2 c hc; omega, c3, by omega⟩
        · rintro σ H4 ⟨cs, w9, rfl, e4, q4, c1, c2, c3, c4⟩
          walk_at "rd"
          refine ⟨Nat.zero_le _, fun z hz => ?_⟩
          have e5 : Same H4 (upd H4 z (.lst [])) := Same.upd hz
          refine ⟨dInts (cs.map fun c : Nat => (c : Int)), dInts [], rds_row (e5 _ _ q4), rds_row upd_same, shaped_ints _, shaped_ints _, ?_⟩
          rw [if_neg (by decide), eqv_row]
          generalize upd H4 z (.lst []) = H5 at e5 ⊢
          walk_at "rd"
          refine if2 (fun hem => ?_) (fun hne => ?_)
          · walk_at "rd"
            refine ⟨_, _, rfl, .inl ⟨_, SqL.of (e5 _ _ (e4 _ _ hring)), rfl⟩, ?_⟩
            rw [List.length_map]
            walk_at "rd"
            have i0 := Int.emod_nonneg (num / 128) (show (r.length : Int) ≠ 0 by omega)
            have i1 := Int.emod_lt_of_pos (num / 128) rpos
            obtain ⟨i, hi⟩ := Int.eq_ofNat_of_zero_le i0
            rw [hi] at i1 ⊢
            refine ⟨by rw [PySem.sizeLine_eq]; simp, fun q2 hq2 => ?_⟩
            have e6 : Same H2 (upd H5 q2 (.lst [.int (i : Int)])) := (e4.trans e5).trans (Same.upd hq2)
            have c6 : upd H5 q2 (.lst [.int (i : Int)]) q2 = some (.lst ((([i] : List Nat).map fun c : Nat => (c : Int)).map V.int)) := upd_same
            have q2not := ((g2.same e4).same e5).notin hq2
            generalize upd H5 q2 (.lst [.int (i : Int)]) = H6 at e6 c6 ⊢
            walk_at "rd"
            refine ⟨p, rc, q2, as, L, r, [i], rfl, g2.same e6, nd1, e6 _ _ hring, rnas, c6, fun w => q2not (List.mem_cons_of_mem _ w), rnp, fun w => q2not (by rw [w]; exact List.mem_cons_self), sht, gd, shn, by simp, by simp, fun c hc => by rw [List.mem_singleton.mp hc]; omega, by simp, by simp, by omega, fun H7 L7 nw off nwf g7 nd7 sh7 l7 => ?_⟩
            have e16 := (e1.trans e2).trans e6
            refine ⟨_, L7, _, _, _, _, _, _, rfl, Same.off e16 fr1 off, g7, nd7, fun b hb => ?_, sh7, by omega⟩
            rcases List.mem_cons.mp hb with w | w
            · rw [w]; exact fr1 p List.mem_cons_self
            · rcases List.mem_append.mp w with w | w
              · exact fr1 b (List.mem_cons_of_mem _ w)
              · rw [List.mem_singleton.mp w]; exact e16.free nwf
          · walk_at "rd"
            have c0 : cs ≠ [] := fun w => hne (by rw [w]; rfl)
            have e6 := e4.trans e5
            refine ⟨p, rc, qa, as, L, r, cs, rfl, g2.same e6, nd1, e6 _ _ hring, rnas, e5 _ _ q4, fun w => qnot (List.mem_cons_of_mem _ w), rnp, fun w => qnot (by rw [w]; exact List.mem_cons_self), sht, gd, shn, c0, c1, c2, c3, by omega, by omega, fun H7 L7 nw off nwf g7 nd7 sh7 l7 => ?_⟩
            have e16 := (e1.trans e2).trans e6
            refine ⟨_, L7, _, _, _, _, _, _, rfl, Same.off e16 fr1 off, g7, nd7, fun b hb => ?_, sh7, by omega⟩
            rcases List.mem_cons.mp hb with w | w
            · rw [w]; exact fr1 p List.mem_cons_self
            · rcases List.mem_append.mp w with w | w
              · exact fr1 b (List.mem_cons_of_mem _ w)
              · rw [List.mem_singleton.mp w]; exact e16.free nwf
    · rintro σ H1 ⟨as, L, v4, v5, v6, v7, v8, v9, rfl, e1, g1, nd1, fr1, sht, hlen⟩
      walk_at "rd"
      exact q p as L H1 e1 g1 nd1 fr1 sht hlen
theorem sc__law_map : FnScope ["_law_script"] ["_law_script"] (defScope s__law_map) := ⟨rfl, rfl, rfl, by decide +kernel, rfl, by decide +kernel, by decide +kernel⟩
theorem ok__law_map (D : Def K mg "_law_map" s__law_map ["_law_script"]) (T : Txt K mg Z) (h__law_mixed : Has P w K mg base (CXe P w) "_law_mixed" 2 ["_law_script", "_law_k"] (sp_mixed K)) (h__law_any : Has P w K mg base (CXe P w) "_law_any" 3 ["_law_script", "_law_start", "_law_many"] (sp_any K)) (h__law_grown : Has P w K mg base (CXe P w) "_law_grown" 3 ["_law_script", "_law_start", "_law_steps"] (sp_grown K)) : Has P w K mg base (CXe P w) "_law_map" 4 ["_law_script"] (sp_map K) := by
  refine D.hasN sc__law_map (fun vs H Q E h => ?_) (fun f cdv A outer s H vs Q E hr h => ?_)
  · obtain ⟨a, ns, rfl, _⟩ := h; rfl
  · obtain ⟨a, ns, rfl, hS, q⟩ := h
    refine ⟨_, (pss_cons (ps_if (pt_cmpR op_eq (pe_op op_mod (pe_callH h__law_mixed hr passN (pa_cons (pv 0) (pa_cons pe_int pa_nil))) pe_int) pe_int (nomark _)) (pss_one (ps_ret (pe_callH h__law_any hr passN (pa_cons (pv 0) (pa_cons pe_int (pa_cons (pe_op op_add pe_int (pe_op op_mod (pe_callH h__law_mixed hr passN (pa_cons (pv 0) (pa_cons pe_int pa_nil))) pe_int)) pa_nil)))))) pss_nil)
      (pss_one (ps_ret (pe_callH h__law_grown hr passN (pa_cons (pv 0) (pa_cons pe_int (pa_cons (pe_op op_mod (pe_callH h__law_mixed hr passN (pa_cons (pv 0) (pa_cons pe_int pa_nil))) pe_int) pa_nil))))))), ?_⟩
    walk_at "rd"
    refine ⟨a, ns, 0, rfl, hS, by decide, by decide, fun n0 n0a n0b => ?_⟩
    walk_at "rd"
    refine if2 (fun h1 => ?_) (fun h1 => ?_)
    · walk_at "rd"
      refine ⟨a, ns, 1, rfl, hS, by decide, by decide, fun n1 n1a n1b => ?_⟩
      walk_at "rd"
      have m0 := Int.emod_nonneg n1 (show (6 : Int) ≠ 0 by decide)
      have m1 := Int.emod_lt_of_pos n1 (show (0 : Int) < 6 by decide)
      refine ⟨a, ns, 3, 2 + n1 % 6, rfl, hS, by decide, by decide, by omega, by omega, fun p as L H' e g nd fr hL im => ?_⟩
      exact q p as L H' e g nd fr im (by omega) (by omega) (dts_small im (by omega))
    · walk_at "rd"
      refine ⟨a, ns, 1, rfl, hS, by decide, by decide, fun n1 n1a n1b => ?_⟩
      walk_at "rd"
      have m0 := Int.emod_nonneg n1 (show (12 : Int) ≠ 0 by decide)
      have m1 := Int.emod_lt_of_pos n1 (show (0 : Int) < 12 by decide)
      obtain ⟨m, hm⟩ := Int.eq_ofNat_of_zero_le m0
      rw [hm]
      refine ⟨a, ns, 3, m, rfl, hS, by decide, by decide, by omega, fun p as L H' e g nd fr sht hl => ?_⟩
      exact q p as L H' e g nd fr sht.map sht.two (by omega) (sht.few (by omega))
theorem sc__law_names : FnScope ["_law_script", "_law_start", "_law_many", "_law_left", "_law_found", "_law_k"] ["_law_script", "_law_start", "_law_many"] (defScope s__law_names) := ⟨rfl, rfl, rfl, by decide +kernel, rfl, by decide +kernel, by decide +kernel⟩
theorem ok__law_names (D : Def K mg "_law_names" s__law_names ["_law_script", "_law_start", "_law_many"]) (T : Txt K mg Z) (h__law_mixed : Has P w K mg base (CXe P w) "_law_mixed" 2 ["_law_script", "_law_k"] (sp_mixed K)) : Has P w K mg base (CXe P w) "_law_names" 3 ["_law_script", "_law_start", "_law_many"] (sp_names K) := by
  refine D.hasN sc__law_names (fun vs H Q E h => ?_) (fun f cdv A outer s H vs Q E hr h => ?_)
  · obtain ⟨a, ns, st, n, rfl, _⟩ := h; rfl
  · obtain ⟨a, ns, st, n, rfl, hS, s0, s1, hn, q⟩ := h
    refine ⟨_, (pss_cons (ps_set (i := 3) sc__law_names.nd rfl (by first | exact Or.inl rfl | exact Or.inr rfl) (pe_listrange rfl T.range T.list (pv 2)))
      (pss_cons (ps_set (i := 4) sc__law_names.nd rfl (by first | exact Or.inl rfl | exact Or.inr rfl) (pe_lst pa_nil))
      (pss_cons (ps_for PassesOwn.never rfl (pi_range1 rfl T.range (pa_cons (pv 2) pa_nil)) (pg_name (i := 5) sc__law_names.nd rfl (by first | exact Or.inl rfl | exact Or.inr rfl))
      (pss_one (ps_expr (pe_bm PySem.F.plainAttrs_list PySem.F.slot_list_append PySem.F.type_list_append mt_append (pv 4) (pa_cons (pe_bm PySem.F.plainAttrs_list PySem.F.slot_list_pop PySem.F.type_list_pop mt_popAt (pv 3) (pa_cons (pe_op op_mod (pe_callH h__law_mixed hr passN (pa_cons (pv 0) (pa_cons (pe_op op_add (pv 1) (pv 5)) pa_nil))) (pe_callB call_len (by rfl) T.len bt_len (pa_cons (pv 3) pa_nil))) pa_nil)) pa_nil)))))
      (pss_one (ps_ret (pv 4)))))), ?_⟩
    dsimp only [cx_K]
    walk_at "rd"
    refine r_listrng (r_var rfl ⟨n, rfl, by omega, fun lf hlf => ?_⟩)
    walk_at "rd"
    refine ⟨Nat.zero_le _, fun fd hfd => ?_⟩
    have e1 : Same H (upd H lf (.lst ((upto n).map V.int))) := Same.upd hlf
    have fdH := e1.free hfd
    have nfl : lf ≠ fd := ne_of_none upd_same hfd
    refine r_for ?_
    refine ⟨_, rfl, (n : Int), rfl, by omega, by omega, ?_⟩
    rw [Int.toNat_natCast]
    refine for_range (fun i σ H1 => ∃ (lft fnd : List Int) (v : Option V), σ = [some (.ref a), some (.int st), some (.int (n : Int)), some (.ref lf), some (.ref fd), v] ∧ Same H H1 ∧ H1 lf = some (.lst (lft.map V.int)) ∧ H1 fd = some (.lst (fnd.map V.int)) ∧ fnd.length = i ∧ (fnd ++ lft).Perm (upto n))
      ⟨upto n, [], none, rfl, Same.fresh e1 fdH, by rw [upd_ne nfl]; exact upd_same, upd_same, rfl, .refl _⟩ ?_ ?_
    · rintro i σ H1 hi ⟨lft, fnd, v, rfl, e2, l1, f1, fl, pm⟩
      have pl := pm.length_eq
      rw [List.length_append, upto_len] at pl
      have hp : (0 : Int) < (lft.length : Int) := by omega
      simp only [Int.zero_add]
      walk_at "rd"
      refine ⟨.inl ⟨rfl, _, SqL.of f1⟩, ?_⟩
      walk_at "rd"
      refine ⟨.inl ⟨rfl, _, SqL.of l1⟩, ?_⟩
      walk_at "rd"
      refine ⟨a, ns, _, rfl, e2.seq hS, by omega, by omega, fun nb b0 b1 => ?_⟩
      walk_at "rd"
      refine ⟨_, _, rfl, .inl ⟨_, SqL.of l1, rfl⟩, ?_⟩
      rw [List.length_map]
      walk_at "rd"
      have d0 := Int.emod_nonneg nb (show (lft.length : Int) ≠ 0 by omega)
      have d1 := Int.emod_lt_of_pos nb hp
      obtain ⟨k, hk⟩ : ∃ k : Nat, nb % (lft.length : Int) = (k : Int) := ⟨_, (Int.toNat_of_nonneg d0).symm⟩
      rw [hk] at d1 ⊢
      have kl : k < lft.length := by omega
      have ek : lft[k]? = some lft[k] := List.getElem?_eq_getElem kl
      refine r_popAt l1 ek (by omega) ?_
      walk_at "rd"
      refine r_append (by rw [upd_ne (Ne.symm nfl)]; exact f1) (by rw [List.length_map]; exact small_line (by omega)) ?_
      refine ⟨lft.eraseIdx k, fnd ++ [lft[k]], _, rfl, Same.fresh (Same.fresh e2 hlf) fdH, by rw [upd_ne nfl]; exact upd_same, by rw [upd_same, List.map_append]; rfl, by rw [List.length_append, fl]; rfl, ?_⟩
      refine List.Perm.trans ?_ pm
      rw [List.append_assoc]
      exact List.Perm.append_left _ (er_perm ek)
    · rintro σ H1 ⟨lft, fnd, v, rfl, e2, l1, f1, fl, pm⟩
      have pl := pm.length_eq
      rw [List.length_append, upto_len] at pl
      have l0 : lft = [] := List.length_eq_zero_iff.mp (by omega)
      subst l0
      rw [List.append_nil] at pm
      walk_at "rd"
      exact q fd fnd H1 e2 fdH f1 (Nam.of_perm pm)
theorem sc__law_renamed : FnScope ["_law_orders", "_law_names_here", "_law_found", "_law_place"] ["_law_orders", "_law_names_here"] (defScope s__law_renamed) := ⟨rfl, rfl, rfl, by decide +kernel, rfl, by decide +kernel, by decide +kernel⟩
theorem ok__law_renamed (D : Def K mg "_law_renamed" s__law_renamed ["_law_orders", "_law_names_here"]) (T : Txt K mg Z) : Has P w K mg base (CXe P w) "_law_renamed" 1 ["_law_orders", "_law_names_here"] sp_renamed := by
  refine D.hasN sc__law_renamed (fun vs H Q E h => ?_) (fun f cdv A outer s H vs Q E hr h => ?_)
  · obtain ⟨p, c, as, A, l, rfl, _⟩ := h; rfl
  · obtain ⟨p, c, as, A, l, rfl, g, hc, mA, nam, hn, q⟩ := h
    refine ⟨_, (pss_cons (ps_setC (i := 2) sc__law_renamed.nd rfl (by first | exact Or.inl rfl | exact Or.inr rfl) (tg := ["_law_order"]) (fr := []) (by walk_at "blk_ok") rfl (pi_list (pv 0)) (fun _ _ _ _ _ => (pg_name (i := 0) (show [("_law_order" : Str)].Nodup by decide +kernel) rfl (by first | exact Or.inl rfl | exact Or.inr rfl))) (fun _ _ _ _ _ => pifs_nil) (fun _ _ _ _ _ => (pe_lst pa_nil)))
      (pss_cons (ps_for PassesOwn.never rfl (pi_range1 rfl T.range (pa_cons (pe_callB call_len (by rfl) T.len bt_len (pa_cons (pv 0) pa_nil)) pa_nil)) (pg_name (i := 3) sc__law_renamed.nd rfl (by first | exact Or.inl rfl | exact Or.inr rfl))
      (pss_one (ps_asg (pe_comp (tg := ["_law_other"]) (fr := [("_law_names_here", 1)]) (by walk_at "blk_ok") rfl (pi_list (pe_ix ix_list (pv 0) (pv 3) (fun _ _ => rfl))) (fun _ _ _ _ _ => (pg_name (i := 0) (show [("_law_other" : Str), ("_law_names_here" : Str)].Nodup by decide +kernel) rfl (by first | exact Or.inl rfl | exact Or.inr rfl))) (fun _ _ _ _ _ => pifs_nil) (fun _ _ _ _ _ => (pe_ix (ix_listK (K := K) rfl) (pv 1) (pv 0) (fun _ _ => rfl)))) (pg_sub (pv 2) (pe_ix ix_list (pv 1) (pv 3) (fun _ _ => rfl)) set_list))))
      (pss_one (ps_ret (pv 2))))), ?_⟩
    dsimp only [cx_K]
    walk_at "rd"
    refine r_comp ?_
    refine ⟨_, rfl, p, rfl, ⟨_, SqL.of g.top⟩, fun acc hacc => ?_⟩
    refine comp_list (K := K) (a := p) (xs := as.map V.ref) (fun i σ' ys H1 => ∃ (cs : List Addr) (v : Option V), σ' = [v] ∧ ys = cs.map V.ref ∧ cs.length = i ∧ Same H H1 ∧ H1 acc = some (.lst ys) ∧ acc ∉ cs ∧ ∀ b ∈ cs, H1 b = some (.lst []))
      ⟨[], none, rfl, rfl, rfl, Same.upd hacc, upd_same, by simp, by simp⟩ (fun i σ' ys H1 _ ⟨_, _, _, _, _, e, _⟩ => SqL.of (e _ _ g.top)) ?_ ?_
    · rintro i x σ' ys H1 hx hi ⟨cs, v, rfl, rfl, rfl, e1, h1, na, hb⟩
      have hi' := hi
      rw [List.length_map, g.len] at hi'
      walk_at "rd"
      refine ⟨Nat.zero_le _, fun b hb0 => ⟨by rw [upd_ne (ne_of_none h1 hb0)]; exact h1, by rw [List.length_map]; exact small_line (by omega), cturn hi ⟨cs ++ [b], _, rfl, by simp, by simp, Same.fresh (Same.fresh e1 (e1.free hb0)) hacc, upd_same, ?_, ?_⟩⟩⟩
      · intro z
        rcases List.mem_append.mp z with z | z
        · exact na z
        · exact ne_of_none h1 hb0 (List.mem_singleton.mp z)
      · intro d hd
        have da : d ≠ acc := fun z => by
          subst z
          rcases List.mem_append.mp hd with z | z
          · exact na z
          · exact ne_of_none h1 hb0 (List.mem_singleton.mp z)
        rw [upd_ne da]
        rcases List.mem_append.mp hd with z | z
        · rw [upd_ne (ne_of_none (hb d z) hb0)]; exact hb d z
        · rw [List.mem_singleton.mp z]; exact upd_same
    · rintro σ' ys H1 ⟨cs, v, rfl, rfl, hcs, e1, h1, na, hb⟩
      rw [List.length_map, g.len] at hcs
      walk_at "rd"
      refine r_for ?_
      refine ⟨_, rfl, _, _, rfl, .inl ⟨_, SqL.of (e1 _ _ g.top), rfl⟩, (A.length : Int), by rw [List.length_map, g.len], by omega, by omega, ?_⟩
      rw [Int.toNat_natCast]
      refine for_range (fun i σ H2 => ∃ (cs : List Addr) (R : List (List Int)) (v : Option V), σ = [some (.ref p), some (.ref c), some (.ref acc), v] ∧ Same H H2 ∧ Grid H2 acc cs R ∧ acc ∉ cs ∧ R.length = A.length ∧ ∀ j : Int, 0 ≤ j → j < i → R[(nmF l j).toNat]? = some ((rowOf A j).map (nmF l)))
        ⟨cs, List.replicate A.length [], none, rfl, e1, ⟨h1, by simp [hcs], fun i b l h2 h3 => ?_⟩, na, by simp, fun j j0 j1 => by omega⟩ ?_ ?_
      · rw [List.getElem?_replicate] at h3
        split at h3
        · cases h3; exact hb b (List.mem_of_getElem? h2)
        · cases h3
      · rintro i σ H2 hi ⟨cs, R, v, rfl, e2, g2, na2, rl, rows⟩
        simp only [Int.zero_add]
        obtain ⟨b, r, ha, hr0, hrow⟩ := g.at hi
        have er := rowOf_nat hr0
        have rr := nam.rgF (i := (i : Int)) (by omega) (by omega)
        walk_at "rd"
        refine r_comp ?_
        refine ⟨_, rfl, _, rfl, r_ixL (SqL.of (e2 _ _ g.top)) (g.ix ha) ⟨b, rfl, ⟨_, SqL.of (e2 _ _ hrow)⟩, fun ac2 hac2 => ?_⟩⟩
        refine comp_list (K := K) (a := b) (xs := r.map V.int) (fun j σ' ys H3 => ∃ v : Option V, σ' = [v, some (.ref c)] ∧ ys = ((r.take j).map (nmF l)).map V.int ∧ Same H2 H3 ∧ H3 ac2 = some (.lst ys))
          ⟨none, rfl, rfl, Same.upd hac2, upd_same⟩ (fun j σ' ys H3 _ ⟨_, _, _, e, _⟩ => SqL.of (e _ _ (e2 _ _ hrow))) ?_ ?_
        · rintro j x σ' ys H3 hx hj ⟨v, rfl, rfl, e3, a3⟩
          obtain ⟨y, hy, rfl⟩ : ∃ y, r[j]? = some y ∧ x = V.int y := by
            rw [List.getElem?_map] at hx
            cases e : r[j]? with
            | none => rw [e] at hx; cases hx
            | some z => rw [e] at hx; exact ⟨z, rfl, (Option.some.inj hx).symm⟩
          have yr := mA.rg _ _ hr0 y (List.mem_of_getElem? hy)
          have jr := hj
          rw [List.length_map] at jr
          have rl2 : r.length ≤ A.length := len_range (mA.nd _ _ hr0) fun y hy => ⟨(mA.rg _ _ hr0 y hy).1, (mA.rg _ _ hr0 y hy).2.1⟩
          walk_at "rd"
          refine r_ixL (SqL.of (e3 _ _ (e2 _ _ hc))) (ix_nmF yr.1 (by rw [nam.len]; exact yr.2.1)) ?_
          refine ⟨a3, by rw [List.length_map, List.length_map, List.length_take]; exact small_line (by omega), cturn hj ⟨_, rfl, ?_, Same.fresh e3 hac2, upd_same⟩⟩
          rw [List.take_succ, hy]
          simp
        · rintro σ' ys H3 ⟨v, rfl, rfl, e3, a3⟩
          rw [List.length_map, List.take_length] at a3
          have e03 := e2.trans e3
          have ac2H := e2.free hac2
          refine ⟨_, rfl, _, rfl, _, rfl, r_ixL (SqL.of (e03 _ _ hc)) (ix_nmF (x := (i : Int)) (by omega) (by rw [nam.len]; omega)) ?_⟩
          have g3 := g2.same e3
          refine ⟨acc, _, _, (nmF l (i : Int)).toNat, rfl, rfl, g3.top, ixN_of rr.1 (by rw [List.length_map, g3.len, rl]; exact rr.2), ?_⟩
          have nb : ac2 ≠ acc := fun z => by rw [z, g2.top] at hac2; cases hac2
          refine ⟨_, R.set (nmF l (i : Int)).toNat (r.map (nmF l)), _, rfl, Same.fresh e03 hacc, g3.setRow na2 nb a3, ?_, by rw [List.length_set]; exact rl, fun j j0 j1 => ?_⟩
          · intro z
            rcases List.mem_or_eq_of_mem_set z with z | z
            · exact na2 z
            · exact nb z.symm
          · by_cases ej : j = (i : Int)
            · subst ej
              rw [er, List.getElem?_set_self (by rw [rl]; have := rr.2; omega)]
            · rw [List.getElem?_set_ne (fun z => ej ?_)]
              · exact rows j j0 (by omega)
              · have rj := nam.rgF (i := j) j0 (by omega)
                exact nam.inj j0 (by omega) (by omega) (by omega) (by omega)
      · rintro σ H2 ⟨cs, R, v, rfl, e2, g2, na2, rl, rows⟩
        walk_at "rd"
        exact q acc cs R H2 e2 g2 hacc ⟨rl, rows⟩
theorem sc__law_begun : FnScope ["_law_script", "_law_start", "_law_orders", "_law_found", "_law_k", "_law_at"] ["_law_script", "_law_start", "_law_orders"] (defScope s__law_begun) := ⟨rfl, rfl, rfl, by decide +kernel, rfl, by decide +kernel, by decide +kernel⟩
theorem ok__law_begun (D : Def K mg "_law_begun" s__law_begun ["_law_script", "_law_start", "_law_orders"]) (T : Txt K mg Z) (h__law_mixed : Has P w K mg base (CXe P w) "_law_mixed" 2 ["_law_script", "_law_k"] (sp_mixed K)) : Has P w K mg base (CXe P w) "_law_begun" 3 ["_law_script", "_law_start", "_law_orders"] (sp_begun K) := by
  refine D.hasN sc__law_begun (fun vs H Q E h => ?_) (fun f cdv A outer s H vs Q E hr h => ?_)
  · obtain ⟨a, p, ns, st, as, A, rfl, _⟩ := h; rfl
  · obtain ⟨a, p, ns, st, as, A, rfl, hS, s0, s1, g, hn, hrl, q⟩ := h
    refine ⟨_, (pss_cons (ps_set (i := 3) sc__law_begun.nd rfl (by first | exact Or.inl rfl | exact Or.inr rfl) (pe_lst pa_nil))
      (pss_cons (ps_for PassesOwn.never rfl (pi_range1 rfl T.range (pa_cons (pe_callB call_len (by rfl) T.len bt_len (pa_cons (pv 2) pa_nil)) pa_nil)) (pg_name (i := 4) sc__law_begun.nd rfl (by first | exact Or.inl rfl | exact Or.inr rfl))
      (pss_cons (ps_set (i := 5) sc__law_begun.nd rfl (by first | exact Or.inl rfl | exact Or.inr rfl) (pe_op op_mod (pe_callH h__law_mixed hr passN (pa_cons (pv 0) (pa_cons (pe_op op_add (pv 1) (pv 4)) pa_nil))) (pe_callB (call_max2 rfl) (by rfl) T.max bt_max (pa_cons pe_int (pa_cons (pe_callB call_len (by rfl) T.len bt_len (pa_cons (pe_ix ix_list (pv 2) (pv 4) (fun _ _ => rfl)) pa_nil)) pa_nil)))))
      (pss_one (ps_expr (pe_bm PySem.F.plainAttrs_list PySem.F.slot_list_append PySem.F.type_list_append mt_append (pv 3) (pa_cons (pe_op op_cat (pe_slice sl_list (pe_ix ix_list (pv 2) (pv 4) (fun _ _ => rfl)) (po_some (pv 5)) po_none) (pe_slice sl_list (pe_ix ix_list (pv 2) (pv 4) (fun _ _ => rfl)) po_none (po_some (pv 5)))) pa_nil))))))
      (pss_one (ps_ret (pv 3))))), ?_⟩
    dsimp only [cx_K]
    walk_at "rd"
    refine ⟨Nat.zero_le _, fun fd hfd => ?_⟩
    have e1 : Same H (upd H fd (.lst [])) := Same.upd hfd
    refine r_for ?_
    refine ⟨_, rfl, _, _, rfl, .inl ⟨_, SqL.of (e1 _ _ g.top), rfl⟩, (A.length : Int), by rw [List.length_map, g.len], by omega, by omega, ?_⟩
    rw [Int.toNat_natCast]
    refine for_range (fun i σ H1 => ∃ (cs : List Addr) (R : List (List Int)) (v4 v5 : Option V), σ = [some (.ref a), some (.int st), some (.ref p), some (.ref fd), v4, v5] ∧ Same H H1 ∧ Grid H1 fd cs R ∧ fd ∉ cs ∧ R.length = i ∧ ∀ (j : Nat) (r l : List Int), R[j]? = some r → A[j]? = some l → RotEq r l)
      ⟨[], [], none, none, rfl, e1, ⟨upd_same, rfl, fun i b l z => by simp at z⟩, by simp, rfl, fun j r l z => by simp at z⟩ ?_ ?_
    · rintro i σ H1 hi ⟨cs, R, v4, v5, rfl, e2, g2, na, rl, rows⟩
      simp only [Int.zero_add]
      obtain ⟨b, r, ha, hr0, hrow⟩ := g.at hi
      have rs := hrl r (List.mem_of_getElem? hr0)
      have hrow2 := e2 _ _ hrow
      walk_at "rd"
      refine ⟨a, ns, _, rfl, e2.seq hS, by omega, by omega, fun nb b0 b1 => ?_⟩
      walk_at "rd"
      refine r_ixL (SqL.of (e2 _ _ g.top)) (g.ix ha) ?_
      walk_at "rd"
      refine ⟨_, _, rfl, .inl ⟨_, SqL.of hrow2, rfl⟩, ?_⟩
      rw [List.length_map]
      walk_at "rd"
      refine ⟨_, _, rfl, ?_⟩
      obtain ⟨mx, hmx, hm0, hm1⟩ : ∃ mx : Int, (if (r.length : Int) > 1 then (r.length : Int) else 1) = mx ∧ 0 < mx ∧ (mx = r.length ∨ (mx = 1 ∧ r.length = 0)) := by
        by_cases z : (r.length : Int) > 1
        · exact ⟨_, if_pos z, by omega, by omega⟩
        · exact ⟨_, if_neg z, by omega, by omega⟩
      rw [hmx]
      walk_at "rd"
      have d0 := Int.emod_nonneg nb (show mx ≠ 0 by omega)
      have d1 := Int.emod_lt_of_pos nb hm0
      obtain ⟨k, hk⟩ : ∃ k : Nat, nb % mx = (k : Int) := ⟨_, (Int.toNat_of_nonneg d0).symm⟩
      rw [hk] at d1 ⊢
      have kl : k ≤ r.length := by omega
      refine ⟨.inl ⟨rfl, _, SqL.of g2.top⟩, ?_⟩
      walk_at "rd"
      refine r_slice ?_
      walk_at "rd"
      refine r_ixL (SqL.of (e2 _ _ g.top)) (g.ix ha) ?_
      refine ⟨_, rfl, ⟨_, rfl, ⟨b, _, rfl, SqL.of hrow2, fun p1 hp1 => ?_⟩⟩⟩
      rw [cut_drop kl]
      have e3 : Same H1 (upd H1 p1 (.lst ((r.drop k).map V.int))) := Same.upd hp1
      refine r_slice ?_
      walk_at "rd"
      refine r_ixL (SqL.of (e3 _ _ (e2 _ _ g.top))) (g.ix ha) ?_
      refine ⟨_, rfl, ⟨_, rfl, ⟨b, _, rfl, SqL.of (e3 _ _ hrow2), fun p2 hp2 => ?_⟩⟩⟩
      rw [cut_take kl]
      have e4 := e3.trans (Same.upd (o := .lst ((r.take k).map V.int)) hp2)
      have x1 : upd (upd H1 p1 (.lst ((r.drop k).map V.int))) p2 (.lst ((r.take k).map V.int)) p1 = some (.lst ((r.drop k).map V.int)) := by rw [upd_ne (ne_of_none upd_same hp2)]; exact upd_same
      refine ⟨p1, p2, _, _, rfl, rfl, x1, upd_same, by rw [List.length_map, List.length_map, List.length_drop, List.length_take, PySem.sizeLine_eq]; omega, fun d hd => ?_⟩
      generalize upd (upd H1 p1 (.lst ((r.drop k).map V.int))) p2 (.lst ((r.take k).map V.int)) = H3 at e4 x1 hd ⊢
      have er : (r.drop k).map V.int ++ (r.take k).map V.int = (rot r k).map V.int := by unfold rot; rw [List.map_append]
      rw [er]
      have e5 := e4.trans (Same.upd (o := .lst ((rot r k).map V.int)) hd)
      have d5 : upd H3 d (.lst ((rot r k).map V.int)) d = some (.lst ((rot r k).map V.int)) := upd_same
      have nd : d ≠ fd := fun z => by rw [z] at hd; exact absurd (e4 _ _ g2.top) (by rw [hd]; simp)
      generalize upd H3 d (.lst ((rot r k).map V.int)) = H5 at e5 d5 ⊢
      have g5 := g2.same e5
      walk_at "rd"
      refine r_append g5.top (by rw [List.length_map, g5.len]; exact small_line (by omega)) ?_
      refine ⟨cs ++ [d], R ++ [rot r k], _, _, rfl, Same.fresh (e2.trans e5) hfd, g5.snoc na nd d5, ?_, by rw [List.length_append, rl]; rfl, fun j r' l' h1 h2 => ?_⟩
      · intro z
        rcases List.mem_append.mp z with z | z
        · exact na z
        · exact nd (List.mem_singleton.mp z).symm
      · by_cases z : j < R.length
        · rw [List.getElem?_append_left z] at h1
          exact rows j r' l' h1 h2
        · have jl := (List.getElem?_eq_some_iff.mp h1).1
          rw [List.length_append, List.length_singleton] at jl
          have ej : j = i := by omega
          subst ej
          rw [List.getElem?_append_right (by omega), rl, Nat.sub_self] at h1
          rw [hr0] at h2
          cases h2
          have e' : rot r k = r' := by simpa using h1
          rw [← e']
          rcases hm1 with hm1 | ⟨hm1, z0⟩
          · exact .inr ⟨k, by omega, rfl⟩
          · have : r = [] := List.length_eq_zero_iff.mp z0
            subst this
            exact .inl (by unfold rot; simp)
    · rintro σ H1 ⟨cs, R, v4, v5, rfl, e2, g2, na, rl, rows⟩
      walk_at "rd"
      exact q fd cs R H1 e2 g2 hfd rl rows
theorem sc__law_same : FnScope ["_law_one", "_law_other", "_law_mine", "_law_yours", "_law_at"] ["_law_one", "_law_other"] (defScope s__law_same) := ⟨rfl, rfl, rfl, by decide +kernel, rfl, by decide +kernel, by decide +kernel⟩
theorem ok__law_same (D : Def K mg "_law_same" s__law_same ["_law_one", "_law_other"]) (T : Txt K mg Z) : Has P w K mg base (CXe P w) "_law_same" 1 ["_law_one", "_law_other"] sp_sameD := by
  refine D.hasN sc__law_same (fun vs H Q E h => ?_) (fun f cdv A outer s H vs Q E hr h => ?_)
  · obtain ⟨p, t, as, bs, L, M, rfl, _⟩ := h; rfl
  · obtain ⟨p, t, as, bs, L, M, rfl, g, k, hlm, hL, hM, hn, q, qf⟩ := h
    refine ⟨_, (pss_cons (ps_for PassesOwn.never rfl (pi_zip T.zip (pa_cons (pv 0) (pa_cons (pv 1) pa_nil))) (pg_tup (n := 2) rfl (pgs_cons (pg_name (i := 2) sc__law_same.nd rfl (by first | exact Or.inl rfl | exact Or.inr rfl)) (pgs_cons (pg_name (i := 3) sc__law_same.nd rfl (by first | exact Or.inl rfl | exact Or.inr rfl)) pgs_nil)))
      (pss_cons (ps_if (pt_cmpR op_ne (pe_callB call_len (by rfl) T.len bt_len (pa_cons (pv 2) pa_nil)) (pe_callB call_len (by rfl) T.len bt_len (pa_cons (pv 3) pa_nil)) (nomark _)) (pss_one (ps_ret pe_bl)) pss_nil)
      (pss_cons (ps_if (PW.pt (pw_and (pt_cmpR (op_neD hr.units) (pv 2) (pe_lst pa_nil) (nomark _)) (pw_and1 (pt_cmpR op_notIn_seq (pe_ix ix_list (pv 2) pe_int (fun _ _ => rfl)) (pv 3) (by with_unfolding_all rfl))))) (pss_one (ps_ret pe_bl)) pss_nil)
      (pss_cons (ps_set (i := 4) sc__law_same.nd rfl (by first | exact Or.inl rfl | exact Or.inr rfl) pe_int)
      (pss_cons (ps_if (pt_cmpR (op_neD hr.units) (pv 2) (pe_lst pa_nil) (nomark _)) (pss_one (ps_set (i := 4) sc__law_same.nd rfl (by first | exact Or.inl rfl | exact Or.inr rfl) (pe_bm PySem.F.plainAttrs_list PySem.F.slot_list_index PySem.F.type_list_index mt_index (pv 3) (pa_cons (pe_ix ix_list (pv 2) pe_int (fun _ _ => rfl)) pa_nil)))) pss_nil)
      (pss_one (ps_if (pt_cmpR (op_neD hr.units) (pe_op op_cat (pe_slice sl_list (pv 3) (po_some (pv 4)) po_none) (pe_slice sl_list (pv 3) po_none (po_some (pv 4)))) (pv 2) (nomark _)) (pss_one (ps_ret pe_bl)) pss_nil)))))))
      (pss_one (ps_ret (pe_cmpR op_eq (pe_callB call_len (by rfl) T.len bt_len (pa_cons (pv 0) pa_nil)) (pe_callB call_len (by rfl) T.len bt_len (pa_cons (pv 1) pa_nil)) (nomark _))))), ?_⟩
    dsimp only [cx_K]
    walk_at "rd"
    refine r_for ?_
    refine ⟨_, rfl, _, rfl, p, t, rfl, ⟨_, SqL.of g.top⟩, ⟨_, SqL.of k.top⟩, for_zip (K := K) (a := p) (b := t) (xs := as.map V.ref) (ys := bs.map V.ref) (fun i σ H1 => ∃ v2 v3 v4 : Option V, σ = [some (.ref p), some (.ref t), v2, v3, v4] ∧ Same H H1 ∧ ∀ (j : Nat) (l m : List Int), j < i → L[j]? = some l → M[j]? = some m → RotEq l m) ⟨none, none, none, rfl, fun _ _ e => e, fun j l m z => by omega⟩ (by rw [List.length_map, List.length_map, g.len, k.len, hlm]) (fun i σ H1 _ ⟨_, _, _, _, e, _⟩ => ⟨SqL.of (e _ _ g.top), SqL.of (e _ _ k.top)⟩) ?_ ?_⟩
    · rintro i x y pr σ H1 hx hy ⟨v2, v3, v4, rfl, e1, rot1⟩ hpr
      have hi : i < L.length := by
        have := (List.getElem?_eq_some_iff.mp hx).1
        rw [List.length_map, g.len] at this
        exact this
      obtain ⟨b, l, hb, hl, hrow⟩ := g.at hi
      obtain ⟨c, m, hc, hm, hrow2⟩ := k.at (i := i) (by omega)
      obtain rfl : x = V.ref b := by
        rw [List.getElem?_map, hb] at hx
        exact (Option.some.inj hx).symm
      obtain rfl : y = V.ref c := by
        rw [List.getElem?_map, hc] at hy
        exact (Option.some.inj hy).symm
      obtain ⟨nm, lm⟩ := hM m (List.mem_of_getElem? hm)
      have lL := hL l (List.mem_of_getElem? hl)
      have nxt : RotEq l m → ∀ (j : Nat) (l m : List Int), j < i + 1 → L[j]? = some l → M[j]? = some m → RotEq l m := fun rq j l' m' hj h1 h2 => by
        by_cases z : j = i
        · subst z
          rw [hl] at h1
          rw [hm] at h2
          cases h1
          cases h2
          exact rq
        · exact rot1 j l' m' (by omega) h1 h2
      have bad : ¬ RotEq l m → ¬ ∀ (i : Nat) (l m : List Int), L[i]? = some l → M[i]? = some m → RotEq l m := fun z a => z (a i l m hl hm)
      have e2 : Same H1 (upd H1 pr (.tup [.ref b, .ref c])) := Same.upd hpr
      refine r_gtup (SqT.of upd_same) rfl ?_
      generalize upd H1 pr (.tup [.ref b, .ref c]) = H2 at e2 ⊢
      have e02 := e1.trans e2
      have hb2 := e02 _ _ hrow
      have hc2 := e02 _ _ hrow2
      walk_at "rd"
      refine ⟨_, _, rfl, .inl ⟨_, SqL.of hb2, rfl⟩, ?_⟩
      walk_at "rd"
      refine ⟨_, _, rfl, .inl ⟨_, SqL.of hc2, rfl⟩, ?_⟩
      rw [List.length_map, List.length_map]
      walk_at "rd"
      refine if2n (fun z => ?_) (fun z => ?_)
      · walk_at "rd"
        exact qf (bad fun rq => z (by rw [rq.len])) _ e02
      have ll : l.length = m.length := by omega
      walk_at "rd"
      refine ⟨Nat.zero_le _, fun z1 hz1 => ?_⟩
      have e3 : Same H2 (upd H2 z1 (.lst [])) := Same.upd hz1
      refine ⟨dInts l, dInts [], rds_row (e3 _ _ hb2), rds_row upd_same, shaped_ints _, shaped_ints _, ?_⟩
      rw [if_pos rfl, eqv_row]
      generalize upd H2 z1 (.lst []) = H3 at e3 ⊢
      have hb3 := e3 _ _ hb2
      have hc3 := e3 _ _ hc2
      cases l with
      | nil =>
        have m0 : m = [] := by cases m with | nil => rfl | cons _ _ => simp at ll
        subst m0
        rw [decide_eq_true rfl]
        walk_at "rd"
        refine ⟨Nat.zero_le _, fun z2 hz2 => ?_⟩
        have e4 : Same H3 (upd H3 z2 (.lst [])) := Same.upd hz2
        refine ⟨dInts [], dInts [], rds_row (e4 _ _ hb3), rds_row upd_same, shaped_ints _, shaped_ints _, ?_⟩
        rw [if_pos rfl, eqv_row, decide_eq_true rfl]
        generalize upd H3 z2 (.lst []) = H4 at e4 ⊢
        walk_at "rd"
        refine r_cutFrom (a := c) (i := 3) (k := 4) (n := 0) (r := []) rfl rfl (SqL.of (e4 _ _ hc3)) (by simp) fun p1 hp1 => ?_
        have e5 : Same H4 (upd H4 p1 (.lst ((([] : List Int).drop 0).map V.int))) := Same.upd hp1
        refine r_cutTo (a := c) (i := 3) (k := 4) (n := 0) (r := []) rfl rfl (SqL.of (e5 _ _ (e4 _ _ hc3))) (by simp) fun p2 hp2 => ?_
        have e6 := e5.trans (Same.upd (o := .lst ((([] : List Int).take 0).map V.int)) hp2)
        have x1 : upd (upd H4 p1 (.lst ((([] : List Int).drop 0).map V.int))) p2 (.lst ((([] : List Int).take 0).map V.int)) p1 = some (.lst ((([] : List Int).drop 0).map V.int)) := by rw [upd_ne (ne_of_none upd_same hp2)]; exact upd_same
        refine ⟨p1, p2, _, _, rfl, rfl, x1, upd_same, by simp, fun d hd => ?_⟩
        generalize upd (upd H4 p1 (.lst ((([] : List Int).drop 0).map V.int))) p2 (.lst ((([] : List Int).take 0).map V.int)) = H6 at e6 hd ⊢
        have e7 := e6.trans (Same.upd (o := .lst ((([] : List Int).drop 0).map V.int ++ (([] : List Int).take 0).map V.int)) hd)
        have d7 : upd H6 d (.lst ((([] : List Int).drop 0).map V.int ++ (([] : List Int).take 0).map V.int)) d = some (.lst (([] : List Int).map V.int)) := upd_same
        generalize upd H6 d (.lst ((([] : List Int).drop 0).map V.int ++ (([] : List Int).take 0).map V.int)) = H7 at e7 d7 ⊢
        walk_at "rd"
        refine ⟨dInts [], dInts [], rds_row d7, rds_row (e7 _ _ (e4 _ _ hb3)), shaped_ints _, shaped_ints _, ?_⟩
        rw [if_pos rfl, eqv_row, decide_eq_true rfl]
        walk_at "rd"
        exact ⟨_, _, _, rfl, ((e02.trans e3).trans e4).trans e7, nxt (.inl rfl)⟩
      | cons x l =>
        by_cases xm : x ∈ m
        case neg =>
          rw [decide_eq_false (by simp)]
          walk_at "rd"
          refine r_ixL (SqL.of hb3) (show atI ((x :: l).map V.int) ((0 : Nat) : Int) = some (V.int x) from atI_nat (by simp)) ?_
          walk_at "rd"
          refine r_in (x := x) (SqL.of hc3) ?_
          rw [if_pos rfl, decide_eq_false xm]
          walk_at "rd"
          exact qf (bad fun rq => xm (rq.perm.mem_iff.mp List.mem_cons_self)) _ (e02.trans e3)
        have ix := List.idxOf_lt_length_of_mem xm
        rw [decide_eq_false (by simp)]
        walk_at "rd"
        refine r_ixL (SqL.of hb3) (show atI ((x :: l).map V.int) ((0 : Nat) : Int) = some (V.int x) from atI_nat (by simp)) ?_
        walk_at "rd"
        refine r_in (x := x) (SqL.of hc3) ?_
        rw [if_pos rfl, decide_eq_true xm]
        walk_at "rd"
        refine ⟨Nat.zero_le _, fun z2 hz2 => ?_⟩
        have e4 : Same H3 (upd H3 z2 (.lst [])) := Same.upd hz2
        refine ⟨dInts (x :: l), dInts [], rds_row (e4 _ _ hb3), rds_row upd_same, shaped_ints _, shaped_ints _, ?_⟩
        rw [if_pos rfl, eqv_row, decide_eq_false (by simp)]
        generalize upd H3 z2 (.lst []) = H4 at e4 ⊢
        have hb4 := e4 _ _ hb3
        have hc4 := e4 _ _ hc3
        walk_at "rd"
        refine ⟨.inl ⟨rfl, _, SqL.of hc4⟩, ?_⟩
        walk_at "rd"
        refine r_ixL (SqL.of hb4) (show atI ((x :: l).map V.int) ((0 : Nat) : Int) = some (V.int x) from atI_nat (by simp)) ?_
        walk_at "rd"
        refine ⟨c, m, x, rfl, rfl, hc4, xm, ?_⟩
        walk_at "rd"
        refine r_cutFrom (a := c) (i := 3) (k := 4) (n := m.idxOf x) (r := m) rfl rfl (SqL.of hc4) (by omega) fun p1 hp1 => ?_
        have e5 : Same H4 (upd H4 p1 (.lst ((m.drop (m.idxOf x)).map V.int))) := Same.upd hp1
        refine r_cutTo (a := c) (i := 3) (k := 4) (n := m.idxOf x) (r := m) rfl rfl (SqL.of (e5 _ _ hc4)) (by omega) fun p2 hp2 => ?_
        have e6 := e5.trans (Same.upd (o := .lst ((m.take (m.idxOf x)).map V.int)) hp2)
        have x1 : upd (upd H4 p1 (.lst ((m.drop (m.idxOf x)).map V.int))) p2 (.lst ((m.take (m.idxOf x)).map V.int)) p1 = some (.lst ((m.drop (m.idxOf x)).map V.int)) := by rw [upd_ne (ne_of_none upd_same hp2)]; exact upd_same
        refine ⟨p1, p2, _, _, rfl, rfl, x1, upd_same, by rw [List.length_map, List.length_map, List.length_drop, List.length_take, PySem.sizeLine_eq]; omega, fun d hd => ?_⟩
        generalize upd (upd H4 p1 (.lst ((m.drop (m.idxOf x)).map V.int))) p2 (.lst ((m.take (m.idxOf x)).map V.int)) = H6 at e6 hd ⊢
        have er2 : (m.drop (m.idxOf x)).map V.int ++ (m.take (m.idxOf x)).map V.int = (rot m (m.idxOf x)).map V.int := by unfold rot; rw [← List.map_append]
        rw [er2]
        have e7 := e6.trans (Same.upd (o := .lst ((rot m (m.idxOf x)).map V.int)) hd)
        have d7 : upd H6 d (.lst ((rot m (m.idxOf x)).map V.int)) d = some (.lst ((rot m (m.idxOf x)).map V.int)) := upd_same
        generalize upd H6 d (.lst ((rot m (m.idxOf x)).map V.int)) = H7 at e7 d7 ⊢
        walk_at "rd"
        refine ⟨dInts (rot m (m.idxOf x)), dInts (x :: l), rds_row d7, rds_row (e7 _ _ hb4), shaped_ints _, shaped_ints _, ?_⟩
        rw [if_pos rfl, eqv_row]
        by_cases er : rot m (m.idxOf x) = x :: l
        · rw [decide_eq_true er]
          walk_at "rd"
          exact ⟨_, _, _, rfl, ((e02.trans e3).trans e4).trans e7, nxt (.inr ⟨m.idxOf x, ix, er.symm⟩)⟩
        · rw [decide_eq_false er]
          walk_at "rd"
          exact qf (bad fun rq => er (rq.idx nm rfl).2) _ (((e02.trans e3).trans e4).trans e7)
    · rintro σ H1 ⟨v2, v3, v4, rfl, e1, rot1⟩
      walk_at "rd"
      refine ⟨_, _, rfl, .inl ⟨_, SqL.of (e1 _ _ g.top), rfl⟩, ?_⟩
      walk_at "rd"
      refine ⟨_, _, rfl, .inl ⟨_, SqL.of (e1 _ _ k.top), rfl⟩, ?_⟩
      rw [List.length_map, List.length_map, g.len, k.len, hlm]
      walk_at "rd"
      rw [decide_eq_true rfl]
      exact q (fun i l m h1 h2 => rot1 i l m (by rw [List.length_map, g.len]; exact (List.getElem?_eq_some_iff.mp h1).1) h1 h2) _ e1
theorem sc_renamed : FnScope ["orders", "names", "changed", "place", "order"] ["orders", "names"] (defScope s_renamed) := ⟨rfl, rfl, rfl, by decide +kernel, rfl, by decide +kernel, by decide +kernel⟩
theorem ok_renamed (D : Def K mg "renamed" s_renamed ["orders", "names"]) (T : Txt K mg Z) : Has P w K mg base (CXe P w) "renamed" 1 ["orders", "names"] (sp_renamedP Z.NoNames) := by
  refine D.hasE sc_renamed (fun vs H Q E h => ?_) (fun f cdv A0 outer s H vs Q E hr h => ?_)
  · obtain ⟨p, c, as, A, l, rfl, _⟩ := h; rfl
  · obtain ⟨p, c, as, A, l, rfl, g, hc, mA, hl, hn, q, qE⟩ := h
    refine ⟨_, (pss_cons (ps_if (pt_cmpR (op_neD hr.units) (pe_callB call_sorted (by rfl) T.sorted bt_sorted (pa_cons (pv 1) pa_nil)) (pe_listrange rfl T.range T.list (pe_callB call_len (by rfl) T.len bt_len (pa_cons (pv 0) pa_nil))) (nomark _)) (pss_one (ps_raise PySem.F.excBase_ValueError T.x_NoNames T.c_NoNames rfl (pa_cons pe_str pa_nil) raiseE)) pss_nil)
      (pss_cons (ps_setC (i := 2) sc_renamed.nd rfl (by first | exact Or.inl rfl | exact Or.inr rfl) (tg := ["order"]) (fr := []) (by walk_at "blk_ok") rfl (pi_list (pv 0)) (fun _ _ _ _ _ => (pg_name (i := 0) (show [("order" : Str)].Nodup by decide +kernel) rfl (by first | exact Or.inl rfl | exact Or.inr rfl))) (fun _ _ _ _ _ => pifs_nil) (fun _ _ _ _ _ => (pe_lst pa_nil)))
      (pss_cons (ps_for PassesOwn.leaving rfl (pi_enum T.enumerate (pa_cons (pv 0) pa_nil)) (pg_tup (n := 2) rfl (pgs_cons (pg_name (i := 3) sc_renamed.nd rfl (by first | exact Or.inl rfl | exact Or.inr rfl)) (pgs_cons (pg_name (i := 4) sc_renamed.nd rfl (by first | exact Or.inl rfl | exact Or.inr rfl)) pgs_nil)))
      (pss_one (ps_asg (pe_comp (tg := ["neighbour"]) (fr := [("names", 1)]) (by walk_at "blk_ok") rfl (pi_list (pv 4)) (fun _ _ _ _ _ => (pg_name (i := 0) (show [("neighbour" : Str), ("names" : Str)].Nodup by decide +kernel) rfl (by first | exact Or.inl rfl | exact Or.inr rfl))) (fun _ _ _ _ _ => pifs_nil) (fun _ _ _ _ _ => (pe_ix (ix_listK (K := K) rfl) (pv 1) (pv 0) (fun _ _ => rfl)))) (pg_sub (pv 2) (pe_ix ix_list (pv 1) (pv 3) (fun _ _ => rfl)) set_list))))
      (pss_one (ps_ret (pv 2)))))), ?_⟩
    dsimp only [cx_K]
    walk_at "rd"
    refine ⟨c, l, rfl, SqL.of hc, by omega, fun l' p1 pm so hp1 => ?_⟩
    have e1 : Same H (upd H p1 (.lst (l'.map V.int))) := Same.upd hp1
    have x1 : upd H p1 (.lst (l'.map V.int)) p1 = some (.lst (l'.map V.int)) := upd_same
    generalize upd H p1 (.lst (l'.map V.int)) = H1 at e1 x1 ⊢
    walk_at "rd"
    refine r_listrng ?_
    walk_at "rd"
    refine ⟨_, _, rfl, .inl ⟨_, SqL.of (e1 _ _ g.top), rfl⟩, A.length, by rw [List.length_map, g.len], by omega, fun z hz => ?_⟩
    have e2 : Same H1 (upd H1 z (.lst ((upto A.length).map V.int))) := Same.upd hz
    refine ⟨dInts l', dInts (upto A.length), rds_row (e2 _ _ x1), rds_row upd_same, shaped_ints _, shaped_ints _, ?_⟩
    rw [if_pos rfl, eqv_row]
    generalize upd H1 z (.lst ((upto A.length).map V.int)) = H2 at e2 ⊢
    have e02 := e1.trans e2
    walk_at "rd"
    refine if2n (fun hne => ?_) (fun heq => ?_)
    · walk_at "rd"
      exact ⟨by rw [PySem.sizeLine_eq]; simp, qE (fun nam => hne (nam.sorted pm so)) _ e02⟩
    · have nam : Nam A.length l := Nam.of_perm (heq ▸ pm.symm)
      have q := q nam
      clear qE
      have g2 := g.same e02
      have hc2 := e02 _ _ hc
      walk_at "rd"
      refine r_comp ?_
      refine ⟨_, rfl, p, rfl, ⟨_, SqL.of g2.top⟩, fun acc hacc => ?_⟩
      have haccH := e02.free hacc
      refine comp_list (K := K) (a := p) (xs := as.map V.ref) (fun i σ' ys H1 => ∃ (cs : List Addr) (v : Option V), σ' = [v] ∧ ys = cs.map V.ref ∧ cs.length = i ∧ Same H2 H1 ∧ H1 acc = some (.lst ys) ∧ acc ∉ cs ∧ ∀ b ∈ cs, H1 b = some (.lst []))
        ⟨[], none, rfl, rfl, rfl, Same.upd hacc, upd_same, by simp, by simp⟩ (fun i σ' ys H1 _ ⟨_, _, _, _, _, e, _⟩ => SqL.of (e _ _ g2.top)) ?_ ?_
      · rintro i x σ' ys H1 hx hi ⟨cs, v, rfl, rfl, rfl, e1, h1, na, hb⟩
        have hi' := hi
        rw [List.length_map, g.len] at hi'
        walk_at "rd"
        refine ⟨Nat.zero_le _, fun b hb0 => ⟨by rw [upd_ne (ne_of_none h1 hb0)]; exact h1, by rw [List.length_map]; exact small_line (by omega), cturn hi ⟨cs ++ [b], _, rfl, by simp, by simp, Same.fresh (Same.fresh e1 (e1.free hb0)) hacc, upd_same, ?_, ?_⟩⟩⟩
        · intro z
          rcases List.mem_append.mp z with z | z
          · exact na z
          · exact ne_of_none h1 hb0 (List.mem_singleton.mp z)
        · intro d hd
          have da : d ≠ acc := fun z => by
            subst z
            rcases List.mem_append.mp hd with z | z
            · exact na z
            · exact ne_of_none h1 hb0 (List.mem_singleton.mp z)
          rw [upd_ne da]
          rcases List.mem_append.mp hd with z | z
          · rw [upd_ne (ne_of_none (hb d z) hb0)]; exact hb d z
          · rw [List.mem_singleton.mp z]; exact upd_same
      · rintro σ' ys H3 ⟨cs, v, rfl, rfl, hcs, e3, h3, na, hb⟩
        rw [List.length_map, g.len] at hcs
        have e03 := e02.trans e3
        have g3 := g2.same e3
        walk_at "rd"
        refine r_for ?_
        refine ⟨_, rfl, p, rfl, ⟨_, SqL.of g3.top⟩, for_enum (K := K) (a := p) (xs := as.map V.ref) (fun i σ H2 => ∃ (cs : List Addr) (R : List (List Int)) (v v' : Option V), σ = [some (.ref p), some (.ref c), some (.ref acc), v, v'] ∧ Same H H2 ∧ Grid H2 acc cs R ∧ acc ∉ cs ∧ R.length = A.length ∧ ∀ j : Int, 0 ≤ j → j < i → R[(nmF l j).toNat]? = some ((rowOf A j).map (nmF l)))
          ⟨cs, List.replicate A.length [], none, none, rfl, e03, ⟨h3, by simp [hcs], fun i b l h2 h3 => ?_⟩, na, by simp, fun j j0 j1 => by omega⟩ (fun i σ H1 _ ⟨_, _, _, _, _, e, _⟩ => SqL.of (e _ _ g.top)) ?_ ?_⟩
        · rw [List.getElem?_replicate] at h3
          split at h3
          · cases h3; exact hb b (List.mem_of_getElem? h2)
          · cases h3
        · rintro i x pr σ H4 hx ⟨cs, R, v, v', rfl, e4, g4, na4, rl, rows⟩ hpr
          have hi : i < A.length := by
            have := (List.getElem?_eq_some_iff.mp hx).1
            rw [List.length_map, g.len] at this
            exact this
          obtain ⟨b, r, ha, hr0, hrow⟩ := g.at hi
          obtain rfl : x = V.ref b := by
            rw [List.getElem?_map, ha] at hx
            exact (Option.some.inj hx).symm
          have er := rowOf_nat hr0
          have rr := nam.rgF (i := (i : Int)) (by omega) (by omega)
          have e5 : Same H4 (upd H4 pr (.tup [.int i, .ref b])) := Same.upd hpr
          refine r_gtup (SqT.of upd_same) rfl ?_
          generalize upd H4 pr (.tup [.int i, .ref b]) = H5 at e5 ⊢
          have e05 := e4.trans e5
          have g5 := g4.same e5
          walk_at "rd"
          refine r_comp ?_
          refine ⟨_, rfl, b, rfl, ⟨_, SqL.of (e05 _ _ hrow)⟩, fun ac2 hac2 => ?_⟩
          refine comp_list (K := K) (a := b) (xs := r.map V.int) (fun j σ' ys H3 => ∃ v : Option V, σ' = [v, some (.ref c)] ∧ ys = ((r.take j).map (nmF l)).map V.int ∧ Same H5 H3 ∧ H3 ac2 = some (.lst ys))
            ⟨none, rfl, rfl, Same.upd hac2, upd_same⟩ (fun j σ' ys H3 _ ⟨_, _, _, e, _⟩ => SqL.of (e _ _ (e05 _ _ hrow))) ?_ ?_
          · rintro j x σ' ys H6 hx hj ⟨v, rfl, rfl, e6, a6⟩
            obtain ⟨y, hy, rfl⟩ : ∃ y, r[j]? = some y ∧ x = V.int y := by
              rw [List.getElem?_map] at hx
              cases e : r[j]? with
              | none => rw [e] at hx; cases hx
              | some z => rw [e] at hx; exact ⟨z, rfl, (Option.some.inj hx).symm⟩
            have yr := mA.rg _ _ hr0 y (List.mem_of_getElem? hy)
            have jr := hj
            rw [List.length_map] at jr
            have rl2 : r.length ≤ A.length := len_range (mA.nd _ _ hr0) fun y hy => ⟨(mA.rg _ _ hr0 y hy).1, (mA.rg _ _ hr0 y hy).2.1⟩
            walk_at "rd"
            refine r_ixL (SqL.of (e6 _ _ (e05 _ _ hc))) (ix_nmF yr.1 (by rw [nam.len]; exact yr.2.1)) ?_
            refine ⟨a6, by rw [List.length_map, List.length_map, List.length_take]; exact small_line (by omega), cturn hj ⟨_, rfl, ?_, Same.fresh e6 hac2, upd_same⟩⟩
            rw [List.take_succ, hy]
            simp
          · rintro σ' ys H6 ⟨v, rfl, rfl, e6, a6⟩
            rw [List.length_map, List.take_length] at a6
            have e06 := e05.trans e6
            have ac2H := e05.free hac2
            refine ⟨_, rfl, _, rfl, _, rfl, r_ixL (SqL.of (e06 _ _ hc)) (ix_nmF (x := (i : Int)) (by omega) (by rw [nam.len]; omega)) ?_⟩
            have g6 := g5.same e6
            refine ⟨acc, _, _, (nmF l (i : Int)).toNat, rfl, rfl, g6.top, ixN_of rr.1 (by rw [List.length_map, g6.len, rl]; exact rr.2), ?_⟩
            have nb : ac2 ≠ acc := fun z => by rw [z, g5.top] at hac2; cases hac2
            refine ⟨_, R.set (nmF l (i : Int)).toNat (r.map (nmF l)), _, _, rfl, Same.fresh e06 haccH, g6.setRow na4 nb a6, ?_, by rw [List.length_set]; exact rl, fun j j0 j1 => ?_⟩
            · intro z
              rcases List.mem_or_eq_of_mem_set z with z | z
              · exact na4 z
              · exact nb z.symm
            · by_cases ej : j = (i : Int)
              · subst ej
                rw [er, List.getElem?_set_self (by rw [rl]; have := rr.2; omega)]
              · rw [List.getElem?_set_ne (fun z => ej ?_)]
                · exact rows j j0 (by omega)
                · have rj := nam.rgF (i := j) j0 (by omega)
                  exact nam.inj j0 (by omega) (by omega) (by omega) (by omega)
        · rintro σ H4 ⟨cs, R, v, v', rfl, e4, g4, na4, rl, rows⟩
          rw [List.length_map, g.len] at rows
          walk_at "rd"
          exact q acc cs R H4 e4 g4 haccH ⟨rl, rows⟩
theorem sc_begun_at : FnScope ["order", "first", "where"] ["order", "first"] (defScope s_begun_at) := ⟨rfl, rfl, rfl, by decide +kernel, rfl, by decide +kernel, by decide +kernel⟩
theorem ok_begun_at (D : Def K mg "begun_at" s_begun_at ["order", "first"]) (T : Txt K mg Z) : Has P w K mg base (CXe P w) "begun_at" 1 ["order", "first"] sp_begunat := by
  refine D.hasN sc_begun_at (fun vs H Q E h => ?_) (fun f cdv A outer s H vs Q E hr h => ?_)
  · obtain ⟨a, l, x, rfl, _⟩ := h; rfl
  · obtain ⟨a, l, x, rfl, ha, hx, hl, q⟩ := h
    have ii := List.idxOf_lt_length_of_mem hx
    refine ⟨_, (pss_cons (ps_set (i := 2) sc_begun_at.nd rfl (by first | exact Or.inl rfl | exact Or.inr rfl) (pe_bm PySem.F.plainAttrs_list PySem.F.slot_list_index PySem.F.type_list_index mt_index (pv 0) (pa_cons (pv 1) pa_nil)))
      (pss_one (ps_ret (pe_op op_cat (pe_slice sl_list (pv 0) (po_some (pv 2)) po_none) (pe_slice sl_list (pv 0) po_none (po_some (pv 2))))))), ?_⟩
    dsimp only [cx_K]
    walk_at "rd"
    refine ⟨.inl ⟨rfl, _, SqL.of ha⟩, ?_⟩
    walk_at "rd"
    refine ⟨a, _, x, rfl, rfl, ha, hx, ?_⟩
    walk_at "rd"
    refine r_cutFrom (a := a) (i := 0) (k := 2) (n := l.idxOf x) (r := l) rfl rfl (SqL.of ha) (by omega) fun p1 hp1 => ?_
    have e1 : Same H (upd H p1 (.lst ((l.drop (l.idxOf x)).map V.int))) := Same.upd hp1
    refine r_cutTo (a := a) (i := 0) (k := 2) (n := l.idxOf x) (r := l) rfl rfl (SqL.of (e1 _ _ ha)) (by omega) fun p2 hp2 => ?_
    have e2 := e1.trans (Same.upd (o := .lst ((l.take (l.idxOf x)).map V.int)) hp2)
    have x1 : upd (upd H p1 (.lst ((l.drop (l.idxOf x)).map V.int))) p2 (.lst ((l.take (l.idxOf x)).map V.int)) p1 = some (.lst ((l.drop (l.idxOf x)).map V.int)) := by rw [upd_ne (ne_of_none upd_same hp2)]; exact upd_same
    refine ⟨p1, p2, _, _, rfl, rfl, x1, upd_same, by rw [List.length_map, List.length_map, List.length_drop, List.length_take, PySem.sizeLine_eq]; omega, fun b hb => ?_⟩
    generalize upd (upd H p1 (.lst ((l.drop (l.idxOf x)).map V.int))) p2 (.lst ((l.take (l.idxOf x)).map V.int)) = H2 at e2 x1 hb ⊢
    have er : (l.drop (l.idxOf x)).map V.int ++ (l.take (l.idxOf x)).map V.int = (rot l (l.idxOf x)).map V.int := by unfold rot; rw [List.map_append]
    rw [er]
    walk_at "rd"
    exact q b _ (e2.trans (Same.upd hb)) (e2.free hb) upd_same
theorem sc_orders_alike : FnScope ["one", "other"] ["one", "other"] (defScope s_orders_alike) := ⟨rfl, rfl, rfl, by decide +kernel, rfl, by decide +kernel, by decide +kernel⟩
theorem ok_orders_alike (D : Def K mg "orders_alike" s_orders_alike ["one", "other"]) (T : Txt K mg Z) (h_begun_at : Has P w K mg base (CXe P w) "begun_at" 1 ["order", "first"] sp_begunat) : Has P w K mg base (CXe P w) "orders_alike" 2 ["one", "other"] sp_alikeO := by
  refine D.hasN sc_orders_alike (fun vs H Q E h => ?_) (fun f cdv A outer s H vs Q E hr h => ?_)
  · obtain ⟨a, b, l, m, rfl, _⟩ := h; rfl
  · obtain ⟨a, b, l, m, rfl, ha, hb, hl, hm, nm, q, qf⟩ := h
    refine ⟨_, (pss_cons (ps_if (pt_cmpR op_ne (pe_callB call_len (by rfl) T.len bt_len (pa_cons (pv 0) pa_nil)) (pe_callB call_len (by rfl) T.len bt_len (pa_cons (pv 1) pa_nil)) (nomark _)) (pss_one (ps_ret pe_bl)) pss_nil)
      (pss_cons (ps_if (pt_cmpR op_eq (pe_callB call_len (by rfl) T.len bt_len (pa_cons (pv 0) pa_nil)) pe_int (nomark _)) (pss_one (ps_ret pe_bl)) pss_nil)
      (pss_one (ps_ret (pe_and (pe_cmpR op_in_seq (pe_ix ix_list (pv 0) pe_int (fun _ _ => rfl)) (pv 1) (by with_unfolding_all rfl)) (pe_one (pe_cmpR (op_eqD hr.units) (pe_callH h_begun_at hr passN (pa_cons (pv 1) (pa_cons (pe_ix ix_list (pv 0) pe_int (fun _ _ => rfl)) pa_nil))) (pv 0) (nomark _)))))))), ?_⟩
    dsimp only [cx_K]
    walk_at "rd"
    refine ⟨_, _, rfl, .inl ⟨_, SqL.of ha, rfl⟩, ?_⟩
    walk_at "rd"
    refine ⟨_, _, rfl, .inl ⟨_, SqL.of hb, rfl⟩, ?_⟩
    rw [List.length_map, List.length_map]
    walk_at "rd"
    refine if2n (fun hne => ?_) (fun heq => ?_)
    · walk_at "rd"
      exact qf (fun r => hne (by rw [r.len])) _ (fun _ _ e => e)
    · walk_at "rd"
      refine ⟨_, _, rfl, .inl ⟨_, SqL.of ha, rfl⟩, ?_⟩
      rw [List.length_map]
      walk_at "rd"
      refine if2 (fun h0 => ?_) (fun h0 => ?_)
      · walk_at "rd"
        have l0 : l = [] := List.length_eq_zero_iff.mp (by omega)
        have m0 : m = [] := List.length_eq_zero_iff.mp (by omega)
        exact q (.inl (by rw [l0, m0])) _ (fun _ _ e => e)
      · obtain ⟨x, l1, rfl⟩ : ∃ x l1, l = x :: l1 := by cases l with | nil => simp at h0 | cons a b => exact ⟨a, b, rfl⟩
        walk_at "rd"
        refine r_ixL (SqL.of ha) (show atI ((x :: l1).map V.int) ((0 : Nat) : Int) = some (V.int x) from atI_nat (by simp)) ?_
        walk_at "rd"
        refine r_in (SqL.of hb) ?_
        rw [if_neg (by decide)]
        by_cases xm : x ∈ m
        · rw [decide_eq_true xm]
          walk_at "rd"
          refine r_ixL (SqL.of ha) (show atI ((x :: l1).map V.int) ((0 : Nat) : Int) = some (V.int x) from atI_nat (by simp)) ?_
          walk_at "rd"
          refine ⟨b, m, x, rfl, hb, xm, hm, fun c H1 e1 hc c1 => ?_⟩
          walk_at "rd"
          refine ⟨dInts (rot m (m.idxOf x)), dInts (x :: l1), rds_row c1, rds_row (e1 _ _ ha), shaped_ints _, shaped_ints _, ?_⟩
          rw [if_neg (by decide), eqv_row]
          by_cases er : rot m (m.idxOf x) = x :: l1
          · rw [decide_eq_true er]
            exact q (.inr ⟨m.idxOf x, List.idxOf_lt_length_of_mem xm, er.symm⟩) _ e1
          · rw [decide_eq_false er]
            exact qf (fun rq => er (rq.idx nm rfl).2) _ e1
        · rw [decide_eq_false xm]
          walk_at "rd"
          exact qf (fun rq => xm (rq.perm.mem_iff.mp List.mem_cons_self)) _ (fun _ _ e => e)
theorem sc_same : FnScope ["one", "other"] ["one", "other"] (defScope s_same) := ⟨rfl, rfl, rfl, by decide +kernel, rfl, by decide +kernel, by decide +kernel⟩
theorem ok_same (D : Def K mg "same" s_same ["one", "other"]) (T : Txt K mg Z) (h_orders_alike : Has P w K mg base (CXe P w) "orders_alike" 2 ["one", "other"] sp_alikeO) : Has P w K mg base (CXe P w) "same" 3 ["one", "other"] sp_sameP := by
  refine D.hasN sc_same (fun vs H Q E h => ?_) (fun f cdv A outer s H vs Q E hr h => ?_)
  · obtain ⟨p, t, as, bs, L, M, rfl, _⟩ := h; rfl
  · obtain ⟨p, t, as, bs, L, M, rfl, g, k, hL, hM, hn, hm, q, qf⟩ := h
    refine ⟨_, (pss_one (ps_ret (pe_and (pe_cmpR op_eq (pe_callB call_len (by rfl) T.len bt_len (pa_cons (pv 0) pa_nil)) (pe_callB call_len (by rfl) T.len bt_len (pa_cons (pv 1) pa_nil)) (nomark _)) (pe_one (pe_callB (call_all rfl) (by rfl) T.all bt_all (pa_cons (pe_comp (tg := ["first", "second"]) (fr := []) (by walk_at "blk_ok") rfl (pi_zip T.zip (pa_cons (pv 0) (pa_cons (pv 1) pa_nil))) (fun _ _ _ _ _ => (pg_tupK (K := K) rfl (n := 2) rfl (pgs_cons (pg_name (i := 0) (show [("first" : Str), ("second" : Str)].Nodup by decide +kernel) rfl (by first | exact Or.inl rfl | exact Or.inr rfl)) (pgs_cons (pg_name (i := 1) (show [("first" : Str), ("second" : Str)].Nodup by decide +kernel) rfl (by first | exact Or.inl rfl | exact Or.inr rfl)) pgs_nil)))) (fun _ _ _ _ _ => pifs_nil) (fun _ _ _ _ _ => (pe_callH h_orders_alike hr passN (pa_cons (pv 0) (pa_cons (pv 1) pa_nil))))) pa_nil)))))), ?_⟩
    dsimp only [cx_K]
    walk_at "rd"
    refine ⟨_, _, rfl, .inl ⟨_, SqL.of g.top, rfl⟩, ?_⟩
    walk_at "rd"
    refine ⟨_, _, rfl, .inl ⟨_, SqL.of k.top, rfl⟩, ?_⟩
    rw [List.length_map, List.length_map, g.len, k.len]
    walk_at "rd"
    refine if2 (fun hlm => ?_) (fun hne => ?_)
    · walk_at "rd"
      refine r_comp ?_
      have hlm2 : L.length = M.length := by omega
      refine ⟨_, rfl, _, rfl, p, t, rfl, ⟨_, SqL.of g.top⟩, ⟨_, SqL.of k.top⟩, fun acc hacc => ?_⟩
      refine comp_zip (K := K) (a := p) (b := t) (xs := as.map V.ref) (ys := bs.map V.ref) (n := L.length) (by rw [List.length_map, List.length_map, g.len, k.len, hlm2, Nat.min_self]) (fun i σ' ys H1 => ∃ (v v' : Option V) (ts : List Bool), σ' = [v, v'] ∧ ys = ts.map V.bl ∧ ts.length = i ∧ Same H H1 ∧ H1 acc = some (.lst ys) ∧ (ts.all id = true ↔ ∀ (j : Nat) (l m : List Int), j < i → L[j]? = some l → M[j]? = some m → RotEq l m))
        ⟨none, none, [], rfl, rfl, rfl, Same.upd hacc, upd_same, by simp⟩ (fun i σ' ys H1 _ ⟨_, _, _, _, _, _, e, _⟩ => ⟨SqL.of (e _ _ g.top), SqL.of (e _ _ k.top)⟩) ?_ ?_
      · rintro i x y pr σ' ys H1 hx hy hi ⟨v, v', ts, rfl, rfl, hts, e1, a1, iff⟩ hpr
        obtain ⟨b, l, hb, hl, hrow⟩ := g.at hi
        obtain ⟨c, m, hc, hm2, hrow2⟩ := k.at (i := i) (by omega)
        obtain rfl : x = V.ref b := by
          rw [List.getElem?_map, hb] at hx
          exact (Option.some.inj hx).symm
        obtain rfl : y = V.ref c := by
          rw [List.getElem?_map, hc] at hy
          exact (Option.some.inj hy).symm
        obtain ⟨nm, lm⟩ := hM m (List.mem_of_getElem? hm2)
        have lL := hL l (List.mem_of_getElem? hl)
        have e2 : Same H1 (upd H1 pr (.tup [.ref b, .ref c])) := Same.upd hpr
        refine r_gtup (SqT.of upd_same) rfl ?_
        generalize upd H1 pr (.tup [.ref b, .ref c]) = H2 at e2 ⊢
        have e02 := e1.trans e2
        walk_at "rd"
        have stp : ∀ (u : Bool), (u = true ↔ RotEq l m) → ((ts ++ [u]).all id = true ↔ ∀ (j : Nat) (l m : List Int), j < i + 1 → L[j]? = some l → M[j]? = some m → RotEq l m) := fun u hu => by
          rw [List.all_append, Bool.and_eq_true, iff]
          constructor
          · rintro ⟨h1, h2⟩ j l' m' hj e1 e2
            by_cases z : j = i
            · subst z
              rw [hl] at e1; rw [hm2] at e2
              cases e1; cases e2
              exact hu.mp (by simpa using h2)
            · exact h1 j l' m' (by omega) e1 e2
          · intro h
            exact ⟨fun j l' m' hj => h j l' m' (by omega), by simpa using hu.mpr (h i l m (by omega) hl hm2)⟩
        have fin : ∀ (u : Bool) H3, (u = true ↔ RotEq l m) → Same H2 H3 → H3 acc = some (.lst (ts.map V.bl)) ∧ (ts.map V.bl).length < sizeLine ∧ ∃ m', m' < L.length - i ∧ (m' = L.length - (i + 1) ∧ i + 1 ≤ L.length ∧ ∃ (v v' : Option V) (ts' : List Bool), [some (V.ref b), some (V.ref c)] = [v, v'] ∧ ts.map V.bl ++ [.bl u] = ts'.map V.bl ∧ ts'.length = i + 1 ∧ Same H (upd H3 acc (.lst (ts.map V.bl ++ [.bl u]))) ∧ upd H3 acc (.lst (ts.map V.bl ++ [.bl u])) acc = some (.lst (ts.map V.bl ++ [.bl u])) ∧ (ts'.all id = true ↔ ∀ (j : Nat) (l m : List Int), j < i + 1 → L[j]? = some l → M[j]? = some m → RotEq l m)) := fun u H3 hu e3 =>
          ⟨(e2.trans e3) _ _ a1, by rw [List.length_map]; exact small_line (by omega), L.length - (i + 1), by omega, rfl, by omega, _, _, ts ++ [u], rfl, by simp, by simp [hts], Same.fresh (e02.trans e3) hacc, upd_same, stp u hu⟩
        refine ⟨b, c, l, m, rfl, e02 _ _ hrow, e02 _ _ hrow2, lL, lm, nm, fun yes H3 e3 => ?_, fun no H3 e3 => ?_⟩
        · exact fin true H3 ⟨fun _ => yes, fun _ => rfl⟩ e3
        · exact fin false H3 ⟨fun z => (by cases z), fun z => absurd z no⟩ e3
      · rintro σ' ys H1 ⟨v, v', ts, rfl, rfl, hts, e1, a1, iff⟩
        walk_at "rd"
        refine ⟨acc, ts, rfl, SqL.of a1, ?_⟩
        by_cases z : ts.all id = true
        · rw [z]
          exact q ⟨hlm2, fun j l m h1 h2 => iff.mp z j l m (List.getElem?_eq_some_iff.mp h1).1 h1 h2⟩ _ e1
        · rw [Bool.eq_false_iff.mpr z]
          exact qf (fun r => z (iff.mpr fun j l m _ h1 h2 => r.2 j l m h1 h2)) _ e1
    · exact qf (fun r => hne (by rw [r.1])) _ (fun _ _ e => e)
theorem sc__law_strange : FnScope ["_law_caught_here"] ["_law_caught_here"] (defScope s__law_strange) := ⟨rfl, rfl, rfl, by decide +kernel, rfl, by decide +kernel, by decide +kernel⟩
theorem ok__law_strange (D : Def K mg "_law_strange" s__law_strange ["_law_caught_here"]) (T : Txt K mg Z) : Has P w K mg base (CXe P w) "_law_strange" 1 ["_law_caught_here"] (sp_strange Z.NoNames) := by
  refine D.hasN sc__law_strange (fun vs H Q E h => ?_) (fun f cdv A outer s H vs Q E hr h => ?_)
  · obtain ⟨a, rfl, _⟩ := h; rfl
  · obtain ⟨a, rfl, ha, q⟩ := h
    refine ⟨_, (pss_cons (ps_if (pt_val (pe_callB call_instT (by rfl) T.isinstance bt_isinstance (pa_cons (pv 0) (pa_cons (pe_tup (pa_cons (pe_glob (v := .ref Z.Flat) rfl T.c_Flat rfl) (pa_cons (pe_glob (v := .ref Z.NoFrame) rfl T.c_NoFrame rfl) (pa_cons (pe_glob (v := .ref Z.NoLand) rfl T.c_NoLand rfl) (pa_cons (pe_glob (v := .ref Z.NoMap) rfl T.c_NoMap rfl) (pa_cons (pe_glob (v := .ref Z.NoNumber) rfl T.c_NoNumber rfl) (pa_cons (pe_glob (v := .ref Z.NoOne) rfl T.c_NoOne rfl) pa_nil))))))) pa_nil)))) (pss_one (ps_ret pe_bl)) pss_nil)
      (pss_one (ps_ret (pe_callB call_instT (by rfl) T.isinstance bt_isinstance (pa_cons (pv 0) (pa_cons (pe_tup (pa_cons (pe_glob (v := .ref Z.NoOther) rfl T.c_NoOther rfl) (pa_cons (pe_glob (v := .ref Z.NoSheet) rfl T.c_NoSheet rfl) (pa_cons (pe_glob (v := .ref Z.NoThree) rfl T.c_NoThree rfl) (pa_cons (pe_glob (v := .ref Z.NoTie) rfl T.c_NoTie rfl) (pa_cons (pe_glob (v := .ref Z.NotInside) rfl T.c_NotInside rfl) (pa_cons (pe_glob (v := .ref Z.Parted) rfl T.c_Parted rfl) (pa_cons (pe_glob (v := .ref Z.NoStep) rfl T.c_NoStep rfl) (pa_cons (pe_glob (v := .ref Z.NoText) rfl T.c_NoText rfl) pa_nil))))))))) pa_nil)))))), ?_⟩
    dsimp only [cx_K]
    walk_at "rd"
    refine ⟨by rw [PySem.sizeLine_eq]; simp, fun tp htp => ?_⟩
    walk_at "rd"
    refine r_instT (.exc (by rw [upd_ne (ne_of_none ha htp)]; exact ha) T.t_NoNames) upd_same (.cons (.ref _) (.cons (.ref _) (.cons (.ref _) (.cons (.ref _) (.cons (.ref _) (.cons (.ref _) .nil)))))) T.m3 ?_
    have e1 : Same H (upd H tp (.tup [.ref Z.Flat, .ref Z.NoFrame, .ref Z.NoLand, .ref Z.NoMap, .ref Z.NoNumber, .ref Z.NoOne])) := Same.upd htp
    generalize upd H tp (.tup [.ref Z.Flat, .ref Z.NoFrame, .ref Z.NoLand, .ref Z.NoMap, .ref Z.NoNumber, .ref Z.NoOne]) = H1 at e1 ⊢
    have ha1 := e1 _ _ ha
    walk_at "rd"
    refine ⟨by rw [PySem.sizeLine_eq]; simp, fun tq htq => ?_⟩
    walk_at "rd"
    refine r_instT (.exc (by rw [upd_ne (ne_of_none ha1 htq)]; exact ha1) T.t_NoNames) upd_same (.cons (.ref _) (.cons (.ref _) (.cons (.ref _) (.cons (.ref _) (.cons (.ref _) (.cons (.ref _) (.cons (.ref _) (.cons (.ref _) .nil)))))))) T.m4 ?_
    exact q _ (e1.trans (Same.upd htq))
theorem sc__law_caught : FnScope ["_law_orders", "_law_names_here", "_law_caught_here", "e"] ["_law_orders", "_law_names_here"] (defScope s__law_caught) := ⟨rfl, rfl, rfl, by decide +kernel, rfl, by decide +kernel, by decide +kernel⟩
theorem ok__law_caught (D : Def K mg "_law_caught" s__law_caught ["_law_orders", "_law_names_here"]) (T : Txt K mg Z) (h_renamed : Has P w K mg base (CXe P w) "renamed" 1 ["orders", "names"] (sp_renamedP Z.NoNames)) : Has P w K mg base (CXe P w) "_law_caught" 2 ["_law_orders", "_law_names_here"] (sp_caught Z.NoNames) := by
  refine D.hasN sc__law_caught (fun vs H Q E h => ?_) (fun f cdv A outer s H vs Q E hr h => ?_)
  · obtain ⟨p, c, as, A, l, rfl, _⟩ := h; rfl
  · obtain ⟨p, c, as, A, l, rfl, g, hc, im, hl, hn, no, q⟩ := h
    refine ⟨_, (pss_cons (ps_set (i := 2) sc__law_caught.nd rfl (by first | exact Or.inl rfl | exact Or.inr rfl) pe_non)
      (pss_cons (ps_tryAs h_renamed hr (pa_cons (pv 0) (pa_cons (pv 1) pa_nil)) body_nox T.c_MapError sc__law_caught.nd (jn := 3) rfl rfl (fun _ => (pss_one (ps_set (i := 2) sc__law_caught.nd rfl (by first | exact Or.inl rfl | exact Or.inr rfl) (pv 3)))))
      (pss_one (ps_ret (pv 2))))), ?_⟩
    dsimp only [cx_K]
    walk_at "rd"
    refine ⟨p, c, as, A, l, rfl, g, hc, im, hl, hn, fun z => absurd z no, fun _ H1 e1 => ⟨_, rfl, T.m1, fun x hx => ?_⟩⟩
    walk_at "rd"
    exact q x _ (e1.trans (Same.upd hx)) upd_same
theorem sc__law_told : FnScope ["_law_found", "_law_due"] ["_law_found", "_law_due"] (defScope s__law_told) := ⟨rfl, rfl, rfl, by decide +kernel, rfl, by decide +kernel, by decide +kernel⟩
theorem ok__law_told (D : Def K mg "_law_told" s__law_told ["_law_found", "_law_due"]) (T : Txt K mg Z) : Has P w K mg base (CXe P w) "_law_told" 1 ["_law_found", "_law_due"] sp_told := by
  refine D.hasN sc__law_told (fun vs H Q E h => ?_) (fun f cdv A outer s H vs Q E hr h => ?_)
  · obtain ⟨b, rfl, _⟩ := h; rfl
  · obtain ⟨b, rfl, q⟩ := h
    refine ⟨_, (pss_one (ps_ret (pe_and (pe_callB call_inst (by rfl) T.isinstance bt_isinstance (pa_cons (pv 0) (pa_cons (pe_bltn (v := .ty "bool") rfl T.bool bt_bool rfl) pa_nil))) (pe_one (pe_cmpR op_eq (pv 0) (pv 1) (nomark _)))))), ?_⟩
    dsimp only [cx_K]
    walk_at "rd"
    refine r_inst (.bl _) (.ty _) kit_bb ?_
    walk_at "rd"
    refine ⟨rfl, ?_⟩
    rw [decide_eq_true rfl]
    exact q
theorem sc__law_spoiled : FnScope ["_law_names_here", "_law_number", "_law_found", "_law_at", "_law_other", "_law_way"] ["_law_names_here", "_law_number"] (defScope s__law_spoiled) := ⟨rfl, rfl, rfl, by decide +kernel, rfl, by decide +kernel, by decide +kernel⟩
theorem ok__law_spoiled (D : Def K mg "_law_spoiled" s__law_spoiled ["_law_names_here", "_law_number"]) (T : Txt K mg Z) : Has P w K mg base (CXe P w) "_law_spoiled" 1 ["_law_names_here", "_law_number"] sp_spoiled := by
  refine D.hasN sc__law_spoiled (fun vs H Q E h => ?_) (fun f cdv A outer s H vs Q E hr h => ?_)
  · obtain ⟨c, l, k, rfl, _⟩ := h; rfl
  · obtain ⟨c, l, k, rfl, hc, h2, h60, k0, k1, q⟩ := h
    refine ⟨_, (pss_cons (ps_set (i := 2) sc__law_spoiled.nd rfl (by first | exact Or.inl rfl | exact Or.inr rfl) (pe_callTy call_list_of (by rfl) T.list bt_list (pa_cons (pv 0) pa_nil)))
      (pss_cons (ps_set (i := 3) sc__law_spoiled.nd rfl (by first | exact Or.inl rfl | exact Or.inr rfl) (pe_op op_mod (pv 1) (pe_callB call_len (by rfl) T.len bt_len (pa_cons (pv 2) pa_nil))))
      (pss_cons (ps_set (i := 4) sc__law_spoiled.nd rfl (by first | exact Or.inl rfl | exact Or.inr rfl) (pe_op op_mod (pe_op op_add (pe_op op_add (pv 3) pe_int) (pe_op op_mod (pe_op op_fdp (pv 1) pe_int) (pe_callB (call_max2 rfl) (by rfl) T.max bt_max (pa_cons pe_int (pa_cons (pe_op op_sub (pe_callB call_len (by rfl) T.len bt_len (pa_cons (pv 2) pa_nil)) pe_int) pa_nil))))) (pe_callB call_len (by rfl) T.len bt_len (pa_cons (pv 2) pa_nil))))
      (pss_cons (ps_set (i := 5) sc__law_spoiled.nd rfl (by first | exact Or.inl rfl | exact Or.inr rfl) (pe_op op_mod (pe_op op_fdp (pv 1) pe_int) pe_int))
      (pss_cons (ps_if (pt_cmpR op_eq (pv 5) pe_int (nomark _)) (pss_one (ps_asg (pe_ix ix_list (pv 2) (pv 4) (fun _ _ => rfl)) (pg_sub (pv 2) (pv 3) set_list))) pss_nil)
      (pss_cons (ps_if (pt_cmpR op_eq (pv 5) pe_int (nomark _)) (pss_one (ps_expr (pe_bm PySem.F.plainAttrs_list PySem.F.slot_list_pop PySem.F.type_list_pop mt_popAt (pv 2) (pa_cons (pv 3) pa_nil)))) pss_nil)
      (pss_cons (ps_if (pt_cmpR op_eq (pv 5) pe_int (nomark _)) (pss_one (ps_expr (pe_bm PySem.F.plainAttrs_list PySem.F.slot_list_insert PySem.F.type_list_insert mt_insert (pv 2) (pa_cons (pv 3) (pa_cons (pe_ix ix_list (pv 2) (pv 4) (fun _ _ => rfl)) pa_nil))))) pss_nil)
      (pss_cons (ps_if (pt_cmpR op_eq (pv 5) pe_int (nomark _)) (pss_one (ps_asg (pe_ix ix_list (pe_lst (pa_cons (pe_un un_neg pe_int) (pa_cons (pe_callB call_len (by rfl) T.len bt_len (pa_cons (pv 2) pa_nil)) pa_nil))) (pe_op op_mod (pe_op op_fdp (pv 1) pe_int) pe_int) (fun _ _ => rfl)) (pg_sub (pv 2) (pv 3) set_list))) pss_nil)
      (pss_one (ps_ret (pv 2))))))))))), ?_⟩
    dsimp only [cx_K]
    walk_at "rd"
    refine ⟨c, _, rfl, .inl (SqL.of hc), fun t ht => ?_⟩
    have e1 : Same H (upd H t (.lst (l.map V.int))) := Same.upd ht
    have t1 : upd H t (.lst (l.map V.int)) t = some (.lst (l.map V.int)) := upd_same
    generalize upd H t (.lst (l.map V.int)) = H1 at e1 t1 ⊢
    have lp : (0 : Int) < (l.length : Int) := by omega
    walk_at "rd"
    refine ⟨_, _, rfl, .inl ⟨_, SqL.of t1, rfl⟩, ?_⟩
    rw [List.length_map]
    walk_at "rd"
    have i0 := Int.emod_nonneg k (show (l.length : Int) ≠ 0 by omega)
    have i1 := Int.emod_lt_of_pos k lp
    obtain ⟨i, hi⟩ := Int.eq_ofNat_of_zero_le i0
    rw [hi] at i1 ⊢
    refine ⟨_, _, rfl, .inl ⟨_, SqL.of t1, rfl⟩, ?_⟩
    rw [List.length_map]
    walk_at "rd"
    refine ⟨_, _, rfl, ?_⟩
    obtain ⟨mx, hmx, hm0⟩ : ∃ mx : Int, (if (l.length : Int) - 1 > 1 then (l.length : Int) - 1 else 1) = mx ∧ 0 < mx := by
      by_cases z : (l.length : Int) - 1 > 1
      · exact ⟨_, if_pos z, by omega⟩
      · exact ⟨_, if_neg z, by omega⟩
    rw [hmx]
    walk_at "rd"
    refine ⟨_, _, rfl, .inl ⟨_, SqL.of t1, rfl⟩, ?_⟩
    rw [List.length_map]
    walk_at "rd"
    have j0 := Int.emod_nonneg ((i : Int) + 1 + k / 64 % mx) (show (l.length : Int) ≠ 0 by omega)
    have j1 := Int.emod_lt_of_pos ((i : Int) + 1 + k / 64 % mx) lp
    obtain ⟨j, hj⟩ := Int.eq_ofNat_of_zero_le j0
    rw [hj] at j1 ⊢
    generalize k / 4096 % 8 = wy
    refine ifA (fun σ' H' => ∃ l' : List Int, σ' = [some (.ref c), some (.int k), some (.ref t), some (.int (i : Int)), some (.int (j : Int)), some (.int wy)] ∧ Same H H' ∧ H' t = some (.lst (l'.map V.int)) ∧ l'.length = l.length) (fun σ' H2 hh => ?_) (fun h key => ?_) (fun h key => ?_)
    · obtain ⟨l2, rfl, e2, t2, n2⟩ := hh
      walk_at "rd"
      refine ifA (fun σ' H' => ∃ l' : List Int, σ' = [some (.ref c), some (.int k), some (.ref t), some (.int (i : Int)), some (.int (j : Int)), some (.int wy)] ∧ Same H H' ∧ H' t = some (.lst (l'.map V.int)) ∧ l'.length ≤ l.length ∧ (wy = 1 ∨ l'.length = l.length)) (fun σ' H3 hh => ?_) (fun h key => ?_) (fun h key => ?_)
      · obtain ⟨l3, rfl, e3, t3, n3, w3⟩ := hh
        walk_at "rd"
        refine ifA (fun σ' H' => ∃ l' : List Int, σ' = [some (.ref c), some (.int k), some (.ref t), some (.int (i : Int)), some (.int (j : Int)), some (.int wy)] ∧ Same H H' ∧ H' t = some (.lst (l'.map V.int)) ∧ l'.length ≤ l.length + 1 ∧ (wy = 1 ∨ wy = 2 ∨ l'.length = l.length)) (fun σ' H4 hh => ?_) (fun h key => ?_) (fun h key => ?_)
        · obtain ⟨l4, rfl, e4, t4, n4, w4⟩ := hh
          walk_at "rd"
          refine ifA (fun σ' H' => ∃ l' : List Int, σ' = [some (.ref c), some (.int k), some (.ref t), some (.int (i : Int)), some (.int (j : Int)), some (.int wy)] ∧ Same H H' ∧ H' t = some (.lst (l'.map V.int)) ∧ l'.length ≤ l.length + 1) (fun σ' H5 hh => ?_) (fun h key => ?_) (fun h key => ?_)
          · obtain ⟨l5, rfl, e5, t5, n5⟩ := hh
            walk_at "rd"
            exact q t l5 H5 e5 ht t5 (by omega)
          · have n4' : l4.length = l.length := by omega
            walk_at "rd"
            refine ⟨_, _, rfl, .inl ⟨_, SqL.of t4, rfl⟩, ?_⟩
            rw [List.length_map]
            walk_at "rd"
            refine fun z hz => ?_
            have e5 : Same H4 (upd H4 z (.lst [.int (-1), .int (l4.length : Int)])) := Same.upd hz
            have z5 : upd H4 z (.lst [.int (-1), .int (l4.length : Int)]) z = some (.lst (([-1, (l4.length : Int)] : List Int).map V.int)) := upd_same
            generalize upd H4 z (.lst [.int (-1), .int (l4.length : Int)]) = H5 at e5 z5 ⊢
            have w0 := Int.emod_nonneg (k / 32768) (show (2 : Int) ≠ 0 by decide)
            have w1 := Int.emod_lt_of_pos (k / 32768) (show (0 : Int) < 2 by decide)
            obtain ⟨y, hy⟩ := Int.eq_ofNat_of_zero_le w0
            walk_at "rd"
            rw [hy] at w1 ⊢
            have yl : y < ([-1, (l4.length : Int)] : List Int).length := by show y < 2; omega
            have ey : ([-1, (l4.length : Int)] : List Int)[y]? = some ([-1, (l4.length : Int)] : List Int)[y] := List.getElem?_eq_getElem yl
            refine r_ixL (SqL.of z5) (atI_nat (j := y) (by rw [List.getElem?_map, ey]; rfl)) ?_
            walk_at "rd"
            refine r_gsub ?_
            walk_at "rd"
            refine ⟨t, _, _, i, rfl, rfl, e5 _ _ t4, ixN_of (by omega) (by rw [List.length_map]; omega), ?_⟩
            rw [← List.map_set]
            exact key _ _ ⟨l4.set i _, rfl, Same.fresh (e4.trans e5) ht, upd_same, by rw [List.length_set]; exact n4⟩
          · exact r_next (key _ _ ⟨l4, rfl, e4, t4, n4⟩)
        · have n3' : l3.length = l.length := by omega
          walk_at "rd"
          refine ⟨.inl ⟨rfl, _, SqL.of t3⟩, ?_⟩
          walk_at "rd"
          refine r_ixL (SqL.of t3) (atI_nat (j := j) (by rw [List.getElem?_map, List.getElem?_eq_getElem (by omega)]; rfl)) ?_
          walk_at "rd"
          refine r_insert (k := i) rfl t3 (by rw [List.length_map]; omega) (by rw [List.length_map]; exact small_line (by omega)) ?_
          rw [map_put]
          exact key _ _ ⟨_, rfl, Same.fresh e3 ht, upd_same, by unfold put; simp; omega, by omega⟩
        · exact r_next (key _ _ ⟨l3, rfl, e3, t3, by omega, by omega⟩)
      · walk_at "rd"
        refine ⟨.inl ⟨rfl, _, SqL.of t2⟩, ?_⟩
        walk_at "rd"
        refine r_popAt t2 (List.getElem?_eq_getElem (by omega)) (by omega) ?_
        exact key _ _ ⟨_, rfl, Same.fresh e2 ht, upd_same, by rw [List.length_eraseIdx]; split <;> omega, .inl h⟩
      · exact r_next (key _ _ ⟨l2, rfl, e2, t2, by omega, .inr n2⟩)
    · walk_at "rd"
      refine r_ixL (SqL.of t1) (atI_nat (j := j) (by rw [List.getElem?_map, List.getElem?_eq_getElem (by omega)]; rfl)) ?_
      walk_at "rd"
      refine r_gsub ?_
      walk_at "rd"
      refine ⟨t, _, _, i, rfl, rfl, t1, ixN_of (by omega) (by rw [List.length_map]; omega), ?_⟩
      rw [← List.map_set]
      exact key _ _ ⟨_, rfl, Same.fresh e1 ht, upd_same, by rw [List.length_set]⟩
    · exact r_next (key _ _ ⟨l, rfl, e1, t1, rfl⟩)
theorem sc__law_exchanged : FnScope ["_law_script", "_law_orders", "_law_found", "_law_order", "_law_one", "_law_other", "_law_mine"] ["_law_script", "_law_orders"] (defScope s__law_exchanged) := ⟨rfl, rfl, rfl, by decide +kernel, rfl, by decide +kernel, by decide +kernel⟩
theorem ok__law_exchanged (D : Def K mg "_law_exchanged" s__law_exchanged ["_law_script", "_law_orders"]) (T : Txt K mg Z) (h__law_mixed : Has P w K mg base (CXe P w) "_law_mixed" 2 ["_law_script", "_law_k"] (sp_mixed K)) : Has P w K mg base (CXe P w) "_law_exchanged" 3 ["_law_script", "_law_orders"] (sp_exch K) := by
  refine D.hasN sc__law_exchanged (fun vs H Q E h => ?_) (fun f cdv A0 outer s H vs Q E hr h => ?_)
  · obtain ⟨a, p, ns, as, A, rfl, _⟩ := h; rfl
  · obtain ⟨a, p, ns, as, A, rfl, hS, g, n0, hn, hrl, q⟩ := h
    refine ⟨_, (pss_cons (ps_setC (i := 2) sc__law_exchanged.nd rfl (by first | exact Or.inl rfl | exact Or.inr rfl) (tg := ["_law_order"]) (fr := []) (by walk_at "blk_ok") rfl (pi_list (pv 1)) (fun _ _ _ _ _ => (pg_name (i := 0) (show [("_law_order" : Str)].Nodup by decide +kernel) rfl (by first | exact Or.inl rfl | exact Or.inr rfl))) (fun _ _ _ _ _ => pifs_nil) (fun _ _ _ _ _ => (pe_callTy (call_list_ofK (K := K) rfl) (by rfl) T.list bt_list (pa_cons (pv 0) pa_nil))))
      (pss_cons (ps_set (i := 3) sc__law_exchanged.nd rfl (by first | exact Or.inl rfl | exact Or.inr rfl) (pe_ix ix_list (pv 2) (pe_op op_mod (pe_callH h__law_mixed hr passN (pa_cons (pv 0) (pa_cons pe_int pa_nil))) (pe_callB call_len (by rfl) T.len bt_len (pa_cons (pv 2) pa_nil))) (fun _ _ => rfl)))
      (pss_cons (ps_if (pt_cmpR op_gt (pe_callB call_len (by rfl) T.len bt_len (pa_cons (pv 3) pa_nil)) pe_int (nomark _)) (pss_cons (ps_set (i := 4) sc__law_exchanged.nd rfl (by first | exact Or.inl rfl | exact Or.inr rfl) (pe_op op_mod (pe_callH h__law_mixed hr passN (pa_cons (pv 0) (pa_cons pe_int pa_nil))) (pe_callB call_len (by rfl) T.len bt_len (pa_cons (pv 3) pa_nil))))
      (pss_cons (ps_set (i := 5) sc__law_exchanged.nd rfl (by first | exact Or.inl rfl | exact Or.inr rfl) (pe_op op_mod (pe_callH h__law_mixed hr passN (pa_cons (pv 0) (pa_cons pe_int pa_nil))) (pe_callB call_len (by rfl) T.len bt_len (pa_cons (pv 3) pa_nil))))
      (pss_cons (ps_set (i := 6) sc__law_exchanged.nd rfl (by first | exact Or.inl rfl | exact Or.inr rfl) (pe_ix ix_list (pv 3) (pv 4) (fun _ _ => rfl)))
      (pss_cons (ps_asg (pe_ix ix_list (pv 3) (pv 5) (fun _ _ => rfl)) (pg_sub (pv 3) (pv 4) set_list))
      (pss_one (ps_asg (pv 6) (pg_sub (pv 3) (pv 5) set_list))))))) pss_nil)
      (pss_one (ps_ret (pv 2)))))), ?_⟩
    dsimp only [cx_K]
    walk_at "rd"
    refine r_copyL (i := 1) rfl g (by omega) fun hp hs H1 e1 g1 nd1 fr1 => ?_
    walk_at "rd"
    refine ⟨a, ns, 90, rfl, e1.seq hS, by decide, by decide, fun n0 n0a n0b => ?_⟩
    walk_at "rd"
    refine ⟨_, _, rfl, .inl ⟨_, SqL.of g1.top, rfl⟩, ?_⟩
    rw [List.length_map, g1.len]
    have Lp : (0 : Int) < (A.length : Int) := by omega
    walk_at "rd"
    have i0 := Int.emod_nonneg n0 (show (A.length : Int) ≠ 0 by omega)
    have i1 := Int.emod_lt_of_pos n0 Lp
    obtain ⟨i, hi⟩ := Int.eq_ofNat_of_zero_le i0
    rw [hi] at i1 ⊢
    obtain ⟨b, r, hb, hr1, hrow⟩ := g1.at (i := i) (by omega)
    have rs := hrl r (List.mem_of_getElem? hr1)
    refine r_ixL (SqL.of g1.top) (g1.ix hb) ?_
    walk_at "rd"
    refine ⟨_, _, rfl, .inl ⟨_, SqL.of hrow, rfl⟩, ?_⟩
    rw [List.length_map]
    walk_at "rd"
    refine if2 (fun h1 => ?_) (fun h1 => ?_)
    · have rp : (0 : Int) < (r.length : Int) := by omega
      walk_at "rd"
      refine ⟨a, ns, 91, rfl, e1.seq hS, by decide, by decide, fun n1 n1a n1b => ?_⟩
      walk_at "rd"
      refine ⟨_, _, rfl, .inl ⟨_, SqL.of hrow, rfl⟩, ?_⟩
      rw [List.length_map]
      walk_at "rd"
      refine ⟨a, ns, 92, rfl, e1.seq hS, by decide, by decide, fun n2 n2a n2b => ?_⟩
      walk_at "rd"
      refine ⟨_, _, rfl, .inl ⟨_, SqL.of hrow, rfl⟩, ?_⟩
      rw [List.length_map]
      walk_at "rd"
      have j0 := Int.emod_nonneg n1 (show (r.length : Int) ≠ 0 by omega)
      have j1 := Int.emod_lt_of_pos n1 rp
      obtain ⟨j, hj⟩ := Int.eq_ofNat_of_zero_le j0
      have k0 := Int.emod_nonneg n2 (show (r.length : Int) ≠ 0 by omega)
      have k1 := Int.emod_lt_of_pos n2 rp
      obtain ⟨k, hk⟩ := Int.eq_ofNat_of_zero_le k0
      rw [hj] at j1
      rw [hk] at k1
      rw [hj, hk]
      have ej : r[j]? = some r[j] := List.getElem?_eq_getElem (by omega)
      have ek : r[k]? = some r[k] := List.getElem?_eq_getElem (by omega)
      refine r_ixL (SqL.of hrow) (atI_nat (by rw [List.getElem?_map, ej]; rfl)) ?_
      walk_at "rd"
      refine r_ixL (SqL.of hrow) (atI_nat (by rw [List.getElem?_map, ek]; rfl)) ?_
      walk_at "rd"
      refine r_gsub ?_
      walk_at "rd"
      refine ⟨b, _, _, j, rfl, rfl, hrow, ixN_of (by omega) (by rw [List.length_map]; exact j1), ?_⟩
      rw [← List.map_set]
      have g2 := g1.set nd1 (l' := r.set j r[k]) hb
      have e2 : Same H (upd H1 b (.lst ((r.set j r[k]).map V.int))) := Same.fresh e1 (fr1 _ (List.mem_cons_of_mem _ (List.mem_of_getElem? hb)))
      have hrow2 : upd H1 b (.lst ((r.set j r[k]).map V.int)) b = some (.lst ((r.set j r[k]).map V.int)) := upd_same
      generalize upd H1 b (.lst ((r.set j r[k]).map V.int)) = H2 at g2 e2 hrow2 ⊢
      walk_at "rd"
      refine r_gsub ?_
      walk_at "rd"
      refine ⟨b, _, _, k, rfl, rfl, hrow2, ixN_of (by omega) (by rw [List.length_map, List.length_set]; exact k1), ?_⟩
      rw [← List.map_set]
      have g3 := g2.set nd1 (l' := (r.set j r[k]).set k r[j]) hb
      have e3 : Same H (upd H2 b (.lst (((r.set j r[k]).set k r[j]).map V.int))) := Same.fresh e2 (fr1 _ (List.mem_cons_of_mem _ (List.mem_of_getElem? hb)))
      generalize upd H2 b (.lst (((r.set j r[k]).set k r[j]).map V.int)) = H3 at g3 e3 ⊢
      walk_at "rd"
      refine q hp hs _ H3 e3 g3 (by rw [List.length_set, List.length_set]) (fun x r' l' h1 h2 => ?_)
      have pm : ((r.set j r[k]).set k r[j]).Perm r := List.set_set_perm (by omega) (by omega)
      by_cases z : x = i
      · subst z
        rw [hr1] at h2
        cases h2
        rw [List.getElem?_set_self (by rw [List.length_set]; omega)] at h1
        cases h1
        exact pm
      · rw [List.getElem?_set_ne (Ne.symm z), List.getElem?_set_ne (Ne.symm z), h2] at h1
        cases h1
        exact .refl _
    · walk_at "rd"
      exact q hp hs A H1 e1 g1 rfl (fun i r l h1 h2 => by rw [h1] at h2; cases h2; exact .refl _)
theorem sc_law : FnScope ["_law_script", "_law_orders", "_law_names_here", "_law_handed", "_law_caught_here", "_law_found", "_law_other"] ["_law_script"] (defScope s_law) := ⟨rfl, rfl, rfl, by decide +kernel, rfl, by decide +kernel, by decide +kernel⟩
theorem ok_law {fa : Addr} {fd : FuncData} (F : Fun K "law" "law" s_law fa fd) (T : Txt K mg Z)
    (h_renamed : Has P w K mg base (CXe P w) "renamed" 1 ["orders", "names"] (sp_renamedP Z.NoNames)) (h_same : Has P w K mg base (CXe P w) "same" 3 ["one", "other"] sp_sameP) (h__law_mixed : Has P w K mg base (CXe P w) "_law_mixed" 2 ["_law_script", "_law_k"] (sp_mixed K)) (h__law_map : Has P w K mg base (CXe P w) "_law_map" 4 ["_law_script"] (sp_map K)) (h__law_names : Has P w K mg base (CXe P w) "_law_names" 3 ["_law_script", "_law_start", "_law_many"] (sp_names K)) (h__law_renamed : Has P w K mg base (CXe P w) "_law_renamed" 1 ["_law_orders", "_law_names_here"] sp_renamed) (h__law_begun : Has P w K mg base (CXe P w) "_law_begun" 3 ["_law_script", "_law_start", "_law_orders"] (sp_begun K)) (h__law_same : Has P w K mg base (CXe P w) "_law_same" 1 ["_law_one", "_law_other"] sp_sameD) (h__law_strange : Has P w K mg base (CXe P w) "_law_strange" 1 ["_law_caught_here"] (sp_strange Z.NoNames)) (h__law_spoiled : Has P w K mg base (CXe P w) "_law_spoiled" 1 ["_law_names_here", "_law_number"] sp_spoiled) (h__law_caught : Has P w K mg base (CXe P w) "_law_caught" 2 ["_law_orders", "_law_names_here"] (sp_caught Z.NoNames)) (h__law_exchanged : Has P w K mg base (CXe P w) "_law_exchanged" 3 ["_law_script", "_law_orders"] (sp_exch K)) (h__law_told : Has P w K mg base (CXe P w) "_law_told" 1 ["_law_found", "_law_due"] sp_told) : FnOk P w K mg base (CXe P w) 10 fa fd ["_law_script"] (sp_law K) := by
  refine F.okN sc_law (fun vs H Q E h => ?_) (fun cdv A0 outer s H vs Q E hr h => ?_)
  · obtain ⟨a, ns, rfl, _⟩ := h; rfl
  · obtain ⟨a, ns, rfl, hS, hlen, kq⟩ := h
    refine ⟨_, (pss_cons (ps_set (i := 1) sc_law.nd rfl (by first | exact Or.inl rfl | exact Or.inr rfl) (pe_callH h__law_map hr passN (pa_cons (pv 0) pa_nil)))
      (pss_cons (ps_set (i := 2) sc_law.nd rfl (by first | exact Or.inl rfl | exact Or.inr rfl) (pe_callH h__law_spoiled hr passN (pa_cons (pe_callH h__law_names hr passN (pa_cons (pv 0) (pa_cons pe_int (pa_cons (pe_callB call_len (by rfl) T.len bt_len (pa_cons (pv 1) pa_nil)) pa_nil)))) (pa_cons (pe_callH h__law_mixed hr passN (pa_cons (pv 0) (pa_cons pe_int pa_nil))) pa_nil))))
      (pss_cons (ps_set (i := 3) sc_law.nd rfl (by first | exact Or.inl rfl | exact Or.inr rfl) (pe_lst (pa_cons (pe_comp (tg := ["_law_order"]) (fr := []) (by walk_at "blk_ok") rfl (pi_list (pv 1)) (fun _ _ _ _ _ => (pg_name (i := 0) (show [("_law_order" : Str)].Nodup by decide +kernel) rfl (by first | exact Or.inl rfl | exact Or.inr rfl))) (fun _ _ _ _ _ => pifs_nil) (fun _ _ _ _ _ => (pe_callTy (call_list_ofK (K := K) rfl) (by rfl) T.list bt_list (pa_cons (pv 0) pa_nil)))) (pa_cons (pe_callTy call_list_of (by rfl) T.list bt_list (pa_cons (pv 2) pa_nil)) pa_nil))))
      (pss_cons (ps_if (pt_cmpR (op_neD hr.units) (pe_callB call_sorted (by rfl) T.sorted bt_sorted (pa_cons (pv 2) pa_nil)) (pe_listrange rfl T.range T.list (pe_callB call_len (by rfl) T.len bt_len (pa_cons (pv 1) pa_nil))) (nomark _)) (pss_cons (ps_set (i := 4) sc_law.nd rfl (by first | exact Or.inl rfl | exact Or.inr rfl) (pe_callH h__law_caught hr passN (pa_cons (pe_ix ix_list (pv 3) pe_int (fun _ _ => rfl)) (pa_cons (pe_ix ix_list (pv 3) pe_int (fun _ _ => rfl)) pa_nil))))
      (pss_cons (ps_if (PW.pt (pw_or (pt_cmpR (op_neD hr.units) (pv 3) (pe_lst (pa_cons (pv 1) (pa_cons (pv 2) pa_nil))) (nomark _)) (pw_or1 (pt_val (pe_callH h__law_strange hr passN (pa_cons (pv 4) pa_nil)))))) (pss_one (ps_ret pe_bl)) pss_nil)
      (pss_one (ps_if (PW.pt (pw_or (pt_not (pt_val (pe_callB call_instX (by rfl) T.isinstance bt_isinstance (pa_cons (pv 4) (pa_cons (pe_glob (v := .ref Z.NoNames) rfl T.c_NoNames rfl) pa_nil))))) (pw_or1 (pt_not (pt_val (pe_callB call_instX (by rfl) T.isinstance bt_isinstance (pa_cons (pv 4) (pa_cons (pe_bltn (v := .ty "ValueError") rfl T.ValueError bt_ValueError rfl) pa_nil)))))))) (pss_one (ps_ret pe_bl)) pss_nil)))) (pss_cons (ps_set (i := 5) sc_law.nd rfl (by first | exact Or.inl rfl | exact Or.inr rfl) (pe_callH h_renamed hr passN (pa_cons (pe_ix ix_list (pv 3) pe_int (fun _ _ => rfl)) (pa_cons (pe_ix ix_list (pv 3) pe_int (fun _ _ => rfl)) pa_nil))))
      (pss_one (ps_if (PW.pt (pw_or (pt_not (pt_val (pe_callH h__law_same hr passN (pa_cons (pv 5) (pa_cons (pe_callH h__law_renamed hr passN (pa_cons (pv 1) (pa_cons (pv 2) pa_nil))) pa_nil))))) (pw_or1 (pt_cmpR (op_neD hr.units) (pv 3) (pe_lst (pa_cons (pv 1) (pa_cons (pv 2) pa_nil))) (nomark _))))) (pss_one (ps_ret pe_bl)) pss_nil))))
      (pss_cons (ps_set (i := 6) sc_law.nd rfl (by first | exact Or.inl rfl | exact Or.inr rfl) (pe_callH h__law_begun hr passN (pa_cons (pv 0) (pa_cons pe_int (pa_cons (pv 1) pa_nil)))))
      (pss_cons (ps_if (PW.pt (pw_or (pt_not (pt_val (pe_callH h__law_told hr passN (pa_cons (pe_callH h_same hr passN (pa_cons (pv 1) (pa_cons (pv 6) pa_nil))) (pa_cons pe_bl pa_nil))))) (pw_or1 (pt_not (pt_val (pe_callH h__law_told hr passN (pa_cons (pe_callH h_same hr passN (pa_cons (pv 1) (pa_cons (pe_op op_cat (pv 1) (pe_lst (pa_cons (pe_lst pa_nil) pa_nil))) pa_nil))) (pa_cons pe_bl pa_nil)))))))) (pss_one (ps_ret pe_bl)) pss_nil)
      (pss_cons (ps_set (i := 6) sc_law.nd rfl (by first | exact Or.inl rfl | exact Or.inr rfl) (pe_callH h__law_exchanged hr passN (pa_cons (pv 0) (pa_cons (pv 6) pa_nil))))
      (pss_one (ps_ret (pe_callH h__law_told hr passN (pa_cons (pe_callH h_same hr passN (pa_cons (pv 1) (pa_cons (pv 6) pa_nil))) (pa_cons (pe_callH h__law_same hr passN (pa_cons (pv 1) (pa_cons (pv 6) pa_nil))) pa_nil)))))))))))), ?_⟩
    dsimp only [cx_K]
    walk_at "rd"
    refine ⟨a, ns, rfl, hS, fun p as A H1 e1 g1 nd1 fr1 im two l13 few => ?_⟩
    walk_at "rd"
    refine ⟨_, _, rfl, .inl ⟨_, SqL.of g1.top, rfl⟩, ?_⟩
    rw [List.length_map, g1.len]
    walk_at "rd"
    refine ⟨a, ns, 70, A.length, rfl, e1.seq hS, by decide, by decide, by omega, fun c l H2 e2 cf c2 nam => ?_⟩
    have e02 := e1.trans e2
    walk_at "rd"
    refine ⟨a, ns, 89, rfl, e02.seq hS, by decide, by decide, fun kk k0 k1 => ?_⟩
    walk_at "rd"
    refine ⟨c, l, kk, rfl, c2, by rw [nam.len]; exact two, by rw [nam.len]; omega, k0, k1, fun t l' H3 e3 tf t3 tl => ?_⟩
    have e03 := e02.trans e3
    clear nam c2 cf k0 k1
    have g3 := (g1.same e2).same e3
    walk_at "rd"
    refine r_copyL (i := 1) rfl g3 (by omega) fun hp hs H4 e4 g4 nd4 fr4 => ?_
    have t4 := e4 _ _ t3
    have gp4 := g3.same e4
    walk_at "rd"
    refine ⟨t, _, rfl, .inl (SqL.of t4), fun hc hhc => ?_⟩
    have e5 : Same H4 (upd H4 hc (.lst (l'.map V.int))) := Same.upd hhc
    have c5 : upd H4 hc (.lst (l'.map V.int)) hc = some (.lst (l'.map V.int)) := upd_same
    generalize upd H4 hc (.lst (l'.map V.int)) = H5 at e5 c5 ⊢
    walk_at "rd"
    refine fun hd hhd => ?_
    have e6 : Same H5 (upd H5 hd (.lst [.ref hp, .ref hc])) := Same.upd hhd
    have d6 : upd H5 hd (.lst [.ref hp, .ref hc]) hd = some (.lst [.ref hp, .ref hc]) := upd_same
    generalize upd H5 hd (.lst [.ref hp, .ref hc]) = H6 at e6 d6 ⊢
    have c6 := e6 _ _ c5
    have e46 := e5.trans e6
    have t6 := e46 _ _ t4
    have g6 := g4.same e46
    have gp6 := gp4.same e46
    have e06 := (e03.trans e4).trans e46
    walk_at "rd"
    refine ⟨t, l', rfl, SqL.of t6, by omega, fun l2 p1 pm so hp1 => ?_⟩
    have e7 : Same H6 (upd H6 p1 (.lst (l2.map V.int))) := Same.upd hp1
    have x7 : upd H6 p1 (.lst (l2.map V.int)) p1 = some (.lst (l2.map V.int)) := upd_same
    generalize upd H6 p1 (.lst (l2.map V.int)) = H7 at e7 x7 ⊢
    walk_at "rd"
    refine r_listrng ?_
    walk_at "rd"
    refine ⟨_, _, rfl, .inl ⟨_, SqL.of (e7 _ _ gp6.top), rfl⟩, A.length, by rw [List.length_map, gp6.len], by omega, fun z hz => ?_⟩
    have e8 : Same H7 (upd H7 z (.lst ((upto A.length).map V.int))) := Same.upd hz
    refine ⟨dInts l2, dInts (upto A.length), rds_row (e8 _ _ x7), rds_row upd_same, shaped_ints _, shaped_ints _, ?_⟩
    rw [if_pos rfl, eqv_row]
    generalize upd H7 z (.lst ((upto A.length).map V.int)) = H8 at e8 ⊢
    have e68 := e7.trans e8
    have g8 := g6.same e68
    have gp8 := gp6.same e68
    have c8 := e68 _ _ c6
    have d8 := e68 _ _ d6
    have t8 := e68 _ _ t6
    have e08 := e06.trans e68
    walk_at "rd"
    refine ifAn (fun σ' H' => ∃ (v4 v5 : Option V), σ' = [some (.ref a), some (.ref p), some (.ref t), some (.ref hd), v4, v5, none] ∧ Same H8 H') (fun σ' H9 hh => ?_) (fun h key => ?_) (fun h key => ?_)
    · obtain ⟨v4, v5, rfl, e9⟩ := hh
      have gp9 := gp8.same e9
      have e09 := e08.trans e9
      have rl60 : ∀ l ∈ A, l.Nodup ∧ l.length ≤ 60 := fun r hr => by
        obtain ⟨i, hi⟩ := List.mem_iff_getElem?.mp hr
        have := len_range (im.nd _ _ hi) fun y hy => ⟨(im.rg _ _ hi y hy).1, (im.rg _ _ hi y hy).2.1⟩
        exact ⟨im.nd _ _ hi, by omega⟩
      walk_at "rd"
      refine ⟨a, p, ns, 100, as, A, rfl, e09.seq hS, by decide, by decide, gp9, by omega, fun l hl => (rl60 l hl).2, fun o os R H10 e10 go fo lR rots => ?_⟩
      have gp10 := gp9.same e10
      have rR : ∀ m ∈ R, m.Nodup ∧ m.length ≤ 60 := fun m hm => by
        obtain ⟨i, hi⟩ := List.mem_iff_getElem?.mp hm
        have il := (List.getElem?_eq_some_iff.mp hi).1
        have hA : A[i]? = some A[i] := List.getElem?_eq_getElem (by omega)
        have rq := rots i m _ hi hA
        obtain ⟨n1, n2⟩ := rl60 _ (List.mem_of_getElem? hA)
        exact ⟨rq.perm.nodup_iff.mpr n1, by rw [rq.len]; exact n2⟩
      walk_at "rd"
      refine ⟨p, o, as, os, A, R, rfl, gp10, go, fun l hl => by have := (rl60 l hl).2; omega, fun m hm => ⟨(rR m hm).1, by have := (rR m hm).2; omega⟩, by omega, by omega, fun _ H11 e11 => ?_, fun no => absurd ⟨lR.symm, fun i l m h1 h2 => (rots i m l h2 h1).symm⟩ no⟩
      have gp11 := gp10.same e11
      walk_at "rd"
      refine ⟨true, rfl, ?_⟩
      walk_at "rd"
      refine ⟨Nat.zero_le _, fun c1 hc1 => ?_⟩
      walk_at "rd"
      refine ⟨by rw [PySem.sizeLine_eq]; simp, fun c2 hc2 => ?_⟩
      have f1 : Same H11 (upd (upd H11 c1 (.lst [])) c2 (.lst [.ref c1])) := Same.trans (Same.upd hc1) (Same.upd hc2)
      have k1 : upd (upd H11 c1 (.lst [])) c2 (.lst [.ref c1]) c1 = some (.lst []) := by rw [upd_ne (ne_of_none upd_same hc2)]; exact upd_same
      have k2 : upd (upd H11 c1 (.lst [])) c2 (.lst [.ref c1]) c2 = some (.lst [.ref c1]) := upd_same
      generalize upd (upd H11 c1 (.lst [])) c2 (.lst [.ref c1]) = H12 at f1 k1 k2 ⊢
      have gp12 := gp11.same f1
      refine ⟨p, c2, _, _, rfl, rfl, gp12.top, k2, by rw [List.length_map, gp12.len, PySem.sizeLine_eq]; simp; omega, fun c3 hc3 => ?_⟩
      have f2 : Same H12 (upd H12 c3 (.lst (as.map V.ref ++ [.ref c1]))) := Same.upd hc3
      have g13 : Grid (upd H12 c3 (.lst (as.map V.ref ++ [.ref c1]))) c3 (as ++ [c1]) (A ++ [[]]) := by
        refine ⟨by rw [upd_same, List.map_append]; rfl, by rw [List.length_append, List.length_append, gp12.len]; rfl, fun i b l h1 h2 => ?_⟩
        have al := gp12.len
        by_cases z : i < as.length
        · rw [List.getElem?_append_left z] at h1
          rw [List.getElem?_append_left (by omega)] at h2
          exact f2 _ _ (gp12.row _ _ _ h1 h2)
        · rw [List.getElem?_append_right (by omega)] at h1 h2
          have il := (List.getElem?_eq_some_iff.mp h1).1
          rw [List.length_singleton] at il
          have i0 : i - as.length = 0 := by omega
          have i1 : i - A.length = 0 := by omega
          rw [i0] at h1
          rw [i1] at h2
          cases h1
          cases h2
          exact f2 _ _ k1
      have gp13 := gp12.same f2
      have f13 : Same H10 (upd H12 c3 (.lst (as.map V.ref ++ [.ref c1]))) := (e11.trans f1).trans f2
      generalize upd H12 c3 (.lst (as.map V.ref ++ [.ref c1])) = H13 at g13 gp13 f13 ⊢
      refine ⟨p, c3, as, as ++ [c1], A, A ++ [[]], rfl, gp13, g13, fun l hl => by have := (rl60 l hl).2; omega, fun m hm => ?_, by omega, by rw [List.length_append, List.length_singleton]; omega, fun yes => ?_, fun _ H14 e14 => ?_⟩
      · rcases List.mem_append.mp hm with hm | hm
        · exact ⟨(rl60 m hm).1, by have := (rl60 m hm).2; omega⟩
        · rw [List.mem_singleton.mp hm]; exact ⟨List.nodup_nil, Nat.zero_le _⟩
      · exact absurd yes.1 (by rw [List.length_append, List.length_singleton]; omega)
      have f14 := f13.trans e14
      have gp14 := gp10.same f14
      have go14 := go.same f14
      walk_at "rd"
      refine ⟨false, rfl, ?_⟩
      walk_at "rd"
      refine ⟨a, o, ns, os, R, rfl, ((e09.trans e10).trans f14).seq hS, go14, by omega, by omega, fun l hl => (rR l hl).2, fun x xs S H15 e15 g15 lS pms => ?_⟩
      have gp15 := gp14.same e15
      have rS : ∀ m ∈ S, m.Nodup ∧ m.length ≤ 1000 := fun m hm => by
        obtain ⟨i, hi⟩ := List.mem_iff_getElem?.mp hm
        have il := (List.getElem?_eq_some_iff.mp hi).1
        have hR : R[i]? = some R[i] := List.getElem?_eq_getElem (by omega)
        have rq := pms i m _ hi hR
        obtain ⟨n1, n2⟩ := rR _ (List.mem_of_getElem? hR)
        exact ⟨rq.nodup_iff.mpr n1, by rw [rq.length_eq]; omega⟩
      have rA : ∀ l ∈ A, l.length ≤ 1000 := fun l hl => by have := (rl60 l hl).2; omega
      have lAS : A.length = S.length := by omega
      walk_at "rd"
      refine ⟨p, x, as, xs, A, S, rfl, gp15, g15, rA, rS, by omega, by omega, fun yes H16 e16 => ?_, fun no H16 e16 => ?_⟩
      · walk_at "rd"
        refine ⟨p, x, as, xs, A, S, rfl, gp15.same e16, g15.same e16, lAS, rA, rS, by omega, fun _ H17 e17 => ?_, fun n2 => absurd yes.2 n2⟩
        walk_at "rd"
        exact ⟨true, rfl, kq _⟩
      · walk_at "rd"
        refine ⟨p, x, as, xs, A, S, rfl, gp15.same e16, g15.same e16, lAS, rA, rS, by omega, fun y2 => absurd ⟨lAS, y2⟩ no, fun _ H17 e17 => ?_⟩
        walk_at "rd"
        exact ⟨false, rfl, kq _⟩
    · have nn : ¬ Nam A.length l' := fun nam => h (nam.sorted pm so)
      walk_at "rd"
      refine r_ixL (SqL.of d8) (show atI [V.ref hp, V.ref hc] ((0 : Nat) : Int) = _ from atI_nat rfl) ?_
      walk_at "rd"
      refine r_ixL (SqL.of d8) (show atI [V.ref hp, V.ref hc] ((1 : Nat) : Int) = _ from atI_nat rfl) ?_
      walk_at "rd"
      refine ⟨hp, hc, hs, A, l', rfl, g8, c8, im, by omega, by omega, nn, fun x H9 e9 hx => ?_⟩
      walk_at "rd"
      refine fun w1 hw1 => ?_
      have e10 : Same H9 (upd H9 w1 (.lst [.ref p, .ref t])) := Same.upd hw1
      have e810 := e9.trans e10
      refine ⟨dGI A l', dGI A l', rds_gi (e810 _ _ d8) (g8.same e810) (e810 _ _ c8), rds_gi upd_same (gp8.same e810) (e810 _ _ t8), shaped_gi _ _, shaped_gi _ _, ?_⟩
      rw [if_pos rfl, eqv_gi]
      generalize upd H9 w1 (.lst [.ref p, .ref t]) = H10 at e10 e810 ⊢
      walk_at "rd"
      refine ⟨x, rfl, e10 _ _ hx, fun H11 e11 => ?_⟩
      have hx11 := e11 _ _ (e10 _ _ hx)
      walk_at "rd"
      refine r_instX (.exc hx11 T.t_NoNames) (.ref _) T.m2 ?_
      walk_at "rd"
      refine r_instX (.exc hx11 T.t_NoNames) (.ty _) T.m5 ?_
      walk_at "rd1"
      exact key _ _ ⟨_, _, rfl, e810.trans e11⟩
    · have nam : Nam A.length l' := Nam.of_perm (h ▸ pm.symm)
      walk_at "rd"
      refine r_ixL (SqL.of d8) (show atI [V.ref hp, V.ref hc] ((0 : Nat) : Int) = _ from atI_nat rfl) ?_
      walk_at "rd"
      refine r_ixL (SqL.of d8) (show atI [V.ref hp, V.ref hc] ((1 : Nat) : Int) = _ from atI_nat rfl) ?_
      walk_at "rd"
      refine ⟨hp, hc, hs, A, l', rfl, g8, c8, im, by omega, by omega, fun _ u us R H9 e9 g9 fu rn => ?_, fun no => absurd nam no⟩
      walk_at "rd"
      refine ⟨p, t, as, A, l', rfl, gp8.same e9, e9 _ _ t8, im, nam, by omega, fun v vs S H10 e10 g10 fv rn2 => ?_⟩
      have lRS : R.length = S.length := by rw [rn.len, rn2.len]
      have eRS : ∀ (i : Nat) (r s : List Int), R[i]? = some r → S[i]? = some s → r = s := fun i r s h1 h2 => by
        have il := (List.getElem?_eq_some_iff.mp h1).1
        rw [rn.len] at il
        obtain ⟨j, j0, j1, ej⟩ := nam.onto (x := (i : Int)) (by omega) (by omega)
        have a1 := rn.row j j0 j1
        have a2 := rn2.row j j0 j1
        rw [ej, Int.toNat_natCast] at a1 a2
        rw [h1] at a1
        rw [h2] at a2
        exact (Option.some.inj a1).trans (Option.some.inj a2).symm
      have mR := rn.isMap nam im
      have mS := rn2.isMap nam im
      have lS := rn2.len
      have lR := rn.len
      walk_at "rd"
      refine ⟨u, v, us, vs, R, S, rfl, g9.same e10, g10, lRS, fun r hr => ?_, fun b hb => ?_, by omega, fun _ H11 e11 => ?_, fun nall => ?_⟩
      · obtain ⟨i, hi⟩ := List.mem_iff_getElem?.mp hr
        have := len_range (mR.nd _ _ hi) fun y hy => ⟨(mR.rg _ _ hi y hy).1, (mR.rg _ _ hi y hy).2.1⟩
        omega
      · obtain ⟨i, hi⟩ := List.mem_iff_getElem?.mp hb
        have := len_range (mS.nd _ _ hi) fun y hy => ⟨(mS.rg _ _ hi y hy).1, (mS.rg _ _ hi y hy).2.1⟩
        exact ⟨mS.nd _ _ hi, by omega⟩
      · have e811 := (e9.trans e10).trans e11
        walk_at "rd"
        refine fun w1 hw1 => ?_
        have e12 : Same H11 (upd H11 w1 (.lst [.ref p, .ref t])) := Same.upd hw1
        have e812 := e811.trans e12
        refine ⟨dGI A l', dGI A l', rds_gi (e812 _ _ d8) (g8.same e812) (e812 _ _ c8), rds_gi upd_same (gp8.same e812) (e812 _ _ t8), shaped_gi _ _, shaped_gi _ _, ?_⟩
        rw [if_pos rfl, eqv_gi]
        generalize upd H11 w1 (.lst [.ref p, .ref t]) = H12 at e12 e812 ⊢
        walk_at "rd1"
        exact key _ _ ⟨_, _, rfl, e812⟩
      · exact absurd (fun i r s h1 h2 => .inl (eRS i r s h1 h2)) nall
end
end Toy
end
set_option Elab.async false
set_option linter.all false
set_option maxRecDepth 100000
set_option maxHeartbeats 4000000
namespace Toy
open PySem L2 Fr Gm
local macro_rules | `(tactic| walk_at "rd1") => `(tactic| first
  | with_reducible refine r_seq ?_ | with_reducible refine r_asg ?_ | with_reducible refine r_gname ?_ | with_reducible refine r_op ?_ | with_reducible refine r_c ?_
  | ((with_reducible refine' r_var ?hv ?_); case' hv => exact rfl)
  | with_reducible refine r_rI0 ?_ | with_reducible refine r_un ?_ | with_reducible refine r_rU ?_ | with_reducible refine r_eqI ?_ | with_reducible refine r_neI ?_
  | with_reducible refine r_ret ?_ | with_reducible refine r_retN ?_ | with_reducible refine r_drop ?_ | with_reducible refine r_ifS ?_ | with_reducible refine r_test ?_ | with_reducible refine r_B ?_ | with_reducible refine r_bl ?_
  | with_reducible refine r_not ?_ | with_reducible refine r_and ?_ | with_reducible refine r_or ?_ | with_reducible refine r_andV ?_ | with_reducible refine r_orV ?_ | with_reducible refine r_notV ?_ | with_reducible refine r_ifE ?_
  | with_reducible refine r_nil ?_ | with_reducible refine r_cons ?_ | with_reducible refine r_call ?_ | with_reducible refine r_cb ?_ | with_reducible refine r_tup ?_ | with_reducible refine r_lst ?_ | with_reducible refine r_next ?_
  | with_reducible refine r_gcons ?_ | with_reducible refine r_gnil ?_ | with_reducible refine r_par ?_ | with_reducible refine ifT ?_ | with_reducible refine ifF ?_ | with_reducible refine ifNT ?_ | with_reducible refine ifNF ?_
  | ((with_reducible refine r_rI ?hc ?_); case' hc => walk_at "side")
  | ((with_reducible refine' r_ixT ?hp ?hi ?_); (case' hp => walk_at "seq"); (case' hi => exact rfl))
  | ((with_reducible refine' r_ixL ?hp ?hi ?_); (case' hp => walk_at "seq"); (case' hi => exact rfl))
  | ((with_reducible refine' r_gtup ?hp ?hi ?_); (case' hp => walk_at "seq"); (case' hi => exact rfl))
  | ((with_reducible refine And.intro ?hl ?_); case' hl => (first | exact sl2 | exact sl3))
  | with_reducible refine r_bm ?_ | with_reducible refine r_bm0 ?_ | with_reducible refine r_true ?_ | with_reducible refine r_isN ?_ | with_reducible refine r_notN ?_ | with_reducible refine r_raise ?_ | with_reducible refine r_tryAs ?_ | with_reducible refine r_dnotin ?_ | with_reducible refine r_din ?_ | with_reducible refine r_dput ?_
  | dsimp only)
local macro_rules | `(tactic| walk_at "rd") => `(tactic| repeat walk_at "rd1")
local macro_rules | `(tactic| walk_at "blk_vis") => `(tactic| first | exact Or.inl rfl | exact Or.inr (Or.inl rfl) | exact Or.inr (Or.inr rfl))
local macro_rules | `(tactic| walk_at "blk_ok") => `(tactic| exact ⟨rfl, by decide +kernel, by decide +kernel, rfl, by (first | exact trivial | exact ⟨rfl, trivial⟩ | exact ⟨rfl, rfl, trivial⟩ | exact ⟨rfl, rfl, rfl, trivial⟩ | exact ⟨rfl, rfl, rfl, rfl, trivial⟩), rfl,
  by (first | exact fm_nil | exact fm_cons ⟨rfl, by walk_at "blk_vis", rfl, rfl⟩ fm_nil | exact fm_cons ⟨rfl, by walk_at "blk_vis", rfl, rfl⟩ (fm_cons ⟨rfl, by walk_at "blk_vis", rfl, rfl⟩ fm_nil) | exact fm_cons ⟨rfl, by walk_at "blk_vis", rfl, rfl⟩ (fm_cons ⟨rfl, by walk_at "blk_vis", rfl, rfl⟩ (fm_cons ⟨rfl, by walk_at "blk_vis", rfl, rfl⟩ fm_nil))),
  by (first | exact fm_nil | exact fm_cons rfl fm_nil | exact fm_cons rfl (fm_cons rfl fm_nil) | exact fm_cons rfl (fm_cons rfl (fm_cons rfl fm_nil)))⟩)
local macro_rules | `(tactic| walk_at "blk_ok1") => `(tactic| exact ⟨rfl, fun _ => rfl, fun _ => rfl, by decide +kernel, rfl, by (first | exact trivial | exact ⟨rfl, trivial⟩ | exact ⟨rfl, rfl, trivial⟩ | exact ⟨rfl, rfl, rfl, trivial⟩ | exact ⟨rfl, rfl, rfl, rfl, trivial⟩), rfl,
  by (first | exact fm_nil | exact fm_cons ⟨rfl, by walk_at "blk_vis", ⟨rfl, rfl⟩, rfl⟩ fm_nil | exact fm_cons ⟨rfl, by walk_at "blk_vis", ⟨rfl, rfl⟩, rfl⟩ (fm_cons ⟨rfl, by walk_at "blk_vis", ⟨rfl, rfl⟩, rfl⟩ fm_nil) | exact fm_cons ⟨rfl, by walk_at "blk_vis", ⟨rfl, rfl⟩, rfl⟩ (fm_cons ⟨rfl, by walk_at "blk_vis", ⟨rfl, rfl⟩, rfl⟩ (fm_cons ⟨rfl, by walk_at "blk_vis", ⟨rfl, rfl⟩, rfl⟩ fm_nil))),
  by (first | exact fm_nil | exact fm_cons rfl fm_nil | exact fm_cons rfl (fm_cons rfl fm_nil) | exact fm_cons rfl (fm_cons rfl (fm_cons rfl fm_nil)))⟩)
local macro_rules | `(tactic| walk_at "side") => `(tactic| first | assumption | exact (show (0 : Int) < _ by decide) | exact cfp_lit (by decide) (by decide) | exact cfp_big (by decide) (by decide) | exact mulL (by decide) (by decide))
local macro_rules | `(tactic| walk_at "seq") => `(tactic| first | assumption | exact SqT.of (by assumption))
theorem all_mk {l : PySem.W.OpenLaw} {w : World} {K : PySem.W.Frag} {h : Heap} {mg : Str → Option Value} {fa : Addr} (X : K.In h) (G : h.Ns mainGlobals mg) (hfa : mg "law" = some (.ref fa))
    {cl_MapError cl_NoNumber cl_NoOne cl_NoTie cl_NoOther cl_NoNames cl_NoLand cl_NoFrame cl_NoThree cl_Flat cl_NotInside cl_NoStep cl_NoText cl_NoMap cl_NoSheet cl_Parted : Addr}
    (e_MapError : PySem.W.nsIn K mainGlobals "MapError" = some (some (.ref cl_MapError)))
    (e_NoNumber : PySem.W.nsIn K mainGlobals "NoNumber" = some (some (.ref cl_NoNumber)))
    (e_NoOne : PySem.W.nsIn K mainGlobals "NoOne" = some (some (.ref cl_NoOne)))
    (e_NoTie : PySem.W.nsIn K mainGlobals "NoTie" = some (some (.ref cl_NoTie)))
    (e_NoOther : PySem.W.nsIn K mainGlobals "NoOther" = some (some (.ref cl_NoOther)))
    (e_NoNames : PySem.W.nsIn K mainGlobals "NoNames" = some (some (.ref cl_NoNames)))
    (e_NoLand : PySem.W.nsIn K mainGlobals "NoLand" = some (some (.ref cl_NoLand)))
    (e_NoFrame : PySem.W.nsIn K mainGlobals "NoFrame" = some (some (.ref cl_NoFrame)))
    (e_NoThree : PySem.W.nsIn K mainGlobals "NoThree" = some (some (.ref cl_NoThree)))
    (e_Flat : PySem.W.nsIn K mainGlobals "Flat" = some (some (.ref cl_Flat)))
    (e_NotInside : PySem.W.nsIn K mainGlobals "NotInside" = some (some (.ref cl_NotInside)))
    (e_NoStep : PySem.W.nsIn K mainGlobals "NoStep" = some (some (.ref cl_NoStep)))
    (e_NoText : PySem.W.nsIn K mainGlobals "NoText" = some (some (.ref cl_NoText)))
    (e_NoMap : PySem.W.nsIn K mainGlobals "NoMap" = some (some (.ref cl_NoMap)))
    (e_NoSheet : PySem.W.nsIn K mainGlobals "NoSheet" = some (some (.ref cl_NoSheet)))
    (e_Parted : PySem.W.nsIn K mainGlobals "Parted" = some (some (.ref cl_Parted)))
    {f0 : Addr} {od0 an0 : Option Addr} {sl0 : Array (Option Value)} {oc0 kV0 dc0 pm0 cd0 ct0 : Value}
    (a0 : PySem.W.nsIn K mainGlobals "renamed" = some (some (.ref f0))) (l0 : K.lookup f0 = some ⟨oc0, od0, .func (PySem.W.fnOf "renamed" "renamed" (defArgs s_renamed) (defBody s_renamed) (defScope s_renamed) .none kV0 dc0 pm0 an0 cd0 ct0), sl0⟩) (c0 : PySem.W.codeIn K cd0 "renamed" = true) (k0 : PySem.W.keepIn K (.ref f0) = true)
    {f1 : Addr} {od1 an1 : Option Addr} {sl1 : Array (Option Value)} {oc1 kV1 dc1 pm1 cd1 ct1 : Value}
    (a1 : PySem.W.nsIn K mainGlobals "begun_at" = some (some (.ref f1))) (l1 : K.lookup f1 = some ⟨oc1, od1, .func (PySem.W.fnOf "begun_at" "begun_at" (defArgs s_begun_at) (defBody s_begun_at) (defScope s_begun_at) .none kV1 dc1 pm1 an1 cd1 ct1), sl1⟩) (c1 : PySem.W.codeIn K cd1 "begun_at" = true) (k1 : PySem.W.keepIn K (.ref f1) = true)
    {f2 : Addr} {od2 an2 : Option Addr} {sl2 : Array (Option Value)} {oc2 kV2 dc2 pm2 cd2 ct2 : Value}
    (a2 : PySem.W.nsIn K mainGlobals "orders_alike" = some (some (.ref f2))) (l2 : K.lookup f2 = some ⟨oc2, od2, .func (PySem.W.fnOf "orders_alike" "orders_alike" (defArgs s_orders_alike) (defBody s_orders_alike) (defScope s_orders_alike) .none kV2 dc2 pm2 an2 cd2 ct2), sl2⟩) (c2 : PySem.W.codeIn K cd2 "orders_alike" = true) (k2 : PySem.W.keepIn K (.ref f2) = true)
    {f3 : Addr} {od3 an3 : Option Addr} {sl3 : Array (Option Value)} {oc3 kV3 dc3 pm3 cd3 ct3 : Value}
    (a3 : PySem.W.nsIn K mainGlobals "same" = some (some (.ref f3))) (l3 : K.lookup f3 = some ⟨oc3, od3, .func (PySem.W.fnOf "same" "same" (defArgs s_same) (defBody s_same) (defScope s_same) .none kV3 dc3 pm3 an3 cd3 ct3), sl3⟩) (c3 : PySem.W.codeIn K cd3 "same" = true) (k3 : PySem.W.keepIn K (.ref f3) = true)
    {f4 : Addr} {od4 an4 : Option Addr} {sl4 : Array (Option Value)} {oc4 kV4 dc4 pm4 cd4 ct4 : Value}
    (a4 : PySem.W.nsIn K mainGlobals "_law_block" = some (some (.ref f4))) (l4 : K.lookup f4 = some ⟨oc4, od4, .func (PySem.W.fnOf "_law_block" "_law_block" (defArgs s__law_block) (defBody s__law_block) (defScope s__law_block) .none kV4 dc4 pm4 an4 cd4 ct4), sl4⟩) (c4 : PySem.W.codeIn K cd4 "_law_block" = true) (k4 : PySem.W.keepIn K (.ref f4) = true)
    {f5 : Addr} {od5 an5 : Option Addr} {sl5 : Array (Option Value)} {oc5 kV5 dc5 pm5 cd5 ct5 : Value}
    (a5 : PySem.W.nsIn K mainGlobals "_law_mixed" = some (some (.ref f5))) (l5 : K.lookup f5 = some ⟨oc5, od5, .func (PySem.W.fnOf "_law_mixed" "_law_mixed" (defArgs s__law_mixed) (defBody s__law_mixed) (defScope s__law_mixed) .none kV5 dc5 pm5 an5 cd5 ct5), sl5⟩) (c5 : PySem.W.codeIn K cd5 "_law_mixed" = true) (k5 : PySem.W.keepIn K (.ref f5) = true)
    {f6 : Addr} {od6 an6 : Option Addr} {sl6 : Array (Option Value)} {oc6 kV6 dc6 pm6 cd6 ct6 : Value}
    (a6 : PySem.W.nsIn K mainGlobals "_law_any" = some (some (.ref f6))) (l6 : K.lookup f6 = some ⟨oc6, od6, .func (PySem.W.fnOf "_law_any" "_law_any" (defArgs s__law_any) (defBody s__law_any) (defScope s__law_any) .none kV6 dc6 pm6 an6 cd6 ct6), sl6⟩) (c6 : PySem.W.codeIn K cd6 "_law_any" = true) (k6 : PySem.W.keepIn K (.ref f6) = true)
    {f7 : Addr} {od7 an7 : Option Addr} {sl7 : Array (Option Value)} {oc7 kV7 dc7 pm7 cd7 ct7 : Value}
    (a7 : PySem.W.nsIn K mainGlobals "_law_rings" = some (some (.ref f7))) (l7 : K.lookup f7 = some ⟨oc7, od7, .func (PySem.W.fnOf "_law_rings" "_law_rings" (defArgs s__law_rings) (defBody s__law_rings) (defScope s__law_rings) .none kV7 dc7 pm7 an7 cd7 ct7), sl7⟩) (c7 : PySem.W.codeIn K cd7 "_law_rings" = true) (k7 : PySem.W.keepIn K (.ref f7) = true)
    {f8 : Addr} {od8 an8 : Option Addr} {sl8 : Array (Option Value)} {oc8 kV8 dc8 pm8 cd8 ct8 : Value}
    (a8 : PySem.W.nsIn K mainGlobals "_law_put_tie" = some (some (.ref f8))) (l8 : K.lookup f8 = some ⟨oc8, od8, .func (PySem.W.fnOf "_law_put_tie" "_law_put_tie" (defArgs s__law_put_tie) (defBody s__law_put_tie) (defScope s__law_put_tie) .none kV8 dc8 pm8 an8 cd8 ct8), sl8⟩) (c8 : PySem.W.codeIn K cd8 "_law_put_tie" = true) (k8 : PySem.W.keepIn K (.ref f8) = true)
    {f9 : Addr} {od9 an9 : Option Addr} {sl9 : Array (Option Value)} {oc9 kV9 dc9 pm9 cd9 ct9 : Value}
    (a9 : PySem.W.nsIn K mainGlobals "_law_put_place" = some (some (.ref f9))) (l9 : K.lookup f9 = some ⟨oc9, od9, .func (PySem.W.fnOf "_law_put_place" "_law_put_place" (defArgs s__law_put_place) (defBody s__law_put_place) (defScope s__law_put_place) .none kV9 dc9 pm9 an9 cd9 ct9), sl9⟩) (c9 : PySem.W.codeIn K cd9 "_law_put_place" = true) (k9 : PySem.W.keepIn K (.ref f9) = true)
    {f10 : Addr} {od10 an10 : Option Addr} {sl10 : Array (Option Value)} {oc10 kV10 dc10 pm10 cd10 ct10 : Value}
    (a10 : PySem.W.nsIn K mainGlobals "_law_grown" = some (some (.ref f10))) (l10 : K.lookup f10 = some ⟨oc10, od10, .func (PySem.W.fnOf "_law_grown" "_law_grown" (defArgs s__law_grown) (defBody s__law_grown) (defScope s__law_grown) .none kV10 dc10 pm10 an10 cd10 ct10), sl10⟩) (c10 : PySem.W.codeIn K cd10 "_law_grown" = true) (k10 : PySem.W.keepIn K (.ref f10) = true)
    {f11 : Addr} {od11 an11 : Option Addr} {sl11 : Array (Option Value)} {oc11 kV11 dc11 pm11 cd11 ct11 : Value}
    (a11 : PySem.W.nsIn K mainGlobals "_law_map" = some (some (.ref f11))) (l11 : K.lookup f11 = some ⟨oc11, od11, .func (PySem.W.fnOf "_law_map" "_law_map" (defArgs s__law_map) (defBody s__law_map) (defScope s__law_map) .none kV11 dc11 pm11 an11 cd11 ct11), sl11⟩) (c11 : PySem.W.codeIn K cd11 "_law_map" = true) (k11 : PySem.W.keepIn K (.ref f11) = true)
    {f12 : Addr} {od12 an12 : Option Addr} {sl12 : Array (Option Value)} {oc12 kV12 dc12 pm12 cd12 ct12 : Value}
    (a12 : PySem.W.nsIn K mainGlobals "_law_names" = some (some (.ref f12))) (l12 : K.lookup f12 = some ⟨oc12, od12, .func (PySem.W.fnOf "_law_names" "_law_names" (defArgs s__law_names) (defBody s__law_names) (defScope s__law_names) .none kV12 dc12 pm12 an12 cd12 ct12), sl12⟩) (c12 : PySem.W.codeIn K cd12 "_law_names" = true) (k12 : PySem.W.keepIn K (.ref f12) = true)
    {f13 : Addr} {od13 an13 : Option Addr} {sl13 : Array (Option Value)} {oc13 kV13 dc13 pm13 cd13 ct13 : Value}
    (a13 : PySem.W.nsIn K mainGlobals "_law_renamed" = some (some (.ref f13))) (l13 : K.lookup f13 = some ⟨oc13, od13, .func (PySem.W.fnOf "_law_renamed" "_law_renamed" (defArgs s__law_renamed) (defBody s__law_renamed) (defScope s__law_renamed) .none kV13 dc13 pm13 an13 cd13 ct13), sl13⟩) (c13 : PySem.W.codeIn K cd13 "_law_renamed" = true) (k13 : PySem.W.keepIn K (.ref f13) = true)
    {f14 : Addr} {od14 an14 : Option Addr} {sl14 : Array (Option Value)} {oc14 kV14 dc14 pm14 cd14 ct14 : Value}
    (a14 : PySem.W.nsIn K mainGlobals "_law_begun" = some (some (.ref f14))) (l14 : K.lookup f14 = some ⟨oc14, od14, .func (PySem.W.fnOf "_law_begun" "_law_begun" (defArgs s__law_begun) (defBody s__law_begun) (defScope s__law_begun) .none kV14 dc14 pm14 an14 cd14 ct14), sl14⟩) (c14 : PySem.W.codeIn K cd14 "_law_begun" = true) (k14 : PySem.W.keepIn K (.ref f14) = true)
    {f15 : Addr} {od15 an15 : Option Addr} {sl15 : Array (Option Value)} {oc15 kV15 dc15 pm15 cd15 ct15 : Value}
    (a15 : PySem.W.nsIn K mainGlobals "_law_same" = some (some (.ref f15))) (l15 : K.lookup f15 = some ⟨oc15, od15, .func (PySem.W.fnOf "_law_same" "_law_same" (defArgs s__law_same) (defBody s__law_same) (defScope s__law_same) .none kV15 dc15 pm15 an15 cd15 ct15), sl15⟩) (c15 : PySem.W.codeIn K cd15 "_law_same" = true) (k15 : PySem.W.keepIn K (.ref f15) = true)
    {f16 : Addr} {od16 an16 : Option Addr} {sl16 : Array (Option Value)} {oc16 kV16 dc16 pm16 cd16 ct16 : Value}
    (a16 : PySem.W.nsIn K mainGlobals "_law_strange" = some (some (.ref f16))) (l16 : K.lookup f16 = some ⟨oc16, od16, .func (PySem.W.fnOf "_law_strange" "_law_strange" (defArgs s__law_strange) (defBody s__law_strange) (defScope s__law_strange) .none kV16 dc16 pm16 an16 cd16 ct16), sl16⟩) (c16 : PySem.W.codeIn K cd16 "_law_strange" = true) (k16 : PySem.W.keepIn K (.ref f16) = true)
    {f17 : Addr} {od17 an17 : Option Addr} {sl17 : Array (Option Value)} {oc17 kV17 dc17 pm17 cd17 ct17 : Value}
    (a17 : PySem.W.nsIn K mainGlobals "_law_spoiled" = some (some (.ref f17))) (l17 : K.lookup f17 = some ⟨oc17, od17, .func (PySem.W.fnOf "_law_spoiled" "_law_spoiled" (defArgs s__law_spoiled) (defBody s__law_spoiled) (defScope s__law_spoiled) .none kV17 dc17 pm17 an17 cd17 ct17), sl17⟩) (c17 : PySem.W.codeIn K cd17 "_law_spoiled" = true) (k17 : PySem.W.keepIn K (.ref f17) = true)
    {f18 : Addr} {od18 an18 : Option Addr} {sl18 : Array (Option Value)} {oc18 kV18 dc18 pm18 cd18 ct18 : Value}
    (a18 : PySem.W.nsIn K mainGlobals "_law_caught" = some (some (.ref f18))) (l18 : K.lookup f18 = some ⟨oc18, od18, .func (PySem.W.fnOf "_law_caught" "_law_caught" (defArgs s__law_caught) (defBody s__law_caught) (defScope s__law_caught) .none kV18 dc18 pm18 an18 cd18 ct18), sl18⟩) (c18 : PySem.W.codeIn K cd18 "_law_caught" = true) (k18 : PySem.W.keepIn K (.ref f18) = true)
    {f19 : Addr} {od19 an19 : Option Addr} {sl19 : Array (Option Value)} {oc19 kV19 dc19 pm19 cd19 ct19 : Value}
    (a19 : PySem.W.nsIn K mainGlobals "_law_exchanged" = some (some (.ref f19))) (l19 : K.lookup f19 = some ⟨oc19, od19, .func (PySem.W.fnOf "_law_exchanged" "_law_exchanged" (defArgs s__law_exchanged) (defBody s__law_exchanged) (defScope s__law_exchanged) .none kV19 dc19 pm19 an19 cd19 ct19), sl19⟩) (c19 : PySem.W.codeIn K cd19 "_law_exchanged" = true) (k19 : PySem.W.keepIn K (.ref f19) = true)
    {f20 : Addr} {od20 an20 : Option Addr} {sl20 : Array (Option Value)} {oc20 kV20 dc20 pm20 cd20 ct20 : Value}
    (a20 : PySem.W.nsIn K mainGlobals "_law_told" = some (some (.ref f20))) (l20 : K.lookup f20 = some ⟨oc20, od20, .func (PySem.W.fnOf "_law_told" "_law_told" (defArgs s__law_told) (defBody s__law_told) (defScope s__law_told) .none kV20 dc20 pm20 an20 cd20 ct20), sl20⟩) (c20 : PySem.W.codeIn K cd20 "_law_told" = true) (k20 : PySem.W.keepIn K (.ref f20) = true)
    {f21 : Addr} {od21 an21 : Option Addr} {sl21 : Array (Option Value)} {oc21 kV21 dc21 pm21 cd21 ct21 : Value}
    (a21 : PySem.W.nsIn K mainGlobals "law" = some (some (.ref f21))) (l21 : K.lookup f21 = some ⟨oc21, od21, .func (PySem.W.fnOf "law" "law" (defArgs s_law) (defBody s_law) (defScope s_law) .none kV21 dc21 pm21 an21 cd21 ct21), sl21⟩) (c21 : PySem.W.codeIn K cd21 "law" = true) (k21 : PySem.W.keepIn K (.ref f21) = true)
    (z0 : PySem.W.nsIn K mainGlobals "len" = some none)
    (z1 : PySem.W.nsIn K mainGlobals "isinstance" = some none)
    (z2 : PySem.W.nsIn K mainGlobals "int" = some none)
    (z3 : PySem.W.nsIn K mainGlobals "bool" = some none)
    (z4 : PySem.W.nsIn K mainGlobals "enumerate" = some none)
    (z5 : PySem.W.nsIn K mainGlobals "range" = some none)
    (z6 : PySem.W.nsIn K mainGlobals "min" = some none)
    (z7 : PySem.W.nsIn K mainGlobals "max" = some none)
    (z8 : PySem.W.nsIn K mainGlobals "sorted" = some none)
    (z9 : PySem.W.nsIn K mainGlobals "list" = some none)
    (z10 : PySem.W.nsIn K mainGlobals "zip" = some none)
    (z11 : PySem.W.nsIn K mainGlobals "all" = some none)
    (z12 : PySem.W.nsIn K mainGlobals "ValueError" = some none)
    (x_NoNames : PySem.W.excIn K cl_NoNames [.type "ValueError", .type "Exception", .type "BaseException", .type "object"] "ValueError.__new__" = true)
    (t1_NoNames : PySem.W.findIn K (.ref cl_NoNames) "__getattribute__" = some (some (.builtin "BaseException.__getattribute__"))) (t7_NoNames : PySem.W.findIn K (.ref cl_NoNames) "__getattr__" = some none) (t8_NoNames : PySem.W.mroIn K cl_NoNames (.type "BaseException") = some true) {cd_NoNames : ClassData} (t2_NoNames : PySem.W.clsIn K cl_NoNames = some cd_NoNames) (t3_NoNames : PySem.W.findIn K (.ref cl_NoNames) "__class__" = some (some (.builtin "object.__class__"))) (t6_NoNames : PySem.W.mroIn K cl_NoNames (.type "object") = some true)
    (t4 : PySem.W.specialIn K (.builtin "object.__class__") "__get__" = some (some (.builtin "getset_descriptor.__get__"))) (t5 : PySem.W.takesIn K (.builtin "object.__class__") = some true)
    (f_m1 : PySem.W.exmOne K (.ref cl_NoNames) (.ref cl_MapError) = some true)
    (f_m2 : PySem.W.kitOne K (.ref cl_NoNames) (.ref cl_NoNames) = some true)
    (f_m3 : PySem.W.kitAny K (.ref cl_NoNames) [.ref cl_Flat, .ref cl_NoFrame, .ref cl_NoLand, .ref cl_NoMap, .ref cl_NoNumber, .ref cl_NoOne] = some false)
    (f_m4 : PySem.W.kitAny K (.ref cl_NoNames) [.ref cl_NoOther, .ref cl_NoSheet, .ref cl_NoThree, .ref cl_NoTie, .ref cl_NotInside, .ref cl_Parted, .ref cl_NoStep, .ref cl_NoText] = some false)
    (f_m5 : PySem.W.kitOne K (.ref cl_NoNames) (.type "ValueError") = some true)
    : ∃ fd : FuncData, (∀ (s : Shared) (v : Value), BindsTo s fd ⟨[v], []⟩ [("_law_script", v)]) ∧ ∀ base : Heap, K.In base → base.Ns mainGlobals mg → FnOk l.prog w K mg base (CXe l.prog w) 10 fa fd ["_law_script"] (sp_law K) := by
  have e := hfa.symm.trans (PySem.W.mg_of X G a21)
  cases e
  have T : Txt K mg ⟨cl_MapError, cl_NoNumber, cl_NoOne, cl_NoTie, cl_NoOther, cl_NoNames, cl_NoLand, cl_NoFrame, cl_NoThree, cl_Flat, cl_NotInside, cl_NoStep, cl_NoText, cl_NoMap, cl_NoSheet, cl_Parted⟩ := ⟨PySem.W.mg_none_of X G z0, PySem.W.mg_none_of X G z1, PySem.W.mg_none_of X G z2, PySem.W.mg_none_of X G z3, PySem.W.mg_none_of X G z4, PySem.W.mg_none_of X G z5, PySem.W.mg_none_of X G z6, PySem.W.mg_none_of X G z7, PySem.W.mg_none_of X G z8, PySem.W.mg_none_of X G z9, PySem.W.mg_none_of X G z10, PySem.W.mg_none_of X G z11, PySem.W.mg_none_of X G z12, PySem.W.mg_of X G e_MapError, PySem.W.mg_of X G e_NoNumber, PySem.W.mg_of X G e_NoOne, PySem.W.mg_of X G e_NoTie, PySem.W.mg_of X G e_NoOther, PySem.W.mg_of X G e_NoNames, PySem.W.mg_of X G e_NoLand, PySem.W.mg_of X G e_NoFrame, PySem.W.mg_of X G e_NoThree, PySem.W.mg_of X G e_Flat, PySem.W.mg_of X G e_NotInside, PySem.W.mg_of X G e_NoStep, PySem.W.mg_of X G e_NoText, PySem.W.mg_of X G e_NoMap, PySem.W.mg_of X G e_NoSheet, PySem.W.mg_of X G e_Parted, x_NoNames, ⟨t1_NoNames, t7_NoNames, t8_NoNames, by rw [t2_NoNames]; rfl, t3_NoNames, t4, t5, t6_NoNames⟩, f_m1, f_m2, f_m3, f_m4, f_m5⟩
  have D0 : Def K mg "renamed" s_renamed ["orders", "names"] := ⟨⟨f0, _, fun_mk (st := s_renamed) l0 c0 k0, PySem.W.mg_of X G a0, (fun_mk (st := s_renamed) l0 c0 k0).binds (ps := ["orders", "names"]) fun _ _ _ _ _ _ us hl => match us, hl with | [_, _], _ => rfl⟩⟩
  have D1 : Def K mg "begun_at" s_begun_at ["order", "first"] := ⟨⟨f1, _, fun_mk (st := s_begun_at) l1 c1 k1, PySem.W.mg_of X G a1, (fun_mk (st := s_begun_at) l1 c1 k1).binds (ps := ["order", "first"]) fun _ _ _ _ _ _ us hl => match us, hl with | [_, _], _ => rfl⟩⟩
  have D2 : Def K mg "orders_alike" s_orders_alike ["one", "other"] := ⟨⟨f2, _, fun_mk (st := s_orders_alike) l2 c2 k2, PySem.W.mg_of X G a2, (fun_mk (st := s_orders_alike) l2 c2 k2).binds (ps := ["one", "other"]) fun _ _ _ _ _ _ us hl => match us, hl with | [_, _], _ => rfl⟩⟩
  have D3 : Def K mg "same" s_same ["one", "other"] := ⟨⟨f3, _, fun_mk (st := s_same) l3 c3 k3, PySem.W.mg_of X G a3, (fun_mk (st := s_same) l3 c3 k3).binds (ps := ["one", "other"]) fun _ _ _ _ _ _ us hl => match us, hl with | [_, _], _ => rfl⟩⟩
  have D4 : Def K mg "_law_block" s__law_block ["_law_script", "_law_k"] := ⟨⟨f4, _, fun_mk (st := s__law_block) l4 c4 k4, PySem.W.mg_of X G a4, (fun_mk (st := s__law_block) l4 c4 k4).binds (ps := ["_law_script", "_law_k"]) fun _ _ _ _ _ _ us hl => match us, hl with | [_, _], _ => rfl⟩⟩
  have D5 : Def K mg "_law_mixed" s__law_mixed ["_law_script", "_law_k"] := ⟨⟨f5, _, fun_mk (st := s__law_mixed) l5 c5 k5, PySem.W.mg_of X G a5, (fun_mk (st := s__law_mixed) l5 c5 k5).binds (ps := ["_law_script", "_law_k"]) fun _ _ _ _ _ _ us hl => match us, hl with | [_, _], _ => rfl⟩⟩
  have D6 : Def K mg "_law_any" s__law_any ["_law_script", "_law_start", "_law_many"] := ⟨⟨f6, _, fun_mk (st := s__law_any) l6 c6 k6, PySem.W.mg_of X G a6, (fun_mk (st := s__law_any) l6 c6 k6).binds (ps := ["_law_script", "_law_start", "_law_many"]) fun _ _ _ _ _ _ us hl => match us, hl with | [_, _, _], _ => rfl⟩⟩
  have D7 : Def K mg "_law_rings" s__law_rings ["_law_orders"] := ⟨⟨f7, _, fun_mk (st := s__law_rings) l7 c7 k7, PySem.W.mg_of X G a7, (fun_mk (st := s__law_rings) l7 c7 k7).binds (ps := ["_law_orders"]) fun _ _ _ _ _ _ us hl => match us, hl with | [_], _ => rfl⟩⟩
  have D8 : Def K mg "_law_put_tie" s__law_put_tie ["_law_orders", "_law_ring", "_law_one", "_law_other"] := ⟨⟨f8, _, fun_mk (st := s__law_put_tie) l8 c8 k8, PySem.W.mg_of X G a8, (fun_mk (st := s__law_put_tie) l8 c8 k8).binds (ps := ["_law_orders", "_law_ring", "_law_one", "_law_other"]) fun _ _ _ _ _ _ us hl => match us, hl with | [_, _, _, _], _ => rfl⟩⟩
  have D9 : Def K mg "_law_put_place" s__law_put_place ["_law_orders", "_law_ring", "_law_corners"] := ⟨⟨f9, _, fun_mk (st := s__law_put_place) l9 c9 k9, PySem.W.mg_of X G a9, (fun_mk (st := s__law_put_place) l9 c9 k9).binds (ps := ["_law_orders", "_law_ring", "_law_corners"]) fun _ _ _ _ _ _ us hl => match us, hl with | [_, _, _], _ => rfl⟩⟩
  have D10 : Def K mg "_law_grown" s__law_grown ["_law_script", "_law_start", "_law_steps"] := ⟨⟨f10, _, fun_mk (st := s__law_grown) l10 c10 k10, PySem.W.mg_of X G a10, (fun_mk (st := s__law_grown) l10 c10 k10).binds (ps := ["_law_script", "_law_start", "_law_steps"]) fun _ _ _ _ _ _ us hl => match us, hl with | [_, _, _], _ => rfl⟩⟩
  have D11 : Def K mg "_law_map" s__law_map ["_law_script"] := ⟨⟨f11, _, fun_mk (st := s__law_map) l11 c11 k11, PySem.W.mg_of X G a11, (fun_mk (st := s__law_map) l11 c11 k11).binds (ps := ["_law_script"]) fun _ _ _ _ _ _ us hl => match us, hl with | [_], _ => rfl⟩⟩
  have D12 : Def K mg "_law_names" s__law_names ["_law_script", "_law_start", "_law_many"] := ⟨⟨f12, _, fun_mk (st := s__law_names) l12 c12 k12, PySem.W.mg_of X G a12, (fun_mk (st := s__law_names) l12 c12 k12).binds (ps := ["_law_script", "_law_start", "_law_many"]) fun _ _ _ _ _ _ us hl => match us, hl with | [_, _, _], _ => rfl⟩⟩
  have D13 : Def K mg "_law_renamed" s__law_renamed ["_law_orders", "_law_names_here"] := ⟨⟨f13, _, fun_mk (st := s__law_renamed) l13 c13 k13, PySem.W.mg_of X G a13, (fun_mk (st := s__law_renamed) l13 c13 k13).binds (ps := ["_law_orders", "_law_names_here"]) fun _ _ _ _ _ _ us hl => match us, hl with | [_, _], _ => rfl⟩⟩
  have D14 : Def K mg "_law_begun" s__law_begun ["_law_script", "_law_start", "_law_orders"] := ⟨⟨f14, _, fun_mk (st := s__law_begun) l14 c14 k14, PySem.W.mg_of X G a14, (fun_mk (st := s__law_begun) l14 c14 k14).binds (ps := ["_law_script", "_law_start", "_law_orders"]) fun _ _ _ _ _ _ us hl => match us, hl with | [_, _, _], _ => rfl⟩⟩
  have D15 : Def K mg "_law_same" s__law_same ["_law_one", "_law_other"] := ⟨⟨f15, _, fun_mk (st := s__law_same) l15 c15 k15, PySem.W.mg_of X G a15, (fun_mk (st := s__law_same) l15 c15 k15).binds (ps := ["_law_one", "_law_other"]) fun _ _ _ _ _ _ us hl => match us, hl with | [_, _], _ => rfl⟩⟩
  have D16 : Def K mg "_law_strange" s__law_strange ["_law_caught_here"] := ⟨⟨f16, _, fun_mk (st := s__law_strange) l16 c16 k16, PySem.W.mg_of X G a16, (fun_mk (st := s__law_strange) l16 c16 k16).binds (ps := ["_law_caught_here"]) fun _ _ _ _ _ _ us hl => match us, hl with | [_], _ => rfl⟩⟩
  have D17 : Def K mg "_law_spoiled" s__law_spoiled ["_law_names_here", "_law_number"] := ⟨⟨f17, _, fun_mk (st := s__law_spoiled) l17 c17 k17, PySem.W.mg_of X G a17, (fun_mk (st := s__law_spoiled) l17 c17 k17).binds (ps := ["_law_names_here", "_law_number"]) fun _ _ _ _ _ _ us hl => match us, hl with | [_, _], _ => rfl⟩⟩
  have D18 : Def K mg "_law_caught" s__law_caught ["_law_orders", "_law_names_here"] := ⟨⟨f18, _, fun_mk (st := s__law_caught) l18 c18 k18, PySem.W.mg_of X G a18, (fun_mk (st := s__law_caught) l18 c18 k18).binds (ps := ["_law_orders", "_law_names_here"]) fun _ _ _ _ _ _ us hl => match us, hl with | [_, _], _ => rfl⟩⟩
  have D19 : Def K mg "_law_exchanged" s__law_exchanged ["_law_script", "_law_orders"] := ⟨⟨f19, _, fun_mk (st := s__law_exchanged) l19 c19 k19, PySem.W.mg_of X G a19, (fun_mk (st := s__law_exchanged) l19 c19 k19).binds (ps := ["_law_script", "_law_orders"]) fun _ _ _ _ _ _ us hl => match us, hl with | [_, _], _ => rfl⟩⟩
  have D20 : Def K mg "_law_told" s__law_told ["_law_found", "_law_due"] := ⟨⟨f20, _, fun_mk (st := s__law_told) l20 c20 k20, PySem.W.mg_of X G a20, (fun_mk (st := s__law_told) l20 c20 k20).binds (ps := ["_law_found", "_law_due"]) fun _ _ _ _ _ _ us hl => match us, hl with | [_, _], _ => rfl⟩⟩
  refine ⟨PySem.W.fnOf "law" "law" (defArgs s_law) (defBody s_law) (defScope s_law) .none kV21 dc21 pm21 an21 cd21 ct21, fun s v => .of_eq rfl, fun base hK hG => ?_⟩
  have H_renamed := ok_renamed (P := l.prog) (w := w) (base := base) D0 T 
  have H_begun_at := ok_begun_at (P := l.prog) (w := w) (base := base) D1 T 
  have H_orders_alike := ok_orders_alike (P := l.prog) (w := w) (base := base) D2 T H_begun_at
  have H_same := ok_same (P := l.prog) (w := w) (base := base) D3 T H_orders_alike
  have H__law_block := ok__law_block (P := l.prog) (w := w) (base := base) D4 T 
  have H__law_mixed := ok__law_mixed (P := l.prog) (w := w) (base := base) D5 T H__law_block
  have H__law_any := ok__law_any (P := l.prog) (w := w) (base := base) D6 T H__law_mixed
  have H__law_rings := ok__law_rings (P := l.prog) (w := w) (base := base) D7 T 
  have H__law_put_tie := ok__law_put_tie (P := l.prog) (w := w) (base := base) D8 T 
  have H__law_put_place := ok__law_put_place (P := l.prog) (w := w) (base := base) D9 T 
  have H__law_grown := ok__law_grown (P := l.prog) (w := w) (base := base) D10 T H__law_mixed H__law_rings H__law_put_tie H__law_put_place
  have H__law_map := ok__law_map (P := l.prog) (w := w) (base := base) D11 T H__law_mixed H__law_any H__law_grown
  have H__law_names := ok__law_names (P := l.prog) (w := w) (base := base) D12 T H__law_mixed
  have H__law_renamed := ok__law_renamed (P := l.prog) (w := w) (base := base) D13 T 
  have H__law_begun := ok__law_begun (P := l.prog) (w := w) (base := base) D14 T H__law_mixed
  have H__law_same := ok__law_same (P := l.prog) (w := w) (base := base) D15 T 
  have H__law_strange := ok__law_strange (P := l.prog) (w := w) (base := base) D16 T 
  have H__law_spoiled := ok__law_spoiled (P := l.prog) (w := w) (base := base) D17 T 
  have H__law_caught := ok__law_caught (P := l.prog) (w := w) (base := base) D18 T H_renamed
  have H__law_exchanged := ok__law_exchanged (P := l.prog) (w := w) (base := base) D19 T H__law_mixed
  have H__law_told := ok__law_told (P := l.prog) (w := w) (base := base) D20 T 
  exact ok_law (fun_mk (st := s_law) l21 c21 k21) T H_renamed H_same H__law_mixed H__law_map H__law_names H__law_renamed H__law_begun H__law_same H__law_strange H__law_spoiled H__law_caught H__law_exchanged H__law_told
theorem walk {l : PySem.W.OpenLaw} {q : Program} {loose : List Str} {XP : (Str → Option Value) → Heap → Prop} {YP : World → Heap → Prop} {d : DefRec} {K : Params → PySem.W.Frag} (hn : l.most = some 63) (hdf : d.params.defaults = [])
    (hY : ∀ (w : World) (h : Heap), YP w h → (K w.params).In h)
    (F : ∀ (w : World) (mg : Str → Option Value) (fa : Addr) (h : Heap), (K w.params).In h → h.Ns mainGlobals mg → mg d.name = some (.ref fa) →
      ∃ fd : FuncData, (∀ (s : Shared) (u : Value), BindsTo s fd ⟨[u], []⟩ [("_law_script", u)]) ∧ ∀ base : Heap, (K w.params).In base → base.Ns mainGlobals mg → FnOk l.prog w (K w.params) mg base (CXe l.prog w) 10 fa fd ["_law_script"] (sp_law (K w.params))) :
    PySem.W.WalkO q loose XP YP l.row.toRowW d [] (fun f vs => PySem.call f vs) :=
  L2.walk_of (n := 63) (k := 10) (x := "_law_script") (CX := fun w => CXe l.prog w) (sp := fun w => sp_law (K w.params)) hn (by decide) hdf ⟨rfl, by decide, by decide⟩ hY F (fun _ _ a ns hl _ hS => ⟨a, ns, rfl, hS, hl, fun _ => rfl⟩) fun _ _ _ _ _ z => cxe_false z
end Toy
theorem PySem.W.Fast.tw1580509334130764819 : True := trivial
theorem PySem.W.Fast.tw5512916936566966282 : True := trivial
theorem PySem.W.Fast.tw3351556323733064176 : True := trivial
theorem PySem.W.Fast.tw12999663332473349394 : True := trivial
theorem PySem.W.Fast.tw1238865449335030551 : True := trivial
theorem PySem.W.Fast.tw6036839435569893617 : True := trivial
theorem PySem.W.Fast.tw2682299615373298804 : True := trivial
theorem PySem.W.Fast.tw5332958491105287734 : True := trivial
theorem PySem.W.Fast.tw16166845786257955492 : True := trivial
theorem PySem.W.Fast.tw16539180797998448499 : True := trivial
theorem PySem.W.Fast.tw10701937119844081072 : True := trivial
theorem PySem.W.Fast.tw496633293852005275 : True := trivial
theorem PySem.W.Fast.tw15703279141025858887 : True := trivial
theorem PySem.W.Fast.tw12139458999063326152 : True := trivial
theorem PySem.W.Fast.tw13814705725701715942 : True := trivial
theorem PySem.W.Fast.tw702640594896471362 : True := trivial
theorem PySem.W.Fast.tw6073366412891070731 : True := trivial
theorem PySem.W.Fast.tw1172283392417533298 : True := trivial
theorem PySem.W.Fast.tw1126682573002127843 : True := trivial
theorem PySem.W.Fast.tw6310948039966200024 : True := trivial
theorem PySem.W.Fast.tw2137372950637360985 : True := trivial
theorem PySem.W.Fast.tw9644438337870116023 : True := trivial
open PySem PySem.W PyProof.Rows
set_option maxRecDepth 100000 in
set_option maxHeartbeats 0 in
theorem PySem.Challenge.cw_standup_k27_names_holds : PySem.Challenge.rw_standup_k27_names.Holds := by
  w_on; o_law; k_head; (case hw => w_witness2)
  k_fill
  refine Toy.walk (l := PySem.Challenge.rw_standup_k27_names) rfl rfl (fun w h Y => PySem.W.kIn_of Y) ?F
  case F =>
    intro w mg fa h KX G hmg
    refine' Toy.all_mk KX G hmg ?e_MapError ?e_NoNumber ?e_NoOne ?e_NoTie ?e_NoOther ?e_NoNames ?e_NoLand ?e_NoFrame ?e_NoThree ?e_Flat ?e_NotInside ?e_NoStep ?e_NoText ?e_NoMap ?e_NoSheet ?e_Parted ?a0 ?l0 ?c0 ?k0 ?a1 ?l1 ?c1 ?k1 ?a2 ?l2 ?c2 ?k2 ?a3 ?l3 ?c3 ?k3 ?a4 ?l4 ?c4 ?k4 ?a5 ?l5 ?c5 ?k5 ?a6 ?l6 ?c6 ?k6 ?a7 ?l7 ?c7 ?k7 ?a8 ?l8 ?c8 ?k8 ?a9 ?l9 ?c9 ?k9 ?a10 ?l10 ?c10 ?k10 ?a11 ?l11 ?c11 ?k11 ?a12 ?l12 ?c12 ?k12 ?a13 ?l13 ?c13 ?k13 ?a14 ?l14 ?c14 ?k14 ?a15 ?l15 ?c15 ?k15 ?a16 ?l16 ?c16 ?k16 ?a17 ?l17 ?c17 ?k17 ?a18 ?l18 ?c18 ?k18 ?a19 ?l19 ?c19 ?k19 ?a20 ?l20 ?c20 ?k20 ?a21 ?l21 ?c21 ?k21 ?z0 ?z1 ?z2 ?z3 ?z4 ?z5 ?z6 ?z7 ?z8 ?z9 ?z10 ?z11 ?z12 ?x_NoNames ?t1_NoNames ?t7_NoNames ?t8_NoNames ?t2_NoNames ?t3_NoNames ?t6_NoNames ?t4 ?t5 ?f_m1 ?f_m2 ?f_m3 ?f_m4 ?f_m5
    (case e_MapError => k_is)
    (case e_NoNumber => k_is)
    (case e_NoOne => k_is)
    (case e_NoTie => k_is)
    (case e_NoOther => k_is)
    (case e_NoNames => k_is)
    (case e_NoLand => k_is)
    (case e_NoFrame => k_is)
    (case e_NoThree => k_is)
    (case e_Flat => k_is)
    (case e_NotInside => k_is)
    (case e_NoStep => k_is)
    (case e_NoText => k_is)
    (case e_NoMap => k_is)
    (case e_NoSheet => k_is)
    (case e_Parted => k_is)
    (case a0 => k_is)
    (case l0 => k_is)
    (case c0 => k_is)
    (case k0 => k_is)
    (case a1 => k_is)
    (case l1 => k_is)
    (case c1 => k_is)
    (case k1 => k_is)
    (case a2 => k_is)
    (case l2 => k_is)
    (case c2 => k_is)
    (case k2 => k_is)
    (case a3 => k_is)
    (case l3 => k_is)
    (case c3 => k_is)
    (case k3 => k_is)
    (case a4 => k_is)
    (case l4 => k_is)
    (case c4 => k_is)
    (case k4 => k_is)
    (case a5 => k_is)
    (case l5 => k_is)
    (case c5 => k_is)
    (case k5 => k_is)
    (case a6 => k_is)
    (case l6 => k_is)
    (case c6 => k_is)
    (case k6 => k_is)
    (case a7 => k_is)
    (case l7 => k_is)
    (case c7 => k_is)
    (case k7 => k_is)
    (case a8 => k_is)
    (case l8 => k_is)
    (case c8 => k_is)
    (case k8 => k_is)
    (case a9 => k_is)
    (case l9 => k_is)
    (case c9 => k_is)
    (case k9 => k_is)
    (case a10 => k_is)
    (case l10 => k_is)
    (case c10 => k_is)
    (case k10 => k_is)
    (case a11 => k_is)
    (case l11 => k_is)
    (case c11 => k_is)
    (case k11 => k_is)
    (case a12 => k_is)
    (case l12 => k_is)
    (case c12 => k_is)
    (case k12 => k_is)
    (case a13 => k_is)
    (case l13 => k_is)
    (case c13 => k_is)
    (case k13 => k_is)
    (case a14 => k_is)
    (case l14 => k_is)
    (case c14 => k_is)
    (case k14 => k_is)
    (case a15 => k_is)
    (case l15 => k_is)
    (case c15 => k_is)
    (case k15 => k_is)
    (case a16 => k_is)
    (case l16 => k_is)
    (case c16 => k_is)
    (case k16 => k_is)
    (case a17 => k_is)
    (case l17 => k_is)
    (case c17 => k_is)
    (case k17 => k_is)
    (case a18 => k_is)
    (case l18 => k_is)
    (case c18 => k_is)
    (case k18 => k_is)
    (case a19 => k_is)
    (case l19 => k_is)
    (case c19 => k_is)
    (case k19 => k_is)
    (case a20 => k_is)
    (case l20 => k_is)
    (case c20 => k_is)
    (case k20 => k_is)
    (case a21 => k_is)
    (case l21 => k_is)
    (case c21 => k_is)
    (case k21 => k_is)
    (case z0 => k_is)
    (case z1 => k_is)
    (case z2 => k_is)
    (case z3 => k_is)
    (case z4 => k_is)
    (case z5 => k_is)
    (case z6 => k_is)
    (case z7 => k_is)
    (case z8 => k_is)
    (case z9 => k_is)
    (case z10 => k_is)
    (case z11 => k_is)
    (case z12 => k_is)
    (case x_NoNames => k_exc)
    (case t1_NoNames => k_is)
    (case t7_NoNames => k_is)
    (case t8_NoNames => k_is)
    (case t2_NoNames => k_is)
    (case t3_NoNames => k_is)
    (case t6_NoNames => k_is)
    (case t4 => k_is)
    (case t5 => k_is)
    (case f_m1 => kts_exm)
    (case f_m2 => kit_is)
    (case f_m3 => kit_is)
    (case f_m4 => kit_is)
    (case f_m5 => kit_is)
