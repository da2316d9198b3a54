import PyProof.Rows.All
import Wide.All
import OpenK.AllK
import Wide.FinOn
import Lean
import PyProof.EqAt
import PyProof.EqKinds
import PyProof.TupleCall
import KE.KRevIter
import KE.KIntText
import KE.KDictList
import PyProof.Rows.TupDisplay
import PyProof.Rows.SetFrom
import PyProof.Walks
import PySem.Challenge.RW_standup_k32_whole_roads
set_option Elab.async false
set_option linter.all false
set_option maxRecDepth 100000
set_option maxHeartbeats 4000000
namespace L2
open PySem PySem.Spec PyProof.Rows
abbrev Key:=Sum Int Str
def lr:Key→Value→Bool
 | .inl k,v=>Value.isInt k v
 | .inr x,v=>Value.isStrOf x v
def G4 (w:World):Key→Int
 | .inl k=>hashInt k
 | .inr x=>hashStr w x
theorem bM:∀ {k:Key} {v:Value},lr k v = true→(∃ i t,k = Sum.inl i∧v = Value.int i t)∨(∃ x t,k = Sum.inr x∧v = Value.str x t)
 | .inl i,v,h=>by
  obtain ⟨t,e⟩:=Value.isInt_shape (k:=i) (v:=v) h
  exact .inl ⟨i,t,rfl,e⟩
 | .inr x,v,h=>by
  obtain ⟨t,e⟩:=Value.isStrOf_shape (x:=x) (v:=v) h
  exact .inr ⟨x,t,rfl,e⟩
theorem sO (i:Int) (t:Tok):lr (.inl i) (.int i t) = true:=by simp [lr,Value.isInt]
theorem sN (x:Str) (t:Tok):lr (.inr x) (.str x t) = true:=by simp [lr,Value.isStrOf]
theorem zW (a b:Int):decide ((Sum.inl a:Key) = Sum.inl b) = (a == b):=by
 by_cases e:a = b
 ·subst e; simp
 ·have h:¬ (Sum.inl a:Key) = Sum.inl b:=fun q=>e (Sum.inl.inj q)
  rw [decide_eq_false h]
  exact (beq_eq_false_iff_ne.mpr e).symm
theorem zT (a b:Str):decide ((Sum.inr a:Key) = Sum.inr b) = decide (a = b):=by
 by_cases e:a = b
 ·subst e; simp
 ·have h:¬ (Sum.inr a:Key) = Sum.inr b:=fun q=>e (Sum.inr.inj q)
  rw [decide_eq_false h,decide_eq_false e]
theorem zV (a:Int) (b:Str):decide ((Sum.inl a:Key) = Sum.inr b) = false:=decide_eq_false (fun q=>nomatch q)
theorem zU (a:Str) (b:Int):decide ((Sum.inr a:Key) = Sum.inl b) = false:=decide_eq_false (fun q=>nomatch q)
def bQ (prog:Program) (w:World):PySem.KeyKind prog w Key where
 is:=lr
 hash:=G4 w
 inj:=fun v a b ha hb=>by
  rcases bM ha with ⟨i,t,rfl,rfl⟩ | ⟨x,t,rfl,rfl⟩
  ·rcases bM hb with ⟨j,u,rfl,e⟩ | ⟨y,u,rfl,e⟩
   ·injection e with e1 _; rw [e1]
   ·exact nomatch e
  ·rcases bM hb with ⟨j,u,rfl,e⟩ | ⟨y,u,rfl,e⟩
   ·exact nomatch e
   ·injection e with e1 _; rw [e1]
 byValue:=fun k v h=>by
  rcases bM h with ⟨i,t,rfl,rfl⟩ | ⟨x,t,rfl,rfl⟩ <;> rfl
 pyHash:=fun hv h=>by
  rcases bM hv with ⟨i,t,rfl,rfl⟩ | ⟨x,t,rfl,rfl⟩
  ·exact wpAny_pyHash_int h
  ·exact wpAny_pyHash_str h
 eqBool:=fun hu hv h=>by
  rcases bM hu with ⟨i,t,rfl,rfl⟩ | ⟨x,t,rfl,rfl⟩
  ·rcases bM hv with ⟨j,u,rfl,rfl⟩ | ⟨y,u,rfl,rfl⟩
   ·rw [zW] at h; exact wpAny_eqBool_int h
   ·rw [zV] at h; exact SeqAt.EqAt.int_str i t y u _ _ _ _ h
  ·rcases bM hv with ⟨j,u,rfl,rfl⟩ | ⟨y,u,rfl,rfl⟩
   ·rw [zU] at h; exact SeqAt.EqAt.str_int x t j u _ _ _ _ h
   ·rw [zT] at h; exact wpAny_eqBool_str h
 «strs»:=fun k x t v h=>by
  rcases bM h with ⟨i,u,rfl,e⟩ | ⟨y,u,rfl,e⟩
  ·exact nomatch e
  ·injection e with e1 _
   subst e1
   cases v <;> rfl
theorem oj (prog:Program) (w:World) (i:Int) (t:Tok):(bQ prog w).is (.inl i) (.int i t) = true:=sO i t
theorem oh (prog:Program) (w:World) (x:Str) (t:Tok):(bQ prog w).is (.inr x) (.str x t) = true:=sN x t
end L2
namespace L2
open PySem PySem.Spec PyProof.Rows
inductive V where
 | bY | bl (b:Bool) | int (i:Int) | str (x:Str) | qi (b:Array UInt8) | vw (b:UInt64) | ref (a:Addr) | ty (n:String)
 deriving DecidableEq
def RelV:V→Value→Prop
 | .bY,u=>u = Value.none
 | .bl b,u=>u = Value.bool b
 | .int i,u=>∃ t,u = Value.int i t
 | .str x,u=>∃ t,u = Value.str x t
 | .qi b,u=>∃ t,u = Value.bytes b t
 | .vw b,u=>∃ t,u = Value.float b t
 | .ref a,u=>u = Value.ref a
 | .ty n,u=>u = Value.type n
abbrev Vals:List V→List Value→Prop:=Paired RelV
theorem Vals.length {xs:List V} {us:List Value} (r:Vals xs us):xs.length = us.length:=Paired.length r
theorem Vals.get:∀ {xs:List V} {us:List Value} {i:Nat} {x:V},Vals xs us→xs[i]? = some x→∃ u,us[i]? = some u∧RelV x u
 | _,_,_,_,.nil,e=>by simp at e
 | _,_,0,_,.cons r _,e=>by simp at e; subst e; exact ⟨_,rfl,r⟩
 | _,_,i + 1,x,.cons _ t,e=>by
  obtain ⟨u,h1,h2⟩:=Vals.get (i:=i) (x:=x) t (by simpa using e)
  exact ⟨u,by simpa using h1,h2⟩
theorem Vals.set {x:V} {u:Value} (r:RelV x u):∀ {xs:List V} {us:List Value} (i:Nat),Vals xs us→Vals (xs.set i x) (us.set i u)
 | _,_,_,.nil=>.nil
 | _,_,0,.cons _ t=>.cons r t
 | _,_,i + 1,.cons q t=>.cons q (Vals.set r i t)
theorem Vals.append:∀ {xs ys:List V} {us ws:List Value},Vals xs us→Vals ys ws→Vals (xs ++ ys) (us ++ ws)
 | _,_,_,_,.nil,s=>s
 | _,_,_,_,.cons r t,s=>.cons r (Vals.append t s)
theorem Vals.take:∀ {xs:List V} {us:List Value} (n:Nat),Vals xs us→Vals (xs.take n) (us.take n)
 | _,_,0,_=>.nil
 | _,_,_ + 1,.nil=>.nil
 | _,_,n + 1,.cons r t=>.cons r (Vals.take n t)
theorem Vals.drop:∀ {xs:List V} {us:List Value} (n:Nat),Vals xs us→Vals (xs.drop n) (us.drop n)
 | _,_,0,r=>r
 | _,_,_ + 1,.nil=>.nil
 | _,_,n + 1,.cons _ t=>Vals.drop n t
def j5:Option V→Option Value→Prop
 | some v,some u=>RelV v u
 | none,none=>True
 | _,_=>False
def KV {κ : Type}:List (κ×V)→List (κ×Value)→Prop:=Paired fun (p : κ×V) (q : κ×Value)=>p.1 = q.1∧RelV p.2 q.2
def kV:Key→V
 | .inl i=>.int i
 | .inr x=>.str x
inductive HO where
 /-- a list -/
 | lst (xs:List V)
 /-- a tuple (never changes) -/
 | tup (xs:List V)
 /-- a dict Bv keys are ints and texts; one Bv keys are tuples of ints and texts (tZ empty one is both) -/
 | dK (au:List (Key×V)) | dT (au:List (List Key×V))
 /-- a set of ints: aO members,aO size -/
 | set (S:Int→Bool) (n:Nat)
 /-- an instance of tZ class at C,aO dict at dx,aO attributes -/
 | ins (C dx:Addr) (fs:List (Str×V))
 /-- tZ dict of tZ instance at x -/
 | own (x:Addr)
 /-- tZ dict of an exception -/
 | xd (fs:List (Str×V))
 /-- a bound method,f of x -/
 | met (f x:Addr)
 /-- a range object lo,lo + 1,.. below hi -/
 | FL (lo hi:Int)
 /-- a Bz LZ is known to tZ object (tZ um; a dict while a loop walks it): read,never written while it is so -/
 | eF (o:Obj) (u:HO)
 /-- a code object's table -/
 | yZ (ps:Array Value)
 /-- any other Bz,by E4 is true of aO one object (a def of one's own: QC a S n:=HO.ext fun h=>..) -/
 | ext (φ : Heap→Prop)
abbrev Hp:=Addr→Option HO
def upd (H:Hp) (a:Addr) (o:HO):Hp:=fun b=>if b = a then some o else H b
theorem ae {H:Hp} {a:Addr} {o:HO}:upd H a o a = some o:=by unfold upd; rw [if_pos rfl]
theorem ak {H:Hp} {a b:Addr} {o:HO} (h:b≠a):upd H a o b = H b:=by unfold upd; rw [if_neg h]
theorem uY {H:Hp} {a b:Addr} {o u:HO} (h:H a = some o) (h':H b = some u) (d:o≠u):a≠b:=by
 intro e; subst e; rw [h] at h'; exact d (Option.some.inj h')
theorem aF {H:Hp} {a b:Addr} {o:HO} (h:H a = some o) (h':H b = none):a≠b:=by
 intro e; subst e; rw [h] at h'; cases h'
section
variable (P:Program) (w:World)
def bh (H:Hp) (h:Heap) (a:Addr):HO→Prop
 | .lst xs=>xs.length≤sizeLine∧∃ (aO:List Value) (n:Nat),Vals xs aO∧h.get? a = some { cls:=.type "list",data:=.seq aO.toArray n }
 | .tup xs=>xs.length≤sizeLine∧∃ aO:List Value,Vals xs aO∧IsTup h a aO.toArray
 | .dK au=>au.length≤sizeLine∧(a == sysModules) = false∧∃ vs,KV au vs∧h.DictOf (bQ P w) a vs
 | .dT au=>au.length≤sizeLine∧(a == sysModules) = false∧∃ xs:List (List Key×Addr×Value),
   Paired (fun (p:List Key×V) (q:List Key×Addr×Value)=>p.1 = q.1∧H q.2.1 = some (.tup (p.1.map kV))∧RelV p.2 q.2.2) au xs∧
   ∃ o es ep,h.get? a = some o∧o.ExactDict∧o.data = .dict es ep∧es.toList = xs.map (entryOfKey (tupleKind (bQ P w)))∧(xs.map (·.1)).Nodup
 | .set S n=>h.SetOf (intKind P w) a S n
 | .ins C dx fs=>H dx = some (.own a)∧fs.length≤1000∧dx≠a∧h.get? a = some (PySem.W.instObj C dx)∧
   ∃ mA,h.Ns1 dx mA∧(∀ f,j5 (fs.lookup f) (mA f))∧PySem.Within mA (fs.map (·.1))
 | .own _=>∃ o,h.get? a = some o
 | .xd fs=>∃ mA,h.Ns1 a mA∧∀ f,j5 (fs.lookup f) (mA f)
 | .FL lo hi=>∃ t u v,h.get? a = some { cls:=.type "range",data:=.fields #[.int lo t,.int hi u,.int 1 v] }
 | .eF o u=>h.get? a = some o∧bh H h a u
 | .yZ ps=>h.get? a = some { cls:=.none,data:=.fields ps }
 | .met f x=>h.get? a = some (PySem.W.methodObj (.ref f) (.ref x))
 | .ext φ=>φ h∧(∃ o,h.get? a = some o)∧∀ h1 h2:Heap,φ h1→(∀ o,h1.get? a = some o→h2.get? a = some o)→φ h2
def gc (H:Hp) (h:Heap):Prop:=∀ a o,H a = some o→bh P w H h a o
end
section
variable {P:Program} {w:World} {H H':Hp} {h h':Heap} {a:Addr} {o:HO}
theorem bh.lt (x:bh P w H h a o):a < h.objs.size:=by
 cases o with
 | lst xs=>obtain ⟨_,_,_,_,e⟩:=x; exact Heap.lt_size e
 | tup xs=>obtain ⟨_,_,_,p⟩:=x; exact p.lt
 | dK au=>obtain ⟨_,_,_,_,o,_,_,e,_⟩:=x; exact Heap.lt_size e
 | dT au=>obtain ⟨_,_,_,_,o,_,_,e,_⟩:=x; exact Heap.lt_size e
 | set S n=>obtain ⟨o,_,_,_,e,_⟩:=x; exact Heap.lt_size e
 | ins C dx fs=>obtain ⟨_,_,_,e,_⟩:=x; exact Heap.lt_size e
 | own y=>obtain ⟨_,e⟩:=x; exact Heap.lt_size e
 | xd fs=>obtain ⟨_,⟨_,_,_,e,_⟩,_⟩:=x; exact Heap.lt_size e
 | FL lo hi=>obtain ⟨_,_,_,e⟩:=x; exact Heap.lt_size e
 | eF ob u=>obtain ⟨e,_⟩:=x; exact Heap.lt_size e
 | yZ ps=>exact Heap.lt_size (show h.get? a = some _ from x)
 | met f y=>exact Heap.lt_size (show h.get? a = some _ from x)
 | ext φ=>obtain ⟨_,⟨_,e⟩,_⟩:=x; exact Heap.lt_size e
theorem Paired.sL {α β : Type} {F G : α→β→Prop}:∀ {l₁ : List α} {l₂ : List β},Paired F l₁ l₂→(∀ a b,F a b→G a b)→Paired G l₁ l₂
 | _,_,.nil,_=>.nil
 | _,_,.cons r t,f=>.cons (f _ _ r) (Paired.sL t f)
theorem bh.lX (x:bh P w H h a o) (k:∀ b u,(b = a∨H b = some (.own a))→h.get? b = some u→h'.get? b = some u)
  (ho:∀ b,H b = some (.own a)→H' b = some (.own a)) (ht:∀ b xs,H b = some (.tup xs)→H' b = some (.tup xs)):bh P w H' h' a o:=by
 induction o with
 | lst xs=>obtain ⟨z,aO,n,r,e⟩:=x; exact ⟨z,aO,n,r,k _ _ (.inl rfl) e⟩
 | tup xs=>obtain ⟨z,aO,r,ob,e,c⟩:=x; exact ⟨z,aO,r,ob,k _ _ (.inl rfl) e,c⟩
 | dK au=>obtain ⟨z,y,vs,r,ob,es,ep,e,c⟩:=x; exact ⟨z,y,vs,r,ob,es,ep,k _ _ (.inl rfl) e,c⟩
 | dT au=>
  obtain ⟨z,y,xs,r,ob,es,ep,e,c⟩:=x
  exact ⟨z,y,xs,Paired.sL r fun p q z=>⟨z.1,ht _ _ z.2.1,z.2.2⟩,ob,es,ep,k _ _ (.inl rfl) e,c⟩
 | set S n=>obtain ⟨ob,es,ep,t,e,c⟩:=x; exact ⟨ob,es,ep,t,k _ _ (.inl rfl) e,c⟩
 | ins C dx fs=>
  obtain ⟨d,z,ne,e,mA,⟨od,es,ep,e2,c⟩,r⟩:=x
  exact ⟨ho _ d,z,ne,k _ _ (.inl rfl) e,mA,⟨od,es,ep,k _ _ (.inr d) e2,c⟩,r⟩
 | own y=>obtain ⟨ob,e⟩:=x; exact ⟨ob,k _ _ (.inl rfl) e⟩
 | xd fs=>obtain ⟨mA,⟨od,es,ep,e,c⟩,r⟩:=x; exact ⟨mA,⟨od,es,ep,k _ _ (.inl rfl) e,c⟩,r⟩
 | FL lo hi=>obtain ⟨t,u,v,e⟩:=x; exact ⟨t,u,v,k _ _ (.inl rfl) e⟩
 | eF ob u ih=>obtain ⟨e,q⟩:=x; exact ⟨k _ _ (.inl rfl) e,ih q⟩
 | yZ ps=>
  have e:h.get? a = some { cls:=.none,data:=.fields ps }:=x
  show h'.get? a = some { cls:=.none,data:=.fields ps }
  exact k a _ (.inl rfl) e
 | met f y=>
  have e:h.get? a = some (PySem.W.methodObj (.ref f) (.ref y)):=x
  show h'.get? a = some (PySem.W.methodObj (.ref f) (.ref y))
  exact k a _ (.inl rfl) e
 | ext φ=>obtain ⟨p,⟨o,e⟩,st⟩:=x; exact ⟨st _ _ p fun o q=>k _ _ (.inl rfl) q,⟨o,k _ _ (.inl rfl) e⟩,st⟩
theorem gc.lt (x:gc P w H h) (e:H a = some o):a < h.objs.size:=(x a o e).lt
theorem gc.fresh (x:gc P w H h) (e:h.objs.size≤a):H a = none:=by
 cases q:H a with
 | none=>rfl
 | some u=>exact absurd (Nat.lt_of_lt_of_le (x.lt q) e) (Nat.lt_irrefl _)
theorem gc.kept (x:gc P w H h) (k:∀ b u,h.get? b = some u→h'.get? b = some u):gc P w H h':=fun a o e=>
 (x a o e).lX (fun b u _ q=>k b u q) (fun _ q=>q) fun _ _ q=>q
theorem gc.laid (x:gc P w H h) (k:∀ b u,h.get? b = some u→h'.get? b = some u) (hp:h.objs.size≤a) (new:bh P w (upd H a o) h' a o):gc P w (upd H a o) h':=fun b u e=>by
 have hn:=x.fresh hp
 by_cases hb:b = a
 ·subst hb; rw [ae] at e; cases e; exact new
 ·rw [ak hb] at e
  exact (x b u e).lX (fun c v _ q=>k c v q) (fun c q=>by rw [ak (aF q hn)]; exact q) fun c xs q=>by rw [ak (aF q hn)]; exact q
end
def Rd (H:Hp) (a:Addr) (u:HO):Prop:=H a = some u∨∃ o,H a = some (.eF o u)
theorem Rd.ok {P:Program} {w:World} {H:Hp} {h:Heap} {a:Addr} {u:HO} (r:Rd H a u) (x:gc P w H h):bh P w H h a u:=by
 rcases r with r | ⟨o,r⟩
 ·exact x a u r
 ·obtain ⟨_,q⟩:=x a _ r
  exact q
def DB:Option HO→Prop
 | some (.lst _)=>True
 | some (.dK _)=>True
 | some (.dT _)=>True
 | some (.set _ _)=>True
 | some (.ins _ _ _)=>True
 | some (.ext _)=>True
 | _=>False
section
variable {P:Program} {w:World} {H:Hp} {h h':Heap} {x e:Addr} {o':HO}
theorem gc.write (ok:gc P w H h) (mu:DB (H x)) (he:e = x∨H e = some (.own x)) (k:∀ b u,b≠e→h.get? b = some u→h'.get? b = some u) (Bl:∃ u,h'.get? e = some u)
  (new:bh P w (upd H x o') h' x o'):gc P w (upd H x o') h':=fun b u q=>by
 have Ci:∀ c y,H c = some (.own y)→c≠x:=fun c y r z=>by subst z; rw [r] at mu; exact mu
 have GO:∀ c xs,H c = some (.tup xs)→c≠x:=fun c xs r z=>by subst z; rw [r] at mu; exact mu
 by_cases hb:b = x
 ·subst hb; rw [ae] at q; cases q; exact new
 ·rw [ak hb] at q
  by_cases As:b = e
  ·have q':H b = some (.own x):=by
    rcases he with z | z
    ·exact absurd (As.trans z) hb
    ·rw [As]; exact z
   rw [q] at q'; cases q'
   obtain ⟨v,hv⟩:=Bl
   exact ⟨v,by rw [As]; exact hv⟩
  ·refine (ok b u q).lX (fun c v hc r=>k c v ?_ r) (fun c r=>by rw [ak (Ci c b r)]; exact r) fun c xs r=>by rw [ak (GO c xs r)]; exact r
   rcases hc with rfl | hc
   ·exact As
   ·rintro rfl
    rcases he with z | z
    ·exact Ci c b hc z
    ·rw [hc] at z; cases z; exact hb rfl
end
structure Un (fs ex:List Addr) (H H':Hp) (h h':Heap):Prop where
 keep:∀ b o,h.get? b = some o→H b = none→b∉fs→b∉ex→h'.get? b = some o
 slot:∀ b o,h.get? b = some o→H b = none→b∈fs→b∉ex→∃ sl,h'.get? b = some { o with slots:=sl }
 free:∀ b o,h.get? b = some o→H b = none→b∉ex→H' b = none
 there:∀ b o,h.get? b = some o→b∉ex→∃ o',h'.get? b = some o'
 lU:∀ b xs,H b = some (.tup xs)→H' b = some (.tup xs)
 kG:∀ b o u,H b = some (.eF o u)→H' b = some (.eF o u)
 lV:∀ b ps,H b = some (.yZ ps)→∃ more,H' b = some (.yZ (ps ++ more))
section
variable {fs CY ex RZ:List Addr} {H H1 H2:Hp} {h h1 h2 h':Heap} {a x e:Addr} {o:HO}
theorem Un.any (u:Un fs ex H H1 h h1) {b:Addr} {ob:Obj} (q:h.get? b = some ob) (n:H b = none) (hx:b∉ex):∃ sl,h1.get? b = some { ob with slots:=sl }:=by
 by_cases hb:b∈fs
 ·exact u.slot b ob q n hb hx
 ·exact ⟨ob.slots,u.keep b ob q n hb hx⟩
theorem Un.kept (k:∀ b u,h.get? b = some u→h'.get? b = some u):Un fs ex H H h h':=
 ⟨fun b ob q _ _ _=>k b ob q,fun b ob q _ _ _=>⟨ob.slots,k b ob q⟩,fun _ _ _ n _=>n,fun b ob q _=>⟨ob,k b ob q⟩,fun _ _ q=>q,fun _ _ _ q=>q,fun _ ps q=>⟨#[],by rw [q]; simp⟩⟩
theorem Un.refl:Un fs ex H H h h:=Un.kept fun _ _ q=>q
theorem Un.laid (k:∀ b u,h.get? b = some u→h'.get? b = some u) (hp:h.objs.size≤a) (hn:H a = none):Un fs ex H (upd H a o) h h' where
 keep:=fun b u q _ _ _=>k b u q
 slot:=fun b u q _ _ _=>⟨u.slots,k b u q⟩
 free:=fun b u q n _=>by rw [ak (Nat.ne_of_lt (Nat.lt_of_lt_of_le (Heap.lt_size q) hp))]; exact n
 there:=fun b u q _=>⟨u,k b u q⟩
 lU:=fun b xs q=>by rw [ak (aF q hn)]; exact q
 kG:=fun b u xs q=>by rw [ak (aF q hn)]; exact q
 lV:=fun b ps q=>⟨#[],by rw [ak (aF q hn),q]; simp⟩
theorem Un.write (mu:DB (H x)) (he:e = x∨H e = some (.own x)) (k:∀ b u,b≠e→h.get? b = some u→h'.get? b = some u) (Bl:∃ u,h'.get? e = some u):Un fs ex H (upd H x o) h h':=by
 have hx:∀ b,H b = none→b≠x:=fun b n z=>by subst z; rw [n] at mu; exact mu
 have hb:∀ b,H b = none→b≠e:=fun b n z=>by
  subst z
  rcases he with r | r
  ·exact hx b n r
  ·rw [n] at r; cases r
 have hm:∀ b u,H b = some u→¬ DB (some u)→b≠x:=fun b u q nm z=>by subst z; rw [q] at mu; exact nm mu
 refine ⟨fun b u q n _ _=>k b u (hb b n) q,fun b u q n _ _=>⟨u.slots,k b u (hb b n) q⟩,fun b u q n _=>by rw [ak (hx b n)]; exact n,fun b u q _=>?_,
  fun b xs q=>by rw [ak (hm b _ q fun z=>z)]; exact q,fun b u xs q=>by rw [ak (hm b _ q fun z=>z)]; exact q,fun b ps q=>⟨#[],by rw [ak (hm b _ q fun z=>z),q]; simp⟩⟩
 by_cases As:b = e
 ·subst As; exact Bl
 ·exact ⟨u,k b u As q⟩
end
def DN (h:Heap) (H:Hp):List Addr:=(List.range h.objs.size).filter fun a=>(H a).isSome
def mU (h:Heap) (H:Hp):Heap:=PySem.W.hideAll h (DN h H)
theorem sU (h:Heap) (H:Hp):(mU h H).objs.size = h.objs.size:=PySem.W.hideAll_size _ _
theorem vp {h:Heap} {H:Hp} {b:Addr} {o:Obj} (e:h.get? b = some o) (n:H b = none):(mU h H).get? b = some o:=
 PySem.W.hideAll_get _ e fun hm=>by
  have q:(H b).isSome = true:=(List.mem_filter.mp hm).2
  rw [n] at q; simp at q
theorem wX {h:Heap} {H:Hp} {b:Addr} {o:Obj} (e:(mU h H).get? b = some o):h.get? b = some o∧H b = none:=by
 have e':h.get? b = some o:=PySem.W.of_hideAll (DN h H) e
 refine ⟨e',?_⟩
 cases q:H b with
 | none=>rfl
 | some x=>
  have hm:b∈DN h H:=List.mem_filter.mpr ⟨List.mem_range.mpr (Heap.lt_size e'),by simp [q]⟩
  have z:(mU h H).get? b = none:=PySem.W.hideAll_none (DN h H) hm
  rw [z] at e; cases e
def xN (g h:Heap) (L:Addr):List (Addr×Obj):=(List.range h.objs.size).filterMap fun a=>if a = L∨(g.get? a).isSome = true then none else (h.get? a).map fun o=>(a,o)
def rest (g h:Heap) (L d:Addr):List (Addr×Obj):=(xN g h L).filter fun p=>decide (p.1≠d)
end L2
namespace L2
open PySem PySem.Spec PyProof.Rows
structure Mod (K:PySem.W.Frag) (mg:Str→Option Value) (base:Heap):Prop where
 G3:K.In base
 glob:base.Ns mainGlobals mg
 blt:∃ mb,base.Ns builtinsNs mb∧∀ x:Str,x≠ "__name__"→mb x = bootBuiltins x
 nolimit:base.NoLimit
structure Cx where
 prog:Program
 w:World
 K:PySem.W.Frag
 mg:Str→Option Value
 base:Heap
 A:Around
 N:List Str
 s₀ : Shared
 H₀ : Hp
 env:Env
 outer:List Env
 stack:List Env
 ex:List Addr
 fn:Str→Bool
 calm:Bool
 pn:List (Addr×Obj)
 xe:Value→Shared→Prop
def oI (l:List Env):List Addr:=l.filterMap (·.frame)
abbrev Cx.fs (X:Cx):List Addr:=oI X.outer
def EV (sc:Scope) (x:Str):Prop:=sc.names.lookup x = some .local∨sc.names.lookup x = some .cell∨sc.names.lookup x = some .free
def Loc (sc:Scope) (x:Str):Prop:=sc.names.lookup x = some .local∨sc.names.lookup x = some .cell
def Look (env:Env) (h:Heap) (m:Str→Option Value) (x:Str) (u:Value):Prop:=
 (env.kindOf x = some .local∧m x = some u)∨((env.kindOf x = some .cell∨env.kindOf x = some .free)∧∃ c,env.cells.lookup x = some c∧h.IsCell c (some u))
structure Cx.Ok (X:Cx):Prop where
 mod:Mod X.K X.mg X.base
 kind:X.env.scope.kind = .function
 glob:X.env.globals = mainGlobals
 blt:X.env.builtins = builtinsNs
 above:X.s₀.heap.objs.size≤X.env.locals
 inj:∀ x y c,X.env.cells.lookup x = some c→X.env.cells.lookup y = some c→x = y
 has:∀ x,(X.env.kindOf x = some .cell∨X.env.kindOf x = some .free)→∃ c,X.env.cells.lookup x = some c
 Dw:∀ x c,X.fn x = true→X.env.cells.lookup x = some c→X.s₀.heap.objs.size≤c
 hd:X.calm = true→X.A.handled = none
 frames:X.A.frames = some X.stack
 BN:X.stack = X.outer∨(X.stack = X.env :: X.outer∧X.env.frame = some X.env.locals)
 Lh:∀ b∈X.ex,b≠X.env.locals∧∀ x c,X.env.cells.lookup x = some c→c≠b
 bs:∀ b o,X.base.get? b = some o→X.s₀.heap.get? b = some o∧X.H₀ b = none
 AQ:X.base.objs.size≤X.s₀.heap.objs.size
 uS:∀ b o,X.base.get? b = some o→b∉X.ex
 xB:∀ b∈X.ex,b∉X.fs
 jQ:X.s₀.heap.FunFrames X.base X.outer
 Bn:∀ b∈X.fs,X.H₀ b = none
structure Inv (X:Cx) (pins:List (Addr×Obj)) (σ : List (Option V)) (H:Hp) (s:Shared):Prop where
 ok:X.Ok
 os:s.os = X.s₀.os
 bare:AllBare s.gens
 base:Un X.fs X.ex X.H₀ H X.s₀.heap s.heap
 loc:∃ m,s.heap.Ns X.env.locals m∧∀ (i:Nat) (x:Str) (v:V),X.N[i]? = some x→σ[i]? = some (some v)→EV X.env.scope x→∃ u,RelV v u∧Look X.env s.heap m x u
 cell:∀ x c,X.env.cells.lookup x = some c→∃ v,s.heap.IsCell c v
 free:H X.env.locals = none
 eu:∀ x c,X.env.cells.lookup x = some c→H c = none
 pin:∀ p∈X.pn ++ pins,s.heap.get? p.1 = some p.2∧H p.1 = none∧p.1≠X.env.locals∧p.1∉X.fs∧∀ v,p.2.data≠.cell v
 bz:gc X.prog X.w H s.heap
 len : σ.length = X.N.length
section
variable {X:Cx} {pins:List (Addr×Obj)} {σ : List (Option V)} {H H':Hp} {s:Shared} {h':Heap}
theorem Cx.Ok.GQ (ok:X.Ok) {b:Addr} {o:Obj} (e:X.base.get? b = some o):b∉X.fs:=fun hb=>by
 have:=(ok.jQ.mem hb).1
 rw [e] at this; cases this
theorem Inv.bs (I:Inv X pins σ H s):∀ b o,X.base.get? b = some o→s.heap.get? b = some o∧H b = none:=fun b o e=>
 ⟨I.base.keep b o (I.ok.bs b o e).1 (I.ok.bs b o e).2 (I.ok.GQ e) (I.ok.uS b o e),I.base.free b o (I.ok.bs b o e).1 (I.ok.bs b o e).2 (I.ok.uS b o e)⟩
theorem Inv.bk (I:Inv X pins σ H s):∀ b o,X.base.get? b = some o→s.heap.get? b = some o:=fun b o e=>(I.bs b o e).1
theorem Inv.mod (I:Inv X pins σ H s):Mod X.K X.mg X.base:=I.ok.mod
theorem Inv.oz (I:Inv X pins σ H s):X.K.In s.heap:=I.ok.mod.G3.keeps I.bk
theorem Inv.lt (I:Inv X pins σ H s):X.env.locals < s.heap.objs.size:=let ⟨_,hn,_⟩:=I.loc; hn.lt
theorem Inv.sz (I:Inv X pins σ H s):X.s₀.heap.objs.size≤s.heap.objs.size:=Nat.le_trans I.ok.above (Nat.le_of_lt I.lt)
theorem Inv.GP (I:Inv X pins σ H s) {a:Addr} (h:s.heap.objs.size≤a):a∉X.fs:=fun hb=>by
 obtain ⟨_,o,ho,_⟩:=I.ok.jQ.mem hb
 exact absurd (Nat.lt_of_lt_of_le (Heap.lt_size ho) (Nat.le_trans I.sz h)) (Nat.lt_irrefl _)
theorem Inv.AK (I:Inv X pins σ H s):∀ x c,X.env.cells.lookup x = some c→c≠X.env.locals:=fun x c e z=>by
 obtain ⟨v,o,ho,hd⟩:=I.cell x c e
 obtain ⟨m,⟨o',es,ep,Am,rQ,_⟩,_⟩:=I.loc
 rw [z,Am] at ho; cases ho; rw [rQ] at hd; cases hd
theorem Inv.jQ (I:Inv X pins σ H s):s.heap.FunFrames X.base X.outer:=by
 have all:∀ (l:List Env),(∀ b∈oI l,b∈X.fs)→X.s₀.heap.FunFrames X.base l→s.heap.FunFrames X.base l:=by
  intro l
  induction l with
  | nil=>intro _ _; trivial
  | cons env r ih=>
   intro hs hl
   obtain ⟨hk,⟨L,o,hf,hn,ho,hd⟩,hr⟩:=hl
   have hL:L∈X.fs:=hs L (by unfold oI; rw [List.filterMap_cons,hf]; exact List.mem_cons_self)
   obtain ⟨sl,e⟩:=I.base.slot L o ho (I.ok.Bn L hL) hL fun z=>I.ok.xB L z hL
   exact ⟨hk,⟨L,_,hf,hn,e,hd⟩,ih (fun b hb=>hs b (by unfold oI; rw [List.filterMap_cons,hf]; exact List.mem_cons_of_mem _ hb)) hr⟩
 exact all X.outer (fun _ hb=>hb) I.ok.jQ
theorem Inv.stack (I:Inv X pins σ H s):s.heap.FunFrames X.base X.stack:=by
 rcases I.ok.BN with e | ⟨e,hf⟩
 ·rw [e]; exact I.jQ
 ·rw [e]
  obtain ⟨m,hn,_⟩:=I.loc
  refine .cons (by rw [I.ok.kind]; decide) hf hn ?_ I.jQ
  exact Heap.get?_none_of_le (Nat.le_trans I.ok.AQ I.ok.above)
theorem Inv.jh (I:Inv X pins σ H s):∀ b∈oI X.stack,b∈X.env.locals :: X.fs:=fun b hb=>by
 rcases I.ok.BN with e | ⟨e,hf⟩
 ·rw [e] at hb; exact List.mem_cons_of_mem _ hb
 ·rw [e] at hb
  unfold oI at hb
  rw [List.filterMap_cons,hf] at hb
  exact hb
theorem Inv.qB (I:Inv X pins σ H s):∀ b∈oI X.stack,H b = none:=fun b hb=>by
 rcases List.mem_cons.mp (I.jh b hb) with e | hb
 ·rw [e]; exact I.free
 ·obtain ⟨_,o,ho,_⟩:=I.ok.jQ.mem hb
  exact I.base.free b o ho (I.ok.Bn b hb) fun z=>I.ok.xB b z hb
theorem Inv.step {g':Array GenState} {t':Nat} {d':Drawn} {ch:List Addr} (I:Inv X pins σ H s)
  (vZ:∀ b∈ch,(b∈X.ex∨X.s₀.heap.objs.size≤b)∧b≠X.env.locals∧(∀ x c,X.env.cells.lookup x = some c→c≠b)∧∀ p∈X.pn ++ pins,p.1≠b)
  (keep:∀ b o,b≠X.env.locals→b∉X.fs→b∉ch→s.heap.get? b = some o→H b = none→h'.get? b = some o)
  (slot:∀ b o,b≠X.env.locals→b∈X.fs→b∉ch→s.heap.get? b = some o→H b = none→∃ sl,h'.get? b = some { o with slots:=sl }) (free:∀ b o,b∉ch→s.heap.get? b = some o→H b = none→H' b = none)
  (there:∀ b o,b∉ch→s.heap.get? b = some o→∃ o',h'.get? b = some o')
  (lU:∀ b xs,H b = some (.tup xs)→H' b = some (.tup xs)) (kG:∀ b o u,H b = some (.eF o u)→H' b = some (.eF o u)) (lV:∀ b ps,H b = some (.yZ ps)→∃ more,H' b = some (.yZ (ps ++ more)))
  (ns:∀ m,s.heap.Ns X.env.locals m→h'.Ns X.env.locals m) (bz:gc X.prog X.w H' h') (hg:AllBare g') :
  Inv X pins σ H' { s with heap:=h',gens:=g',drawn:=d',toks:=t' }:=by
 have Kj:∀ b o,X.s₀.heap.get? b = some o→b≠X.env.locals:=fun b o e=>Nat.ne_of_lt (Nat.lt_of_lt_of_le (Heap.lt_size e) I.ok.above)
 have Ej:∀ b o,X.s₀.heap.get? b = some o→b∉X.ex→b∉ch:=fun b o e hx hb=>by
  rcases (vZ b hb).1 with z | z
  ·exact hx z
  ·exact absurd (Nat.lt_of_lt_of_le (Heap.lt_size e) z) (Nat.lt_irrefl _)
 have cellK:∀ x c,X.env.cells.lookup x = some c→∀ v,s.heap.IsCell c v→h'.IsCell c v:=fun x c e v ⟨o,ho,hd⟩=>by
  have uZ:c∉ch:=fun z=>(vZ c z).2.2.1 x c e rfl
  by_cases hc:c∈X.fs
  ·obtain ⟨sl,q⟩:=slot c o (I.AK x c e) hc uZ ho (I.eu x c e)
   exact ⟨_,q,hd⟩
  ·exact ⟨o,keep c o (I.AK x c e) hc uZ ho (I.eu x c e),hd⟩
 refine ⟨I.ok,I.os,hg,⟨fun b o e n hb hx=>?_,fun b o e n hb hx=>?_,fun b o e n hx=>?_,fun b o e hx=>?_,fun b xs e=>lU b xs (I.base.lU b xs e),fun b o xs e=>kG b o xs (I.base.kG b o xs e),fun b ps e=>?_⟩,?_,fun x c e=>?_,?_,fun x c e=>?_,fun p hp=>?_,bz,I.len⟩
 ·exact keep b o (Kj b o e) hb (Ej b o e hx) (I.base.keep b o e n hb hx) (I.base.free b o e n hx)
 ·obtain ⟨sl,e1⟩:=I.base.slot b o e n hb hx
  obtain ⟨Mw,e2⟩:=slot b _ (Kj b o e) hb (Ej b o e hx) e1 (I.base.free b o e n hx)
  exact ⟨Mw,e2⟩
 ·obtain ⟨o',e1⟩:=I.base.there b o e hx
  exact free b o' (Ej b o e hx) e1 (I.base.free b o e n hx)
 ·obtain ⟨o',e1⟩:=I.base.there b o e hx
  exact there b o' (Ej b o e hx) e1
 ·obtain ⟨m1,e1⟩:=I.base.lV b ps e
  obtain ⟨m2,e2⟩:=lV b _ e1
  exact ⟨m1 ++ m2,by rw [e2,Array.append_assoc]⟩
 ·obtain ⟨m,hn,hl⟩:=I.loc
  refine ⟨m,ns m hn,fun i x v e1 e2 e3=>?_⟩
  obtain ⟨u,r,l⟩:=hl i x v e1 e2 e3
  refine ⟨u,r,?_⟩
  rcases l with l | ⟨k,c,e,z⟩
  ·exact .inl l
  ·exact .inr ⟨k,c,e,cellK x c e _ z⟩
 ·obtain ⟨v,z⟩:=I.cell x c e
  exact ⟨v,cellK x c e v z⟩
 ·obtain ⟨m,⟨o,_,_,ho,_⟩,_⟩:=I.loc
  exact free _ o (fun z=>(vZ _ z).2.1 rfl) ho I.free
 ·obtain ⟨v,o,ho,hd⟩:=I.cell x c e
  exact free c o (fun z=>(vZ c z).2.2.1 x c e rfl) ho (I.eu x c e)
 ·obtain ⟨e,n,ne,nf,d⟩:=I.pin p hp
  have uZ:p.1∉ch:=fun z=>(vZ p.1 z).2.2.2 p hp rfl
  exact ⟨keep p.1 p.2 ne nf uZ e n,free p.1 p.2 uZ e n,ne,nf,d⟩
theorem Inv.un {t':Nat} (I:Inv X pins σ H s) (u:Un X.fs [] H H' s.heap h') (bz:gc X.prog X.w H' h'):Inv X pins σ H' { s with heap:=h',toks:=t' }:=by
 obtain ⟨m,⟨o,es,ep,ho,r⟩,_⟩:=id I.loc
 obtain ⟨sl,hL⟩:=u.any ho I.free (by simp)
 exact I.step (g':=s.gens) (d':=s.drawn) (ch:=[]) (fun _ z=>nomatch z) (fun b o _ hb _ e n=>u.keep b o e n hb (by simp)) (fun b o _ hb _ e n=>u.slot b o e n hb (by simp)) (fun b o _ e n=>u.free b o e n (by simp)) (fun b o _ e=>u.there b o e (by simp)) u.lU u.kG u.lV (fun m' hm=>by
  obtain ⟨o',sZ,Ip,Am,r'⟩:=hm
  rw [ho] at Am; cases Am
  exact ⟨_,sZ,Ip,hL,r'⟩) bz I.bare
theorem Inv.call {g':Array GenState} {t':Nat} {d':Drawn} {ch:List Addr} (I:Inv X pins σ H s) (u:Un (oI X.stack) ch H H' s.heap h') (bz:gc X.prog X.w H' h') (hg:AllBare g')
  (vZ:∀ b∈ch,(b∈X.ex∨X.s₀.heap.objs.size≤b)∧b≠X.env.locals∧(∀ x c,X.env.cells.lookup x = some c→c≠b)∧∀ p∈X.pn ++ pins,p.1≠b) :
  Inv X pins σ H' { s with heap:=h',gens:=g',drawn:=d',toks:=t' }:=by
 obtain ⟨m,⟨o,es,ep,ho,r⟩,_⟩:=id I.loc
 obtain ⟨sl,hL⟩:=u.any ho I.free fun z=>(vZ _ z).2.1 rfl
 exact I.step (ch:=ch) vZ (fun b o hL hb hc e n=>u.keep b o e n (fun z=>(List.mem_cons.mp (I.jh b z)).elim hL hb) hc) (fun b o _ _ hc e n=>u.any e n hc) (fun b o hc e n=>u.free b o e n hc) (fun b o hc e=>u.there b o e hc) u.lU u.kG u.lV (fun m' hm=>by
  obtain ⟨o',sZ,Ip,Am,r'⟩:=hm
  rw [ho] at Am; cases Am
  exact ⟨_,sZ,Ip,hL,r'⟩) bz hg
theorem Inv.turned {t':Nat} {it:Addr} (I:Inv X pins σ H s) (k:∀ b o,b≠it→s.heap.get? b = some o→h'.get? b = some o) (hn:H it = none) (hL:it≠X.env.locals)
  (h1:it∈X.ex∨X.s₀.heap.objs.size≤it) (h2:∀ x c,X.env.cells.lookup x = some c→c≠it) (h3:∀ p∈X.pn ++ pins,p.1≠it):Inv X pins σ H { s with heap:=h',toks:=t' }:=by
 have Kh:∀ b u,H b = some u→b≠it:=fun b u e z=>by rw [z,hn] at e; cases e
 refine I.step (g':=s.gens) (d':=s.drawn) (ch:=[it]) (fun b hb=>?_) (fun b o _ _ hc e _=>k b o (fun z=>hc (by simp [z])) e) (fun b o _ _ hc e _=>⟨o.slots,k b o (fun z=>hc (by simp [z])) e⟩) (fun _ _ _ _ n=>n)
  (fun b o hc e=>⟨o,k b o (fun z=>hc (by simp [z])) e⟩) (fun _ _ e=>e) (fun _ _ _ e=>e) (fun b ps e=>⟨#[],by rw [e]; simp⟩) (fun m hm=>?_) (fun b u e=>?_) I.bare
 ·have e:b = it:=by simpa using hb
  subst e
  exact ⟨h1,hL,h2,h3⟩
 ·obtain ⟨o,es,ep,ho,r⟩:=hm
  exact ⟨o,es,ep,k _ o (Ne.symm hL) ho,r⟩
 ·refine (I.bz b u e).lX (fun c v hc q=>k c v ?_ q) (fun _ q=>q) fun _ _ q=>q
  rcases hc with z | z
  ·rw [z]; exact Kh b u e
  ·exact Kh c _ z
theorem Inv.tok (I:Inv X pins σ H s) (t:Nat):Inv X pins σ H { s with toks:=t }:=I.un (h':=s.heap) (t':=t) Un.refl I.bz
theorem Inv.kept {t':Nat} (I:Inv X pins σ H s) (k:∀ b u,s.heap.get? b = some u→h'.get? b = some u):Inv X pins σ H { s with heap:=h',toks:=t' }:=I.un (Un.kept k) (I.bz.kept k)
theorem Inv.laid {a:Addr} {o:HO} {t':Nat} (I:Inv X pins σ H s) (k:∀ b u,s.heap.get? b = some u→h'.get? b = some u) (hp:s.heap.objs.size≤a) (new:bh X.prog X.w (upd H a o) h' a o) :
  Inv X pins σ (upd H a o) { s with heap:=h',toks:=t' }:=I.un (Un.laid k hp (I.bz.fresh hp)) (I.bz.laid k hp new)
theorem Inv.write {x e:Addr} {o:HO} {t':Nat} (I:Inv X pins σ H s) (mu:DB (H x)) (he:e = x∨H e = some (.own x)) (k:∀ b u,b≠e→s.heap.get? b = some u→h'.get? b = some u) (Bl:∃ u,h'.get? e = some u)
  (new:bh X.prog X.w (upd H x o) h' x o):Inv X pins σ (upd H x o) { s with heap:=h',toks:=t' }:=I.un (Un.write mu he k Bl) (I.bz.write mu he k Bl new)
theorem Inv.rh {yv:List (Addr×Obj)} (I:Inv X pins σ H s) (h:∀ p∈yv,s.heap.get? p.1 = some p.2∧H p.1 = none∧p.1≠X.env.locals∧p.1∉X.fs∧∀ v,p.2.data≠.cell v):Inv X yv σ H s:=
 ⟨I.ok,I.os,I.bare,I.base,I.loc,I.cell,I.free,I.eu,fun p hp=>(List.mem_append.mp hp).elim (fun z=>I.pin p (List.mem_append_left _ z)) (h p),I.bz,I.len⟩
theorem og {N:List Str} (hN:N.Nodup) {i j:Nat} {x:Str} (a:N[i]? = some x) (b:N[j]? = some x):i = j:=by
 obtain ⟨h1,e1⟩:=List.getElem?_eq_some_iff.mp a
 obtain ⟨h2,e2⟩:=List.getElem?_eq_some_iff.mp b
 exact (List.getElem_inj hN).mp (e1.trans e2.symm)
theorem kM {M:Model} {A:Around} {E:Value→Shared→Prop} {i:Nat} {x:Str} {v:V} {u:Value} {Q:Unit→Shared→Prop} (I:Inv X pins σ H s) (hN:X.N.Nodup) (hi:X.N[i]? = some x) (hx:Loc X.env.scope x) (r:RelV v u)
  (h:∀ s',Inv X pins (σ.set i (some v)) H s'→(∃ a,Heap.SameBut a s.heap s'.heap∧(a = X.env.locals∨X.env.cells.lookup x = some a))→Q () s') (hf:X.fn x = true∨X.env.scope.names.lookup x = some .local:=by first | exact .inl rfl | exact .inr rfl | assumption):wpAny M A (storeName X.env x u) Q E s:=by
 obtain ⟨m,hn,hl⟩:=id I.loc
 have HZ:(X.env.scope.kind == .class || (X.env.scope.kind == .module && X.env.locals != X.env.globals)) = false:=by rw [I.ok.kind]; rfl
 have hiσ : i < σ.length:=by rw [I.len]; exact (List.getElem?_eq_some_iff.mp hi).1
 have AK:=I.AK
 have tracked:∀ {a:Addr} {h':Heap},(∃ o,s.heap.get? a = some o∧H a = none)→Heap.SameBut a s.heap h'→gc X.prog X.w H h':=fun {a h'} ha hs b ob e=>by
  obtain ⟨_,_,rP⟩:=ha
  refine (I.bz b ob e).lX (fun c w' hc q=>(hs.2 c ?_).trans q) (fun _ q=>q) fun _ _ q=>q
  rintro rfl
  rcases hc with rfl | hc
  ·rw [rP] at e; cases e
  ·rw [rP] at hc; cases hc
 rcases hx with hk | hk
 ·refine wpAny_storeName_local hk hn (fun h' Es hs=>?_) HZ
  obtain ⟨oL,_,_,OJ,_⟩:=id hn
  refine h _ ⟨I.ok,I.os,I.bare,⟨fun b o e n hb hx=>?_,fun b o e n hb hx=>?_,I.base.free,fun b o e hx=>?_,I.base.lU,I.base.kG,I.base.lV⟩,⟨_,Es,fun j y v' e1 e2 e3=>?_⟩,fun y c e=>?_,I.free,I.eu,fun p hp=>?_,tracked ⟨oL,OJ,I.free⟩ hs,by simpa using I.len⟩ ⟨_,hs,.inl rfl⟩
  ·exact (hs.2 b (Nat.ne_of_lt (Nat.lt_of_lt_of_le (Heap.lt_size e) I.ok.above))).trans (I.base.keep b o e n hb hx)
  ·obtain ⟨sl,e1⟩:=I.base.slot b o e n hb hx
   exact ⟨sl,(hs.2 b (Nat.ne_of_lt (Nat.lt_of_lt_of_le (Heap.lt_size e) I.ok.above))).trans e1⟩
  ·obtain ⟨o',e1⟩:=I.base.there b o e hx
   exact ⟨o',(hs.2 b (Nat.ne_of_lt (Nat.lt_of_lt_of_le (Heap.lt_size e) I.ok.above))).trans e1⟩
  ·by_cases hj:j = i
   ·subst hj
    rw [hi] at e1; cases e1
    rw [List.getElem?_set_self hiσ] at e2
    cases e2
    exact ⟨u,r,.inl ⟨hk,by simp⟩⟩
   ·rw [List.getElem?_set_ne (Ne.symm hj)] at e2
    obtain ⟨u',r',q⟩:=hl j y v' e1 e2 e3
    refine ⟨u',r',?_⟩
    rcases q with ⟨k,e⟩ | ⟨k,c,e,z⟩
    ·refine .inl ⟨k,?_⟩
     have:y≠x:=fun e=>hj (og hN e1 (e▸hi))
     simp [this,e]
    ·exact .inr ⟨k,c,e,z.sameBut hs (AK y c e)⟩
  ·obtain ⟨w',z⟩:=I.cell y c e
   exact ⟨w',z.sameBut hs (AK y c e)⟩
  ·obtain ⟨e,n,ne,nf,d⟩:=I.pin p hp
   exact ⟨(hs.2 p.1 ne).trans e,n,ne,nf,d⟩
 ·have HS:X.fn x = true:=by
   rcases hf with z | z
   ·exact z
   ·rw [z] at hk; cases hk
  obtain ⟨c,hc⟩:=I.ok.has x (.inl hk)
  obtain ⟨w',z⟩:=I.cell x c hc
  refine wpAny_storeName_cell I.ok.kind hk hc z (fun h' EA hs=>?_)
  obtain ⟨oc,KL,HE⟩:=id z
  refine h { s with heap:=h' } ⟨I.ok,I.os,I.bare,⟨fun b o e n hb hx=>?_,fun b o e n hb hx=>?_,I.base.free,fun b o e hx=>?_,I.base.lU,I.base.kG,I.base.lV⟩,⟨m,hn.sameBut hs (Ne.symm (AK x c hc)),fun j y v' e1 e2 e3=>?_⟩,fun y c' e=>?_,I.free,I.eu,fun p hp=>?_,tracked ⟨oc,KL,I.eu x c hc⟩ hs,by simpa using I.len⟩ ⟨c,hs,.inr hc⟩
  ·exact (hs.2 b (Nat.ne_of_lt (Nat.lt_of_lt_of_le (Heap.lt_size e) (I.ok.Dw x c HS hc)))).trans (I.base.keep b o e n hb hx)
  ·obtain ⟨sl,e1⟩:=I.base.slot b o e n hb hx
   exact ⟨sl,(hs.2 b (Nat.ne_of_lt (Nat.lt_of_lt_of_le (Heap.lt_size e) (I.ok.Dw x c HS hc)))).trans e1⟩
  ·obtain ⟨o',e1⟩:=I.base.there b o e hx
   exact ⟨o',(hs.2 b (Nat.ne_of_lt (Nat.lt_of_lt_of_le (Heap.lt_size e) (I.ok.Dw x c HS hc)))).trans e1⟩
  ·by_cases hj:j = i
   ·subst hj
    rw [hi] at e1; cases e1
    rw [List.getElem?_set_self hiσ] at e2
    cases e2
    exact ⟨u,r,.inr ⟨.inl hk,c,hc,EA⟩⟩
   ·rw [List.getElem?_set_ne (Ne.symm hj)] at e2
    obtain ⟨u',r',q⟩:=hl j y v' e1 e2 e3
    refine ⟨u',r',?_⟩
    rcases q with q | ⟨k,c',e,z'⟩
    ·exact .inl q
    ·refine .inr ⟨k,c',e,z'.sameBut hs ?_⟩
     rintro rfl
     exact hj (og hN e1 (I.ok.inj _ _ _ e hc▸hi))
  ·by_cases K5:c' = c
   ·subst K5; exact ⟨_,EA⟩
   ·obtain ⟨w2,z2⟩:=I.cell y c' e
    exact ⟨w2,z2.sameBut hs K5⟩
  ·obtain ⟨e,n,ne,nf,d⟩:=I.pin p hp
   refine ⟨(hs.2 p.1 ?_).trans e,n,ne,nf,d⟩
   intro q
   rw [q,KL] at e
   have q':oc = p.2:=Option.some.inj e
   exact d w' (by rw [← q']; exact HE)
theorem gM {M:Model} {A:Around} {E:Value→Shared→Prop} {i:Nat} {x:Str} {v:V} {u:Value} {Q:Unit→Shared→Prop} (I:Inv X pins σ H s) (hN:X.N.Nodup) (hi:X.N[i]? = some x) (hx:Loc X.env.scope x) (r:RelV v u)
  (h:∀ s',Inv X pins (σ.set i (some v)) H s'→Q () s') (hf:X.fn x = true∨X.env.scope.names.lookup x = some .local:=by first | exact .inl rfl | exact .inr rfl | assumption):wpAny M A (storeName X.env x u) Q E s:=
 kM I hN hi hx r (fun s' I' _=>h s' I') hf
theorem Inv.Dv {s':Shared} {ch:List Addr} (I:Inv X pins σ H s) (ho:s'.os = s.os) (u:Un (oI X.stack) ch H H' s.heap s'.heap) (bz:gc X.prog X.w H' s'.heap) (hg:AllBare s'.gens)
  (vZ:∀ b∈ch,(b∈X.ex∨X.s₀.heap.objs.size≤b)∧b≠X.env.locals∧(∀ x c,X.env.cells.lookup x = some c→c≠b)∧∀ p∈X.pn ++ pins,p.1≠b):Inv X pins σ H' s':=by
 obtain ⟨h',g',d',t',o'⟩:=s'
 have e:o' = s.os:=ho
 subst e
 exact I.call (g':=g') (t':=t') (d':=d') u bz hg vZ
end
abbrev XK:=Value→Option Addr→Hp→Prop
abbrev St:=List (Option V)
abbrev VK:=V→Hp→Prop
abbrev TE:=St→Hp→VK→Prop
abbrev TT:=St→Hp→(Bool→Hp→Prop)→Prop
abbrev TA:=St→Hp→(List V→Hp→Prop)→Prop
structure Ends where
 nx:St→Hp→Prop
 rt:VK
 bk:St→Hp→Prop:=fun _ _=>False
 ct:St→Hp→Prop:=fun _ _=>False
abbrev TS:=Ends→St→Hp→Prop
def EP (X:Cx) (pins:List (Addr×Obj)) (σ : St) (Q:VK) (u:Value) (s':Shared):Prop:=∃ v H',Inv X pins σ H' s'∧RelV v u∧Q v H'
def TP (X:Cx) (pins:List (Addr×Obj)) (σ : St) (Q:Bool→Hp→Prop) (b:Bool) (s':Shared):Prop:=∃ H',Inv X pins σ H' s'∧Q b H'
def AP (X:Cx) (pins:List (Addr×Obj)) (σ : St) (Q:List V→Hp→Prop) (us:List Value) (s':Shared):Prop:=∃ vs H',Inv X pins σ H' s'∧Vals vs us∧Q vs H'
def SP (X:Cx) (pins:List (Addr×Obj)) (D:Ends) (f:Flow) (s':Shared):Prop:=
 match f with
 | .next=>∃ σ' H',Inv X pins σ' H' s'∧D.nx σ' H'
 | .brk=>∃ σ' H',Inv X pins σ' H' s'∧D.bk σ' H'
 | .cont=>∃ σ' H',Inv X pins σ' H' s'∧D.ct σ' H'
 | .ret u=>∃ v σ' H',Inv X pins σ' H' s'∧RelV v u∧D.rt v H'
def PE (X:Cx) (e:Expr) (t:TE):Prop:=
 ∀ (pins:List (Addr×Obj)) (s:Shared) (σ : St) (H:Hp) (Q:VK),Inv X pins σ H s→t σ H Q→wpAny (model X.prog X.w) X.A (eval e X.env) (EP X pins σ Q) X.xe s
def PT (X:Cx) (e:Expr) (t:TT):Prop:=
 ∀ (pins:List (Addr×Obj)) (s:Shared) (σ : St) (H:Hp) (Q:Bool→Hp→Prop),Inv X pins σ H s→t σ H Q→wpAny (model X.prog X.w) X.A (isTrue e X.env (eval e X.env)) (TP X pins σ Q) X.xe s
def PW (X:Cx) (e:Expr) (t:TT):Prop:=
 ∀ (whole:Sem Value) (pins:List (Addr×Obj)) (s:Shared) (σ : St) (H:Hp) (Q:Bool→Hp→Prop),Inv X pins σ H s→t σ H Q→wpAny (model X.prog X.w) X.A (isTrue e X.env whole) (TP X pins σ Q) X.xe s
theorem PW.pt {X:Cx} {e:Expr} {t:TT} (h:PW X e t):PT X e t:=h _
def PA (X:Cx) (es:List Expr) (t:TA):Prop:=
 ∀ (pos:Pos) (pins:List (Addr×Obj)) (s:Shared) (σ : St) (H:Hp) (Q:List V→Hp→Prop),Inv X pins σ H s→t σ H Q→wpAny (model X.prog X.w) X.A (spliced (backTo pos (starEach es X.env))) (AP X pins σ Q) X.xe s
def PS (X:Cx) (st:Stmt) (t:TS):Prop:=
 ∀ (pins:List (Addr×Obj)) (s:Shared) (σ : St) (H:Hp) (D:Ends),Inv X pins σ H s→t D σ H→wpAny (model X.prog X.w) X.A (exec st X.env) (SP X pins D) X.xe s
def sf (X:Cx) (st:List Stmt) (t:TS):Prop:=
 ∀ (pins:List (Addr×Obj)) (s:Shared) (σ : St) (H:Hp) (D:Ends),Inv X pins σ H s→t D σ H→wpAny (model X.prog X.w) X.A (execs st X.env) (SP X pins D) X.xe s
theorem b5 {α : Type} {t:Sem α} {Q Q' : α→Shared→Prop} {M:Model} {A:Around} {E:Value→Shared→Prop} {s:Shared} (h:wpAny M A t Q E s) (hQ:∀ a s,Q a s→Q' a s):wpAny M A t Q' E s:=wpAny_mono h hQ fun _ _ x=>x
end L2
namespace L2
open PySem PySem.Spec PyProof.Rows
section
variable {X:Cx}
theorem bin {a b:Expr} {ta tb:TE} (ha:PE X a ta) (hb:PE X b tb) {pins:List (Addr×Obj)} {s:Shared} {σ : St} {H:Hp} {R:V→V→Hp→Prop} (I:Inv X pins σ H s) (h:ta σ H fun x H1=>tb σ H1 fun y H2=>R x y H2)
  {α : Type} {Q : α→Shared→Prop} {f:Value→Value→Sem α}
  (hf:∀ v u s2 x y H2,Inv X pins σ H2 s2→RelV x v→RelV y u→R x y H2→wpAny (model X.prog X.w) X.A (f v u) Q X.xe s2) :
  wpAny (model X.prog X.w) X.A (eval a X.env) (fun v s₁=>wpAny (model X.prog X.w) X.A (eval b X.env) (fun u s₂=>wpAny (model X.prog X.w) X.A (f v u) Q X.xe s₂) X.xe s₁) X.xe s:=by
 refine b5 (ha pins s σ H _ I h) fun v s1 ⟨x,H1,I1,r1,q1⟩=>?_
 refine b5 (hb pins s1 σ H1 _ I1 q1) fun u s2 ⟨y,H2,I2,r2,q2⟩=>?_
 exact hf v u s2 x y H2 I2 r1 r2 q2
def jg (i:Nat):TE:=fun σ H Q=>∃ v,σ[i]? = some (some v)∧Q v H
def tC (v:V):TE:=fun _ H Q=>Q v H
theorem zE {i:Nat} {x:Str} {pos:Pos} (hN:X.N[i]? = some x) (hv:EV X.env.scope x) (hd:(x == ("__debug__" : Str)) = false:=by decide) (sV:(x == ("__classdict__" : Str)) = false:=by decide):PE X (.Name x pos) (jg i):=by
 intro pins s σ H Q I h
 obtain ⟨v,e,h⟩:=h
 obtain ⟨m,hn,hl⟩:=I.loc
 obtain ⟨u,r,l⟩:=hl i x v hN e hv
 have fin:EP X pins σ Q u s:=⟨v,H,I,r,h⟩
 rcases l with ⟨hk,hm⟩ | ⟨hk,c,hc,yG⟩
 ·exact wpAny_Name (wpAny_loadName_local I.ok.kind hk hn hm fin) hd
 ·rcases hk with hk | hk
  ·exact wpAny_Name (wpAny_loadName_cell I.ok.kind hk hc yG fin) hd
  ·exact wpAny_Name (wpAny_loadName_free I.ok.kind hk hc yG fin sV) hd
theorem ao {i j pos}:PE X (.Constant (.int i) j pos) (tC (.int i)):=fun _ _ _ H _ I h=>wpAny_Constant_int ⟨.int i,H,I.tok _,⟨_,rfl⟩,h⟩
theorem cZ {b j pos}:PE X (.Constant (.bool b) j pos) (tC (.bl b)):=fun _ _ _ H _ I h=>Constant_bool ⟨.bl b,H,I,rfl,h⟩
theorem zG {j pos}:PE X (.Constant .none j pos) (tC .bY):=fun _ _ _ H _ I h=>Constant_none ⟨.bY,H,I,rfl,h⟩
theorem mF {x j pos}:PE X (.Constant (.str x) j pos) (tC (.str x)):=fun _ _ _ H _ I h=>Calls.Constant_str ⟨.str x,H,I.tok _,⟨_,rfl⟩,h⟩
def Gl (X:Cx) (x:Str):Prop:=X.env.kindOf x = some .globalImplicit
theorem rB {E:Value→Shared→Prop} {pins:List (Addr×Obj)} {s:Shared} {σ : St} {H:Hp} {x:Str} {u:Value} {pos:Pos} {Q:Value→Shared→Prop} (I:Inv X pins σ H s) (hg:Gl X x) (hm:X.mg x = some u) (h:Q u s)
  (hd:(x == ("__debug__" : Str)) = false:=by decide):wpAny (model X.prog X.w) X.A (eval (.Name x pos) X.env) Q E s:=
 Calls.Name_function_global I.ok.kind hg (Calls.loadGlobal_global (by rw [I.ok.glob]; exact I.mod.glob.keeps I.bk) hm h) hd
theorem fJ {E:Value→Shared→Prop} {pins:List (Addr×Obj)} {s:Shared} {σ : St} {H:Hp} {x:Str} {u:Value} {pos:Pos} {Q:Value→Shared→Prop} (I:Inv X pins σ H s) (hg:Gl X x) (hm:X.mg x = none) (hv:bootBuiltins x = some u) (h:Q u s)
  (hn:x≠ "__name__":=by decide) (hd:(x == ("__debug__" : Str)) = false:=by decide):wpAny (model X.prog X.w) X.A (eval (.Name x pos) X.env) Q E s:=by
 obtain ⟨mb,h1,h2⟩:=I.mod.blt
 exact Calls.Name_function_global I.ok.kind hg (Calls.loadGlobal_builtin (by rw [I.ok.glob]; exact I.mod.glob.keeps I.bk) hm (by rw [I.ok.blt]; exact h1.keeps I.bk) ((h2 x hn).trans hv) h) hd
theorem wO {x:Str} {v:V} {u:Value} {pos:Pos} (hg:Gl X x) (hm:X.mg x = some u) (r:RelV v u) (hd:(x == ("__debug__" : Str)) = false:=by decide):PE X (.Name x pos) (tC v):=
 fun _ _ _ H _ I h=>rB I hg hm ⟨v,H,I,r,h⟩ hd
theorem eR {x:Str} {v:V} {u:Value} {pos:Pos} (hg:Gl X x) (hm:X.mg x = none) (hv:bootBuiltins x = some u) (r:RelV v u) (hn:x≠ "__name__":=by decide) (hd:(x == ("__debug__" : Str)) = false:=by decide):PE X (.Name x pos) (tC v):=
 fun _ _ _ H _ I h=>fJ I hg hm hv ⟨v,H,I,r,h⟩ hn hd
def DQ (ta tb:TE) (k:Int→Int→Hp→Prop):St→Hp→Prop:=fun σ H=>ta σ H fun x H1=>tb σ H1 fun y H2=>∃ i j,x = .int i∧y = .int j∧k i j H2
def Mg (ta tb:TE):TE:=fun σ H Q=>DQ ta tb (fun i j H2=>Q (.int (i + j)) H2) σ H
def L1 (ta tb:TE):TE:=fun σ H Q=>DQ ta tb (fun i j H2=>Q (.int (i - j)) H2) σ H
def L8 (ta tb:TE):TE:=fun σ H Q=>DQ ta tb (fun i j H2=>(-(2 ^ 64) < i∧i < 2 ^ 64)∧Q (.int (i * j)) H2) σ H
variable {a b:Expr} {ta tb:TE} {pos:Pos}
def PC (X:Cx) (op:CmpOp) (a b:Expr) (t:TE):Prop:=
 ∀ (pins:List (Addr×Obj)) (s:Shared) (σ : St) (H:Hp) (Q:VK),Inv X pins σ H s→t σ H Q→
  wpAny (model X.prog X.w) X.A (eval a X.env) (fun v s₁=>wpAny (model X.prog X.w) X.A (eval b X.env) (fun u s₂=>wpAny (model X.prog X.w) X.A (compareOp op v u) (EP X pins σ Q) X.xe s₂) X.xe s₁) X.xe s
theorem uU (b:Expr) {op:CmpOp} (h:op≠.In) (h2:op≠.NotIn):behindInMarks op b = false:=by
 have e1:(op == CmpOp.In) = false:=by cases op <;> first | rfl | exact absurd rfl h
 have e2:(op == CmpOp.NotIn) = false:=by cases op <;> first | rfl | exact absurd rfl h2
 cases b <;> simp [behindInMarks,e1,e2]
def sv (p:Int→Int→Bool) (ta tb:TE):TE:=fun σ H Q=>DQ ta tb (fun i j H2=>Q (.bl (p i j)) H2) σ H
abbrev Rb:TE→TE→TE:=sv fun i j=>decide (i < j)
abbrev Rc:TE→TE→TE:=sv fun i j=>decide (i≤j)
abbrev Rg:TE→TE→TE:=sv fun i j=>decide (j < i)
abbrev Rh:TE→TE→TE:=sv fun i j=>decide (j≤i)
abbrev Mc:TE→TE→TE:=sv fun i j=>decide (i = j)
abbrev L6:TE→TE→TE:=sv fun i j=>!decide (i = j)
def L9 (ta:TE):TE:=fun σ H Q=>ta σ H fun x H1=>Q (.bl (decide (x = .bY))) H1
def x9 (ta:TE):TE:=fun σ H Q=>ta σ H fun x H1=>Q (.bl (!decide (x = .bY))) H1
theorem RelV.uR {x:V} {v:Value} (r:RelV x v):(v == Value.none) = decide (x = .bY):=by
 cases x with
 | bY=>cases r; rfl
 | bl _=>cases r; rfl
 | int _=>obtain ⟨t,rfl⟩:=r; rfl
 | str _=>obtain ⟨t,rfl⟩:=r; rfl
 | qi _=>obtain ⟨t,rfl⟩:=r; rfl
 | vw _=>obtain ⟨t,rfl⟩:=r; rfl
 | ref _=>cases r; rfl
 | ty _=>cases r; rfl
theorem wR {j pos'} (ha:PE X a ta):PC X .IsNot a (.Constant .none j pos') (x9 ta):=by
 intro pins s σ H Q I h
 refine b5 (ha pins s σ H _ I h) fun v s1 ⟨x,H1,I1,r1,q1⟩=>?_
 exact Constant_none (isnot_none_gen ⟨.bl _,H1,I1,by rw [r1.uR]; rfl,q1⟩)
def tB (t:TE):TT:=fun σ H Q=>t σ H fun x H1=>∃ c,x = .bl c∧Q c H1
theorem fv {op:CmpOp} {t:TE} (h:PC X op a b t) (h1:behindInMarks op b = false:=by first | exact uU _ (by decide) (by decide) | rfl):PT X (.Compare a [op] [b] pos) (tB t):=by
 intro pins s σ H Q I hw
 refine wpAny_isTrue_Compare1 (b5 (h pins s σ H _ I hw) fun v s1 h1=>b5 h1 fun u s2 h2=>b5 h2 fun c s3 ⟨x,H1,I1,r1,q1⟩=>?_) h1
 obtain ⟨d,rfl,q⟩:=q1
 cases r1
 exact wpAny_truthy_bool ⟨H1,I1,q⟩
theorem eO {e:Expr} {t:TE} (h:PE X e t) (he:∀ whole,isTrue e X.env whole = (do let v ← whole; standAt e.pos; holding [v] (truthy v)):=by intro _; rfl):PT X e (tB t):=by
 intro pins s σ H Q I hw
 refine isTrue_plain (b5 (h pins s σ H _ I hw) fun v s1 ⟨x,H1,I1,r1,q1⟩=>?_) (he _)
 obtain ⟨d,rfl,q⟩:=q1
 cases r1
 exact wpAny_truthy_bool ⟨H1,I1,q⟩
variable {tA DP:TT} {rest:List Expr}
def BM (t u:TT):TT:=fun σ H Q=>t σ H fun c H1=>if c = true then u σ H1 Q else Q false H1
def JN (t u:TT):TT:=fun σ H Q=>t σ H fun c H1=>if c = true then Q true H1 else u σ H1 Q
def BE (t:TT):TT:=fun σ H Q=>t σ H fun c H1=>Q (!c) H1
theorem pw_and1 (ha:PT X a tA):PW X (.BoolOp .And [a] pos) tA:=by
 intro wh pins s σ H Q I h
 refine isTrue_and (b5 (ha pins s σ H Q I h) fun c s1 e=>?_)
 cases c with
 | true=>exact isTrue_and_nil e
 | false=>exact e
theorem pw_or1 (ha:PT X a tA):PW X (.BoolOp .Or [a] pos) tA:=by
 intro wh pins s σ H Q I h
 refine isTrue_or (b5 (ha pins s σ H Q I h) fun c s1 e=>?_)
 cases c with
 | false=>exact isTrue_or_nil e
 | true=>exact e
theorem pw_and (ha:PT X a tA) (hb:PW X (.BoolOp .And (b :: rest) pos) DP):PW X (.BoolOp .And (a :: b :: rest) pos) (BM tA DP):=by
 intro wh pins s σ H Q I h
 refine isTrue_and (b5 (ha pins s σ H _ I h) fun c s1 ⟨H1,I1,q1⟩=>?_)
 cases c with
 | true=>exact hb wh pins s1 σ H1 Q I1 q1
 | false=>exact ⟨H1,I1,q1⟩
theorem pw_or (ha:PT X a tA) (hb:PW X (.BoolOp .Or (b :: rest) pos) DP):PW X (.BoolOp .Or (a :: b :: rest) pos) (JN tA DP):=by
 intro wh pins s σ H Q I h
 refine isTrue_or (b5 (ha pins s σ H _ I h) fun c s1 ⟨H1,I1,q1⟩=>?_)
 cases c with
 | true=>exact ⟨H1,I1,q1⟩
 | false=>exact hb wh pins s1 σ H1 Q I1 q1
theorem eP (ha:PT X a tA):PT X (.UnaryOp .Not a pos) (BE tA):=by
 intro pins s σ H Q I h
 exact isTrue_not (ha pins s σ H (fun c H1=>Q (!c) H1) I h)
def yd (ta tb:TE):TE:=fun σ H Q=>ta σ H fun x H1=>∃ c,x = .bl c∧if c = true then tb σ H1 Q else Q (.bl false) H1
def L5 (ta tb:TE):TE:=fun σ H Q=>ta σ H fun x H1=>∃ c,x = .bl c∧if c = true then Q (.bl true) H1 else tb σ H1 Q
def x8 (ta:TE):TE:=fun σ H Q=>ta σ H fun x H1=>∃ c,x = .bl c∧Q (.bl (!c)) H1
theorem pO {op} {t:TE} (h:PE X a t):PE X (.BoolOp op [a] pos) t:=fun pins s σ H Q I hw=>BoolOp_one (h pins s σ H Q I hw)
theorem pP (ha:PE X a ta) (hb:PE X (.BoolOp .And (b :: rest) pos) tb):PE X (.BoolOp .And (a :: b :: rest) pos) (yd ta tb):=by
 intro pins s σ H Q I h
 refine BoolOp_and (b5 (ha pins s σ H _ I h) fun v s1 ⟨x,H1,I1,r1,q1⟩=>?_)
 obtain ⟨c,rfl,q1⟩:=q1
 cases r1
 refine wpAny_truthy_bool ?_
 cases c with
 | true=>exact hb pins s1 σ H1 Q I1 q1
 | false=>exact ⟨.bl false,H1,I1,rfl,q1⟩
theorem zF (ha:PE X a ta):PE X (.UnaryOp .Not a pos) (x8 ta):=by
 intro pins s σ H Q I h
 refine UnaryOp_ (b5 (ha pins s σ H _ I h) fun v s1 ⟨x,H1,I1,r1,q1⟩=>?_)
 obtain ⟨c,rfl,q1⟩:=q1
 cases r1
 exact not_of (wpAny_truthy_bool ⟨.bl (!c),H1,I1,rfl,q1⟩)
def Rf (t:TT) (ta tb:TE):TE:=fun σ H Q=>t σ H fun c H1=>if c = true then ta σ H1 Q else tb σ H1 Q
end
end L2
namespace L2
open PySem PySem.Spec PyProof.Rows
def aG (K:PySem.W.Frag) (H:Hp) (a:Addr) (xs:List V):Prop:=
 Rd H a (.lst xs)∨
  ∃ (o:Obj) (aO:Array Value) (n:Nat),K.lookup a = some o∧o.cls = .type "list"∧o.dict = none∧o.data = .seq aO n∧aO.size≤sizeLine∧Vals xs aO.toList
def SqT (K:PySem.W.Frag) (H:Hp) (a:Addr) (xs:List V):Prop:=
 Rd H a (.tup xs)∨
  ∃ (o:Obj) (aO:Array Value) (n:Nat),K.lookup a = some o∧o.cls = .type "tuple"∧o.data = .seq aO n∧aO.size≤sizeLine∧Vals xs aO.toList
def Jr:Value→Option V
 | .none=>some .bY
 | .bool b=>some (.bl b)
 | .int i _=>some (.int i)
 | .str x _=>some (.str x)
 | .bytes b _=>some (.qi b)
 | .float b _=>some (.vw b)
 | .ref a=>some (.ref a)
 | .type n=>some (.ty n)
 | _=>none
theorem RelV.abs {x:V} {u:Value} (r:RelV x u):Jr u = some x:=by
 cases x with
 | bY=>cases r; rfl
 | bl _=>cases r; rfl
 | int _=>obtain ⟨t,rfl⟩:=r; rfl
 | str _=>obtain ⟨t,rfl⟩:=r; rfl
 | qi _=>obtain ⟨t,rfl⟩:=r; rfl
 | vw _=>obtain ⟨t,rfl⟩:=r; rfl
 | ref _=>cases r; rfl
 | ty _=>cases r; rfl
theorem RelV.inj {x y:V} {u:Value} (r:RelV x u) (q:RelV y u):x = y:=Option.some.inj (r.abs.symm.trans q.abs)
theorem Vals.inj:∀ {xs ys:List V} {us:List Value},Vals xs us→Vals ys us→xs = ys
 | _,_,_,.nil,.nil=>rfl
 | _,_,_,.cons r t,.cons r' t'=>by rw [r.inj r',Vals.inj t t']
section
variable {X:Cx} {pins:List (Addr×Obj)} {σ : St} {H:Hp} {s:Shared} {a:Addr} {xs ys:List V}
theorem aG.of {K:PySem.W.Frag} (h:H a = some (.lst xs)):aG K H a xs:=.inl (.inl h)
theorem SqT.of {K:PySem.W.Frag} (h:H a = some (.tup xs)):SqT K H a xs:=.inl (.inl h)
theorem Inv.list (I:Inv X pins σ H s) (h:aG X.K H a xs):∃ aO:List Value,Vals xs aO∧PlainL s.heap a aO.toArray∧xs.length≤sizeLine:=by
 rcases h with h | ⟨o,aO,n,hk,hc,hd,hs,hz,r⟩
 ·obtain ⟨z,aO,n,r,e⟩:=h.ok I.bz
  exact ⟨aO,r,⟨_,n,e,rfl,rfl,rfl⟩,z⟩
 ·refine ⟨aO.toList,r,⟨o,n,I.oz a o hk,hc,hd,by simpa using hs⟩,?_⟩
  have e:=r.length
  simp only [Array.length_toList] at e
  omega
theorem Inv.tuple (I:Inv X pins σ H s) (h:SqT X.K H a xs):∃ aO:List Value,Vals xs aO∧IsTup s.heap a aO.toArray∧xs.length≤sizeLine:=by
 rcases h with h | ⟨o,aO,n,hk,hc,hs,hz,r⟩
 ·obtain ⟨z,aO,r,p⟩:=h.ok I.bz
  exact ⟨aO,r,p,z⟩
 ·refine ⟨aO.toList,r,⟨o,I.oz a o hk,hc,n,by simpa using hs⟩,?_⟩
  have e:=r.length
  simp only [Array.length_toList] at e
  omega
theorem Inv.oo (I:Inv X pins σ H s) (h:aG X.K H a xs) (h':aG X.K H a ys):xs = ys:=by
 obtain ⟨aO,r,⟨o,n,e,_,_,d⟩,_⟩:=I.list h
 obtain ⟨its',r',⟨o',n',e',_,_,d'⟩,_⟩:=I.list h'
 rw [e] at e'; cases e'
 rw [d] at d'
 injection d' with d1 _
 have:aO = its':=by simpa using congrArg Array.toList d1
 subst this
 exact r.inj r'
end
abbrev Cx.kb (X:Cx) (E:Value→Shared→Prop):Cx:={ X with xe:=E }
abbrev Cx.Bc (X:Cx):Cx:=X.kb fun _ _=>False
theorem Cx.Ok.kb {X:Cx} (ok:X.Ok) (E:Value→Shared→Prop):(X.kb E).Ok:=
 ⟨ok.mod,ok.kind,ok.glob,ok.blt,ok.above,ok.inj,ok.has,ok.Dw,ok.hd,ok.frames,ok.BN,ok.Lh,ok.bs,ok.AQ,ok.uS,ok.xB,ok.jQ,ok.Bn⟩
theorem Cx.Ok.fj {X:Cx} {E:Value→Shared→Prop} (ok:(X.kb E).Ok):X.Ok:=
 ⟨ok.mod,ok.kind,ok.glob,ok.blt,ok.above,ok.inj,ok.has,ok.Dw,ok.hd,ok.frames,ok.BN,ok.Lh,ok.bs,ok.AQ,ok.uS,ok.xB,ok.jQ,ok.Bn⟩
section
variable {X:Cx} {pins:List (Addr×Obj)} {σ : St} {H:Hp} {s:Shared} {E:Value→Shared→Prop}
theorem Inv.kb (I:Inv X pins σ H s) (E:Value→Shared→Prop):Inv (X.kb E) pins σ H s:=⟨I.ok.kb E,I.os,I.bare,I.base,I.loc,I.cell,I.free,I.eu,I.pin,I.bz,I.len⟩
theorem Inv.fj (I:Inv (X.kb E) pins σ H s):Inv X pins σ H s:=⟨I.ok.fj,I.os,I.bare,I.base,I.loc,I.cell,I.free,I.eu,I.pin,I.bz,I.len⟩
theorem SP.fj {D:Ends} {f:Flow} {s':Shared} (h:SP (X.kb E) pins D f s'):SP X pins D f s':=by
 cases f with
 | next=>obtain ⟨σ',H',I,q⟩:=h; exact ⟨σ',H',I.fj,q⟩
 | brk=>obtain ⟨σ',H',I,q⟩:=h; exact ⟨σ',H',I.fj,q⟩
 | cont=>obtain ⟨σ',H',I,q⟩:=h; exact ⟨σ',H',I.fj,q⟩
 | ret u=>obtain ⟨v,σ',H',I,r,q⟩:=h; exact ⟨v,σ',H',I.fj,r,q⟩
theorem sf.Bc {st:List Stmt} {t:TS} (h:sf X.Bc st t):sf X st t:=fun pins s σ H D I hw=>
 wpAny_mono (h pins s σ H D (I.kb _) hw) (fun _ _ q=>q.fj) fun _ _ z=>False.elim z
end
section
variable {X:Cx} {st:Stmt} {rest:List Stmt} {t u:TS} {e:Expr} {te:TE} {pos:Pos}
def ya:TS:=fun D σ H=>D.nx σ H
def y3 (t u:TS):TS:=fun D σ H=>t { D with nx:=u D } σ H
theorem aR:sf X [] ya:=fun _ _ σ H _ I h=>wpAny_execs_nil ⟨σ,H,I,h⟩
theorem ah (h1:PS X st t) (h2:sf X rest u):sf X (st :: rest) (y3 t u):=by
 intro pins s σ H D I h
 refine wpAny_execs_cons (b5 (h1 pins s σ H { D with nx:=u D } I h) fun f s1 q=>?_)
 cases f with
 | next=>
  obtain ⟨σ',H',I',q⟩:=q
  exact h2 pins s1 σ' H' D I' q
 | ret v=>exact q
 | brk=>exact q
 | cont=>exact q
theorem aq (h1:PS X st t):sf X [st] t:=by
 intro pins s σ H D I h
 refine wpAny_execs_cons (b5 (h1 pins s σ H D I h) fun f s1 q=>?_)
 cases f with
 | next=>exact wpAny_execs_nil q
 | ret v=>exact q
 | brk=>exact q
 | cont=>exact q
def Fs:TS:=fun D σ H=>D.bk σ H
def JR:TS:=fun D σ H=>D.ct σ H
theorem Inv.quiet {pins:List (Addr×Obj)} {σ : St} {H:Hp} {s:Shared} (I:Inv X pins σ H s):interactive X.env = false:=by simp [interactive,I.ok.kind]
def yc (te:TE):TS:=fun D σ H=>te σ H fun _ H1=>D.nx σ H1
theorem bu (he:PE X e te) (hs:swapsWith e none pos.line X.env = pure false:=by rfl):PS X (.Expr e pos) (yc te):=by
 intro pins s σ H D I h
 exact wpAny_Expr_any (b5 (he pins s σ H _ I h) fun v s1 ⟨x,H1,I1,r1,q1⟩=>⟨σ,H1,I1,q1⟩) I.quiet hs
def BB (te:TE):TS:=fun D σ H=>te σ H D.rt
theorem aX (he:PE X e te):PS X (.Return (some e) pos) (BB te):=by
 intro pins s σ H D I h
 exact wpAny_Return_some (b5 (he pins s σ H _ I h) fun v s1 ⟨x,H1,I1,r1,q1⟩=>⟨x,σ,H1,I1,r1,q1⟩)
def JM:TS:=fun D _ H=>D.rt .bY H
def BJ (c:TT) (t u:TS):TS:=fun D σ H=>c σ H fun b H1=>if b = true then t D σ H1 else u D σ H1
theorem bC {c:Expr} {a b:List Stmt} {tc:TT} (hc:PT X c tc) (ha:sf X a t) (hb:sf X b u):PS X (.If c a b pos) (BJ tc t u):=by
 intro pins s σ H D I h
 refine wpAny_If (b5 (hc pins s σ H _ I h) fun d s1 ⟨H1,I1,q1⟩=>?_)
 cases d with
 | true=>exact ha pins s1 σ H1 D I1 q1
 | false=>exact hb pins s1 σ H1 D I1 q1
def Fg:TS:=fun _ _ _=>False
end
abbrev TG:=V→St→Hp→(St→Hp→Prop)→Prop
abbrev xP:=List V→St→Hp→(St→Hp→Prop)→Prop
def PG (X:Cx) (target:Expr) (t:TG):Prop:=
 ∀ (pins:List (Addr×Obj)) (s:Shared) (σ : St) (H:Hp) (v:V) (u:Value) (Q:St→Hp→Prop),Inv X pins σ H s→RelV v u→t v σ H Q→
  wpAny (model X.prog X.w) X.A (assign target X.env u) (fun _ s'=>∃ σ' H',Inv X pins σ' H' s'∧Q σ' H') X.xe s
def EZ (X:Cx) (ts:List Expr) (t:xP):Prop:=
 ∀ (pins:List (Addr×Obj)) (s:Shared) (σ : St) (H:Hp) (vs:List V) (us:List Value) (Q:St→Hp→Prop),Inv X pins σ H s→Vals vs us→t vs σ H Q→
  wpAny (model X.prog X.w) X.A (assignInOrder ((assignEach ts X.env).map (·.2)) us) (fun _ s'=>∃ σ' H',Inv X pins σ' H' s'∧Q σ' H') X.xe s
abbrev AW:=V→V→V→Hp→(Hp→Prop)→Prop
def QE (X:Cx) (t:AW):Prop:=
 ∀ (pins:List (Addr×Obj)) (s:Shared) (σ : St) (H:Hp) (o i v:V) (ov iv u:Value) (Q:Hp→Prop),Inv X pins σ H s→RelV o ov→RelV i iv→RelV v u→t o i v H Q→
  wpAny (model X.prog X.w) X.A (setItem ov iv u) (fun _ s'=>∃ H',Inv X pins σ H' s'∧Q H') X.xe s
abbrev EY:=V→V→Hp→VK→Prop
def Se (X:Cx) (op:Operator) (t:EY):Prop:=
 ∀ (pins:List (Addr×Obj)) (s:Shared) (σ : St) (H:Hp) (x y:V) (v u:Value) (Q:VK),Inv X pins σ H s→RelV x v→RelV y u→t x y H Q→
  wpAny (model X.prog X.w) X.A (inplaceOp op v u) (EP X pins σ Q) X.xe s
section
variable {X:Cx} {pos:Pos}
def lA (i:Nat):TG:=fun v σ H Q=>Q (σ.set i (some v)) H
theorem aP {i:Nat} {x:Str} (hN:X.N.Nodup) (hi:X.N[i]? = some x) (hx:Loc X.env.scope x) (hf:X.fn x = true∨X.env.scope.names.lookup x = some .local:=by first | exact .inl rfl | exact .inr rfl | assumption):PG X (.Name x pos) (lA i):=by
 intro pins s σ H v u Q I r h
 exact wpAny_assign_Name (gM I hN hi hx r (fun s' I'=>⟨_,H,I',h⟩) hf)
def CW:xP:=fun vs σ H Q=>vs = []∧Q σ H
def yJ (t:TG) (u:xP):xP:=fun vs σ H Q=>∃ v r,vs = v :: r∧t v σ H fun σ' H'=>u r σ' H' Q
theorem wN:EZ X [] CW:=by
 intro pins s σ H vs us Q I r h
 obtain ⟨e,h⟩:=h
 subst e
 cases r
 exact assignInOrder_nil ⟨σ,H,I,h⟩
theorem nY {e:Expr} {es:List Expr} {t:TG} {u:xP} (h1:PG X e t) (h2:EZ X es u)
  (hs:(assignEach (e :: es) X.env).map (·.2) = assign e X.env :: (assignEach es X.env).map (·.2):=by rfl):EZ X (e :: es) (yJ t u):=by
 intro pins s σ H vs us Q I r h
 obtain ⟨v,vr,e1,h⟩:=h
 subst e1
 cases r with
 | cons r rr=>
  rw [hs]
  refine assignInOrder_cons (b5 (h1 pins s σ H _ _ _ I r h) fun _ s1 ⟨σ1,H1,I1,q1⟩=>?_)
  exact h2 pins s1 σ1 H1 _ _ Q I1 rr q1
def CV (K:PySem.W.Frag) (n:Nat) (t:xP):TG:=fun v σ H Q=>∃ a xs,v = .ref a∧SqT K H a xs∧xs.length = n∧t xs σ H Q
theorem zD {es:List Expr} {k:Nat} {t:xP} {n:Nat} (hc:X.calm = true) (h:EZ X es t)
  (hn:(assignEach es X.env).length = n:=by rfl) (Hq:(assignEach es X.env).findIdx? (·.1) = none:=by rfl):PG X (.Tuple es k pos) (CV X.K n t):=by
 intro pins s σ H v u Q I r hw
 obtain ⟨a,xs,e1,hq,hl,hw⟩:=hw
 subst e1
 cases r
 obtain ⟨aO,rv,ht,hz⟩:=I.tuple hq
 refine assign_Tuple_tuple (I.ok.hd hc) ht (by simp [hn,← hl,rv.length]) Hq fun h' hx=>?_
 have I1:Inv X pins σ H { s with heap:=h' }:=I.kept (t':=s.toks) fun b o e=>hx b o (Nat.ne_of_lt (Heap.lt_size e)) e
 exact h pins _ σ H xs _ Q I1 (by simpa using rv) hw
def Pr (to ti:TE) (t:AW):TG:=fun v σ H Q=>to σ H fun o H1=>ti σ H1 fun i H2=>t o i v H2 fun H3=>Q σ H3
def y8 (te:TE) (g:TG):TS:=fun D σ H=>te σ H fun x H1=>g x σ H1 D.nx
theorem aJ {i:Nat} {x:Str} {e:Expr} {te:TE} {pos':Pos} (hN:X.N.Nodup) (hi:X.N[i]? = some x) (hx:Loc X.env.scope x) (he:PE X e te) (hs:swapsWith e (some (.Name x pos')) pos.line X.env = pure false:=by rfl) (hf:X.fn x = true∨X.env.scope.names.lookup x = some .local:=by first | exact .inl rfl | exact .inr rfl | assumption) :
  PS X (.Assign [.Name x pos'] e pos) (y8 te (lA i)):=by
 intro pins s σ H D I h
 refine wpAny_Assign_Name (b5 (he pins s σ H _ I h) fun v s1 ⟨y,H1,I1,r1,q1⟩=>?_) hs
 exact gM I1 hN hi hx r1 (fun s2 I2=>⟨_,H1,I2,q1⟩) hf
def BC (i j:Nat) (ta:TA):TS:=fun D σ H=>ta σ H fun vs H1=>∃ v w,vs = [v,w]∧D.nx ((σ.set i (some v)).set j (some w)) H1
theorem zB {i j:Nat} {x y:Str} {a b:Expr} {ta:TA} {px py pt:Pos} {kt k2 FY} (hc:X.calm = true) (hN:X.N.Nodup) (hi:X.N[i]? = some x) (hj:X.N[j]? = some y) (OX:i≠j)
  (hx:X.env.scope.names.lookup x = some .local) (hy:X.env.scope.names.lookup y = some .local) (ha:PA X [a,b] ta)
  (hw:swappedStores [.Tuple [.Name x px,.Name y py] kt pt] (.Tuple [a,b] k2 FY) X.env = pure (some [x,y]))
  (hs:swapsWithSole [.Tuple [.Name x px,.Name y py] kt pt] (.Tuple [a,b] k2 FY) pos.line X.env = pure false:=by rfl) :
  PS X (.Assign [.Tuple [.Name x px,.Name y py] kt pt] (.Tuple [a,b] k2 FY) pos) (BC i j ta):=by
 intro pins s σ H D I h
 rw [exec_Assign_arm]
 refine wpAny_bind (wpAny_standAt ?_)
 rw [hs]
 refine wpAny_bind (wpAny_pure ?_)
 rw [if_neg (by decide)]
 refine wpAny_bind (Tuple_ (b5 (ha _ pins s σ H _ I h) fun us s1 ⟨vs,H1,I1,r1,q1⟩=>?_))
 obtain ⟨v,w,e1,q1⟩:=q1
 subst e1
 obtain ⟨u1,u2,rfl,rv,nP⟩:∃ u1 u2,us = [u1,u2]∧RelV v u1∧RelV w u2:=by
  cases r1 with
  | cons p q=>
   cases q with
   | cons p' q'=>
    cases q'
    exact ⟨_,_,rfl,p,p'⟩
 refine wpAny_newObj_type ?_ (by show 2≤sizeLine; decide)
 have I2:Inv X pins σ H1 { s1 with heap:=s1.heap.push { cls:=.type "tuple",data:=.seq [u1,u2].toArray } }:=I1.kept (t':=s1.toks) fun b o e=>Heap.get?_push_of_some _ e
 rw [hw]
 refine wpAny_bind (wpAny_pure ?_)
 show wpAny (model X.prog X.w) X.A (do rule "assign.swapped-stores"; let items ← unpackItems (.ref s1.heap.objs.size) 2 none; assignInOrder [fun v=>bindName X.env y v,fun v=>bindName X.env x v] items.reverse; pure Flow.next) _ _ _
 refine wpAny_bind (wpAny_rule (wpAny_bind (unpackItems_tuple (items:=#[u1,u2]) (I.ok.hd hc) (IsTup.new s1.heap _) fun h' Af=>?_)))
 have I3:=I2.kept (h':=h') (t':=s1.toks) fun b o e=>Af b o (Nat.ne_of_lt (Heap.lt_size e)) e
 show wpAny _ _ (assignInOrder [fun v=>bindName X.env y v,fun v=>bindName X.env x v] [u2,u1] >>= fun _=>pure Flow.next) _ _ _
 refine wpAny_bind (assignInOrder_cons (wpAny_bindName (gM I3 hN hj (.inl hy) nP (fun s2 I4=>?_) (.inr hy))))
 refine assignInOrder_cons (wpAny_bindName (gM I4 hN hi (.inl hx) rv (fun s3 I5=>assignInOrder_nil (wpAny_pure ?_)) (.inr hx)))
 rw [List.set_comm _ _ (Ne.symm OX)] at I5
 exact ⟨_,H1,I5,q1⟩
def Mf (i:Nat) (te:TE) (ti:EY):TS:=fun D σ H=>∃ x,σ[i]? = some (some x)∧te σ H fun y H1=>ti x y H1 fun z H2=>D.nx (σ.set i (some z)) H2
def JT (to ti te:TE) (Fb:V→V→Hp→VK→Prop) (LY:EY) (E5:AW):TS:=fun D σ H=>to σ H fun o H1=>ti σ H1 fun i H2=>Fb o i H2 fun x H3=>te σ H3 fun y H4=>LY x y H4 fun z H5=>E5 o i z H5 fun H6=>D.nx σ H6
def QF (X:Cx) (t:V→V→Hp→VK→Prop):Prop:=
 ∀ (pins:List (Addr×Obj)) (s:Shared) (σ : St) (H:Hp) (o i:V) (ov iv:Value) (Q:VK),Inv X pins σ H s→RelV o ov→RelV i iv→t o i H Q→
  wpAny (model X.prog X.w) X.A (getItem ov iv) (EP X pins σ Q) X.xe s
def RE (f:Int→Int→Int):EY:=fun x y H Q=>∃ i j,x = .int i∧y = .int j∧Q (.int (f i j)) H
end
section
variable {X:Cx} {pos:Pos}
def uc (c:TT) (tb:TS):TS:=fun D σ H=>∃ W:Nat→St→Hp→Prop,(∃ m,W m σ H)∧∀ m σ H,W m σ H→
 c σ H fun b H1=>if b = true then ∃ N:St→Hp→Prop,(∀ σ' H',N σ' H'→∃ m',m' < m∧W m' σ' H')∧tb { D with nx:=N,ct:=N,bk:=D.nx } σ H1 else D.nx σ H1
theorem gR {c:Expr} {body:List Stmt} {tc:TT} {tb:TS} (hp:PassesOwn (model X.prog X.w) X.A X.env X.xe) (hc:PT X c tc) (hb:sf X body tb):PS X (.While c body [] pos) (uc tc tb):=by
 intro pins s σ H D I h
 obtain ⟨W,⟨m0,w0⟩,turn⟩:=h
 refine wpAny_While (codeAny_whileLoop (fun n s'=>∃ σ' H',Inv X pins σ' H' s'∧W n σ' H') ?_ m0 ⟨σ,H,I,w0⟩)
 rintro n s1 ⟨σ1,H1,I1,w1⟩
 refine wpAny_passesOwn hp (b5 (hc pins s1 σ1 H1 _ I1 (turn n σ1 H1 w1)) fun b s2 ⟨H2,I2,q2⟩=>?_)
 cases b with
 | true=>
  obtain ⟨N,hN,q2⟩:=q2
  rw [if_pos rfl]
  refine wpAny_passesOwn hp (b5 (hb pins s2 σ1 H2 _ I2 q2) fun f s3 q3=>?_)
  cases f with
  | next=>
   obtain ⟨σ3,H3,I3,n3⟩:=q3
   obtain ⟨m',hm,w3⟩:=hN σ3 H3 n3
   exact ⟨m',hm,σ3,H3,I3,w3⟩
  | cont=>
   obtain ⟨σ3,H3,I3,n3⟩:=q3
   obtain ⟨m',hm,w3⟩:=hN σ3 H3 n3
   exact ⟨m',hm,σ3,H3,I3,w3⟩
  | brk=>exact q3
  | ret v=>exact q3
 | false=>
  rw [if_neg Bool.false_ne_true]
  exact wpAny_execs_nil ⟨σ1,H2,I2,q2⟩
end
structure It where
 go:Nat→Hp→Prop
 tV:Nat→Hp→V→Hp→Prop
 stop:Nat→Hp→Prop
def kH (X:Cx) (pins:List (Addr×Obj)) (H:Hp) (b:Addr):Prop:=
 H b = none∧b≠X.env.locals∧b∉X.fs∧(b∈X.ex∨X.s₀.heap.objs.size≤b)∧(∀ x c,X.env.cells.lookup x = some c→c≠b)∧∀ p∈X.pn ++ pins,p.1≠b
theorem Inv.vt {X:Cx} {pins:List (Addr×Obj)} {σ : St} {H H':Hp} {s:Shared} {b:Addr} (I:Inv X pins σ H s) (hb:s.heap.objs.size≤b) (hn:H' b = none):kH X pins H' b:=by
 refine ⟨hn,Nat.ne_of_gt (Nat.lt_of_lt_of_le I.lt hb),I.GP hb,.inr (Nat.le_trans I.sz hb),fun x c e z=>?_,fun p hp z=>?_⟩
 ·obtain ⟨v,q⟩:=I.cell x c e
  exact absurd (Nat.lt_of_lt_of_le q.lt (by rw [z]; exact hb)) (Nat.lt_irrefl _)
 ·exact absurd (Nat.lt_of_lt_of_le (Heap.lt_size (I.pin p hp).1) (by rw [z]; exact hb)) (Nat.lt_irrefl _)
structure Turn (P:Program) (w:World) (K:PySem.W.Frag) (tg:Expr) (J:It) (fp:List Addr) (it:Addr) (tn:Nat→Heap→Prop):Prop where
 mem:it∈fp
 obj:∀ i h,tn i h→∀ b∈fp,∃ o,h.get? b = some o∧∀ v,o.data≠.cell v
 keep:∀ i h h',tn i h→(∀ b∈fp,∀ o,h.get? b = some o→h'.get? b = some o)→tn i h'
 item:∀ (X:Cx),X.prog = P→X.w = w→X.K = K→X.calm = true→∀ (i:Nat) (pins:List (Addr×Obj)) (s:Shared) (σ : St) (H:Hp) (E:Value→Shared→Prop),Inv X pins σ H s→(∀ b∈fp,kH X pins H b)→tn i s.heap→J.go i H→
  wpAny (model P w) X.A (pyNext (.ref it)) (fun r s1=>∃ u,r = some u∧
   wpAny (model P w) X.A (letOwnedTupleGo tg (.ref it) u) (fun _ s2=>∃ x H',Inv X pins σ H' s2∧RelV x u∧J.tV i H x H'∧tn (i + 1) s2.heap∧∀ b∈fp,H' b = none) E s1) E s
 done:∀ (X:Cx),X.prog = P→X.w = w→X.K = K→X.calm = true→∀ (i:Nat) (pins:List (Addr×Obj)) (s:Shared) (σ : St) (H:Hp) (E:Value→Shared→Prop),Inv X pins σ H s→(∀ b∈fp,kH X pins H b)→tn i s.heap→J.stop i H→
  wpAny (model P w) X.A (pyNext (.ref it)) (fun r s1=>r = none∧Inv X pins σ H s1) E s
 self:∀ (A:Around) (i:Nat) (s:Shared) (Q:Value→Shared→Prop) (E:Value→Shared→Prop),tn i s.heap→Q (.ref it) s→wpAny (model P w) A (pyIter (.ref it)) Q E s
abbrev TI:=St→Hp→(It→Hp→Prop)→Prop
def LI (X:Cx) (pins:List (Addr×Obj)) (σ : St) (tg:Expr) (R:It→Hp→Prop) (Hh:Value) (s2:Shared):Prop:=
 ∃ (it:Addr) (fp:List Addr) (tn:Nat→Heap→Prop) (J:It) (H':Hp),Hh = .ref it∧Inv X pins σ H' s2∧Turn X.prog X.w X.K tg J fp it tn∧tn 0 s2.heap∧(∀ b∈fp,kH X pins H' b)∧R J H'
def PI (X:Cx) (tg iter:Expr) (wi:TI):Prop:=
 ∀ (pins:List (Addr×Obj)) (s:Shared) (σ : St) (H:Hp) (R:It→Hp→Prop),Inv X pins σ H s→wi σ H R→
  wpAny (model X.prog X.w) X.A (eval iter X.env) (fun v s1=>wpAny (model X.prog X.w) X.A (pyIter v) (LI X pins σ tg R) X.xe s1) X.xe s
theorem vq {M:Model} {A:Around} {E:Value→Shared→Prop} {s:Shared} {tg:Expr} {it:Addr} {u:Value} {o:Obj} {n:String} {vs:Array Value} {Q:Unit→Shared→Prop} (ho:s.heap.get? it = some o) (hc:o.cls = .type n) (hd:o.data = .fields vs)
  (hn:["enumerate", "zip", "dict_itemiterator", "dict_reverseitemiterator", "odict_iterator", "itertools.zip_longest", "itertools.pairwise"].contains n = false) (hQ:Q () s):wpAny M A (letOwnedTupleGo tg (.ref it) u) Q E s:=by
 unfold letOwnedTupleGo
 cases tg <;> first
  | exact wpAny_pure hQ
  | (cases u <;> first
    | exact wpAny_pure hQ
    | (
       refine wpAny_bind (wpAny_load ho ?_)
       rw [hc,hd]
       show wpAny M A (if (["enumerate", "zip", "dict_itemiterator", "dict_reverseitemiterator", "odict_iterator", "itertools.zip_longest", "itertools.pairwise"].contains n && vs[0]? == some (rawInt _)) = true then _ else _) Q E s
       rw [if_neg (by intro h; rw [hn,Bool.false_and] at h; cases h)]
       exact wpAny_pure hQ))
def xT (K:PySem.W.Frag) (a:Addr):It:=
 ⟨fun i H=>∃ xs x,aG K H a xs∧xs[i]? = some x,fun i H x H'=>H' = H∧∀ xs,aG K H a xs→xs[i]? = some x,fun i H=>∃ xs,aG K H a xs∧xs.length≤i⟩
def QM (K:PySem.W.Frag) (a:Addr):It:=
 ⟨fun i H=>∃ xs x,SqT K H a xs∧xs[i]? = some x,fun i H x H'=>H' = H∧∀ xs,SqT K H a xs→xs[i]? = some x,fun i H=>∃ xs,SqT K H a xs∧xs.length≤i⟩
def we (lo:Int) (n:Nat):It:=⟨fun i _=>i < n,fun i H x H'=>H' = H∧x = .int (lo + i),fun i _=>n≤i⟩
theorem sq {P:Program} {w:World} {K:PySem.W.Frag} {tg:Expr} (a it:Addr):Turn P w K tg (xT K a) [it] it (fun i h=>h.IsListIter it a i) where
 mem:=by simp
 obj:=fun i h st b hb=>by
  have e:b = it:=by simpa using hb
  subst e
  obtain ⟨o,e,c,d⟩:=st
  exact ⟨o,e,fun v z=>by rw [d] at z; cases z⟩
 keep:=fun i h h' st k=>st.at fun o e=>k it (by simp) o e
 item:=by
  intro X hP hw hK hc i pins s σ H E I hf st hg
  subst hP hw hK
  obtain ⟨xs,x,hq,hx⟩:=hg
  obtain ⟨aO,rv,p,hz⟩:=I.list hq
  obtain ⟨u,hu,ru⟩:=rv.get hx
  obtain ⟨f0,f1,f2,f3,f4,f5⟩:=hf it (by simp)
  refine wpAny_pyNext_list_item st p.isList (x:=u) (by simpa using hu) fun h' vT sb=>?_
  have I1:Inv X pins σ H { s with heap:=h' }:=I.turned (t':=s.toks) (fun b o hb e=>(sb.2 b hb).trans e) f0 f1 f3 f4 f5
  obtain ⟨o,e,c,d⟩:=id vT
  exact ⟨u,rfl,vq (s:={ s with heap:=h' }) e c d (by decide) ⟨x,H,I1,ru,⟨rfl,fun ys hy=>by rw [I.oo hy hq]; exact hx⟩,vT,fun b hb=>(hf b hb).1⟩⟩
 done:=by
  intro X hP hw hK hc i pins s σ H E I hf st hg
  subst hP hw hK
  obtain ⟨xs,hq,hx⟩:=hg
  obtain ⟨aO,rv,p,hz⟩:=I.list hq
  obtain ⟨f0,f1,f2,f3,f4,f5⟩:=hf it (by simp)
  have hl:=rv.length
  exact wpAny_pyNext_list_end (I.ok.hd hc) st p.isList (by simp; omega) fun h' eb=>⟨rfl,I.turned (t':=s.toks) (fun b o hb e=>eb b o hb e) f0 f1 f3 f4 f5⟩
 self:=fun _ _ _ _ _ st h=>wpAny_pyIter_listiter st h
theorem o9 {P:Program} {w:World} {K:PySem.W.Frag} {tg:Expr} (it:Addr) (lo:Int) (n:Nat):Turn P w K tg (we lo n) [it] it (fun i h=>IsRangeIter h it (lo + (i:Nat) * 1) ((n:Int) - (i:Nat)) 1) where
 mem:=by simp
 obj:=fun i h st b hb=>by
  have e:b = it:=by simpa using hb
  subst e
  exact ⟨_,st,fun v z=>by
   have z':Data.fields _ = Data.cell v:=z
   cases z'⟩
 keep:=fun i h h' st k=>k it (by simp) _ st
 item:=by
  intro X hP hw hK hc i pins s σ H E I hf st hg
  subst hP hw hK
  obtain ⟨f0,f1,f2,f3,f4,f5⟩:=hf it (by simp)
  have W:=Walks.range (prog:=X.prog) (w:=X.w) (I.ok.hd hc) it lo 1 n
  refine W.item i s _ _ hg st fun v h' tk hv vT kk=>?_
  obtain ⟨t,rfl⟩:=hv
  have I1:Inv X pins σ H { s with heap:=h',toks:=tk }:=I.turned (fun b o hb e=>kk b o (by simpa using hb) e) f0 f1 f3 f4 f5
  refine ⟨_,rfl,vq (s:={ s with heap:=h',toks:=tk }) (n:= "range_iterator") vT rfl rfl (by decide) ⟨.int (lo + i),H,I1,⟨t,?_⟩,⟨rfl,rfl⟩,vT,fun b hb=>(hf b hb).1⟩⟩
  rw [Int.mul_one]
 done:=by
  intro X hP hw hK hc i pins s σ H E I hf st hg
  subst hP hw hK
  obtain ⟨f0,f1,f2,f3,f4,f5⟩:=hf it (by simp)
  exact wpAny_pyNext_range_end (I.ok.hd hc) st (by have:n≤i:=hg; omega) fun h' eb=>⟨rfl,I.turned (t':=s.toks) (fun b o hb e=>eb b o hb e) f0 f1 f3 f4 f5⟩
 self:=fun _ _ _ _ _ st h=>wpAny_pyIter_rangeiter st h
end L2
namespace L2
open PySem PySem.Spec PyProof.Rows
section
variable {X:Cx} {tg:Expr}
def rJ (K:PySem.W.Frag) (tl:TE):TI:=fun σ H R=>tl σ H fun x H1=>∃ a,x = .ref a∧(∃ xs,aG K H1 a xs)∧R (xT K a) H1
def Oc (K:PySem.W.Frag) (tl:TE):TI:=fun σ H R=>tl σ H fun x H1=>∃ a,x = .ref a∧(∃ xs,SqT K H1 a xs)∧R (QM K a) H1
theorem cg {l:Expr} {tl:TE} (hl:PE X l tl):PI X tg l (rJ X.K tl):=by
 intro pins s σ H R I h
 refine b5 (hl pins s σ H _ I h) fun v s1 ⟨x,H1,I1,r1,q1⟩=>?_
 obtain ⟨a,e,⟨xs,hq⟩,q⟩:=q1
 subst e
 cases r1
 obtain ⟨aO,rv,p,hz⟩:=I1.list hq
 refine wpAny_pyIter_list p.isList ?_
 refine ⟨s1.heap.objs.size,[s1.heap.objs.size],_,_,H1,rfl,I1.kept (t':=s1.toks) fun b o e=>Heap.get?_push_of_some _ e,sq a _,⟨_,Heap.get?_push_size _ rfl,rfl,rfl⟩,fun b hb=>?_,q⟩
 have e:b = s1.heap.objs.size:=by simpa using hb
 subst e
 exact I1.vt (Nat.le_refl _) (I1.bz.fresh (Nat.le_refl _))
theorem nU {pins:List (Addr×Obj)} {σ : St} {H:Hp} {s:Shared} {R:It→Hp→Prop} {E:Value→Shared→Prop} {lo hi:Int} {t u v:Tok} {tk:Nat} (I:Inv X pins σ H s) (h1 : -(2 ^ 62)≤lo) (h2:lo < 2 ^ 62) (h3 : -(2 ^ 62)≤hi) (h4:hi < 2 ^ 62)
  (q:R (we lo (hi - lo).toNat) H):wpAny (model X.prog X.w) X.A (pyIter (.ref s.heap.objs.size)) (LI X pins σ tg R) E { s with heap:=s.heap.push { cls:=.type "range",data:=.fields #[.int lo t,.int hi u,.int 1 v] },toks:=tk }:=by
 refine wpAny_pyIter_range (IsRange.new ..) (small_one h1 h2 h3 h4) ?_
 have I1:Inv X pins σ H { s with heap:=s.heap.push { cls:=.type "range",data:=.fields #[.int lo t,.int hi u,.int 1 v] },toks:=tk }:=I.kept fun b o e=>Heap.get?_push_of_some _ e
 refine ⟨(s.heap.push { cls:=.type "range",data:=.fields #[.int lo t,.int hi u,.int 1 v] }).objs.size,[(s.heap.push { cls:=.type "range",data:=.fields #[.int lo t,.int hi u,.int 1 v] }).objs.size],_,_,H,rfl,
  I1.kept (t':=tk) fun b o e=>Heap.get?_push_of_some _ e,o9 _ lo (hi - lo).toNat,?_,fun b hb=>?_,q⟩
 ·have e1:lo + ((0:Nat):Int) * 1 = lo:=by simp
  have e2:(((hi - lo).toNat:Nat):Int) - ((0:Nat):Int) = Builtin.Range.rangeSize lo hi 1:=by rw [rangeSize_one]; split <;> omega
  show IsRangeIter _ _ (lo + ((0:Nat):Int) * 1) ((((hi - lo).toNat:Nat):Int) - ((0:Nat):Int)) 1
  rw [e1,e2]
  exact Heap.get?_push_size _ rfl
 ·have e:b = (s.heap.push { cls:=.type "range",data:=.fields #[.int lo t,.int hi u,.int 1 v] }).objs.size:=by simpa using hb
  subst e
  exact I1.vt (Nat.le_refl _) (I1.bz.fresh (Nat.le_refl _))
def Cy (ta:TA):TI:=fun σ H R=>ta σ H fun vs H1=>∃ j:Int,vs = [.int j]∧-(2 ^ 62)≤j∧j < 2 ^ 62∧R (we 0 j.toNat) H1
def Cw (ta:TA):TI:=fun σ H R=>ta σ H fun vs H1=>∃ i j:Int,vs = [.int i,.int j]∧(-(2 ^ 62)≤i∧i < 2 ^ 62∧-(2 ^ 62)≤j∧j < 2 ^ 62)∧R (we i (j - i).toNat) H1
theorem bA {a:Expr} {ta:TA} {p pos:Pos} (hg:Gl X "range") (hm:X.mg "range" = none) (ha:PA X [a] ta) (hs:starEach [a] X.env = [(false,eval a X.env)]:=by rfl):PI X tg (.Call (.Name "range" p) [a] [] pos) (Cy ta):=by
 intro pins s σ H R I h
 refine Call_ (fJ I hg hm boot_range (PyProof.Rows.callWith_type1 (b5 (ha pos pins s σ H _ I h) fun us s1 ⟨vs,H1,I1,r1,q1⟩=>?_) hs rfl))
 obtain ⟨j,e,q1,q2,q⟩:=q1
 subst e
 cases r1 with
 | cons r rr=>
  cases rr
  obtain ⟨t,rfl⟩:=r
  exact call_range_1 (nU I1 (by omega) (by omega) q1 q2 (by simpa using q))
theorem sI {a b:Expr} {ta:TA} {p pos:Pos} (hg:Gl X "range") (hm:X.mg "range" = none) (ha:PA X [a,b] ta) (hs:starEach [a,b] X.env = [(false,eval a X.env),(false,eval b X.env)]:=by rfl) (yA:starEach [b] X.env = [(false,eval b X.env)]:=by rfl) :
  PI X tg (.Call (.Name "range" p) [a,b] [] pos) (Cw ta):=by
 intro pins s σ H R I h
 refine Call_ (fJ I hg hm boot_range (PyProof.Rows.callWith_type1 (b5 (ha pos pins s σ H _ I h) fun us s1 ⟨vs,H1,I1,r1,q1⟩=>?_) (by rw [hs,yA]) (by rw [yA]; rfl)))
 obtain ⟨i,j,e,⟨q1,q2,q3,q4⟩,q⟩:=q1
 subst e
 cases r1 with
 | cons r rr=>
  cases rr with
  | cons r' rr=>
   cases rr
   obtain ⟨t,rfl⟩:=r
   obtain ⟨t',rfl⟩:=r'
   exact call_range_2 (nU I1 q1 q2 q3 q4 q)
def BK (wi:TI) (g:TG) (tb:TS):TS:=fun D σ H=>wi σ H fun J H1=>∃ W:Nat→Nat→St→Hp→Prop,(∃ m,W 0 m σ H1)∧∀ i m σ H,W i m σ H→
 (J.stop i H∧D.nx σ H)∨(J.go i H∧∃ N:St→Hp→Prop,(∀ σ' H',N σ' H'→∃ m',m' < m∧W (i + 1) m' σ' H')∧∀ x H',J.tV i H x H'→g x σ H' fun σ2 H2=>tb { D with nx:=N,ct:=N,bk:=D.nx } σ2 H2)
def jw (fp:List Addr) (h:Heap):List (Addr×Obj):=fp.filterMap fun b=>(h.get? b).map fun o=>(b,o)
theorem eT {fp:List Addr} {h:Heap} {b:Addr} {o:Obj} (hb:b∈fp) (e:h.get? b = some o):(b,o)∈jw fp h:=List.mem_filterMap.mpr ⟨b,hb,by rw [e]; rfl⟩
theorem sJ {fp:List Addr} {h:Heap} {p:Addr×Obj} (hp:p∈jw fp h):p.1∈fp∧h.get? p.1 = some p.2:=by
 obtain ⟨b,hb,e⟩:=List.mem_filterMap.mp hp
 cases q:h.get? b with
 | none=>rw [q] at e; cases e
 | some o=>
  rw [q] at e
  have e':(b,o) = p:=Option.some.inj e
  subst e'
  exact ⟨hb,q⟩
theorem Inv.pinned {pins:List (Addr×Obj)} {σ : St} {H:Hp} {s:Shared} {fp:List Addr} (I:Inv X pins σ H s) (hf:∀ b∈fp,kH X pins H b) (ho:∀ b∈fp,∃ o,s.heap.get? b = some o∧∀ v,o.data≠.cell v):Inv X (pins ++ jw fp s.heap) σ H s:=
 I.rh fun p hp=>(List.mem_append.mp hp).elim (fun z=>I.pin p (List.mem_append_right _ z)) fun z=>by
  obtain ⟨hb,e⟩:=sJ z
  obtain ⟨f0,f1,f2,_⟩:=hf p.1 hb
  obtain ⟨o,e',d⟩:=ho p.1 hb
  rw [e] at e'; cases e'
  exact ⟨e,f0,f1,f2,d⟩
theorem Inv.gL {pins pl:List (Addr×Obj)} {σ : St} {H:Hp} {s:Shared} (I:Inv X (pins ++ pl) σ H s):Inv X pins σ H s:=I.rh fun p hp=>I.pin p (List.mem_append_right _ (List.mem_append_left _ hp))
theorem bV {iter:Expr} {body:List Stmt} {wi:TI} {g:TG} {tb:TS} {pos:Pos} (hp:PassesOwn (model X.prog X.w) X.A X.env X.xe) (hc:X.calm = true) (hi:PI X tg iter wi) (hg:PG X tg g) (hb:sf X body tb)
  (hs:∀ x,foldedSetIterable iter X.env x = pure x:=by intro _; rfl):PS X (.For tg iter body [] pos) (BK wi g tb):=by
 intro pins s σ H D I h
 refine wpAny_For (b5 (hi pins s σ H _ I h) fun v s1 h1=>b5 h1 fun Hh s2 h2=>?_) hs
 obtain ⟨it,fp,tn,J,H2,e,I2,T,Mn,f2,W,⟨m0,w0⟩,turn⟩:=h2
 subst e
 -- E4 stays true of tZ iterator's objects through tZ loop
 have y9:∀ {H':Hp},(∀ b∈fp,H' b = none)→∀ b∈fp,kH X pins H' b:=fun hn b hb=>⟨hn b hb,(f2 b hb).2⟩
 refine codeAny_forLoop_any (fun n s'=>∃ i σ' H',Inv X pins σ' H' s'∧tn i s'.heap∧(∀ b∈fp,H' b = none)∧W i n σ' H') ?_ m0 ⟨0,σ,H2,I2,Mn,fun b hb=>(f2 b hb).1,w0⟩
 rintro n s3 ⟨i,σ3,H3,I3,JU,tT,w3⟩
 rcases turn i n σ3 H3 w3 with ⟨stop,qn⟩ | ⟨go,N,hN,step⟩
 ·refine wpAny_passesOwn hp (b5 (T.done X rfl rfl rfl hc i pins s3 σ3 H3 X.xe I3 (y9 tT) JU stop) fun r s4 ⟨hr,I4⟩=>?_)
  subst hr
  exact wpAny_execs_nil ⟨σ3,H3,I4,qn⟩
 ·refine wpAny_passesOwn hp (b5 (T.item X rfl rfl rfl hc i pins s3 σ3 H3 X.xe I3 (y9 tT) JU go) fun r s4 ⟨u,hr,h4⟩=>?_)
  subst hr
  refine wpAny_passesOwn hp (b5 h4 fun _ s5 ⟨x,H5,I5,r5,y5,Ft,Py⟩=>?_)
  have QQ:=I5.pinned (y9 Py) (T.obj _ _ Ft)
  refine wpAny_passesOwn hp (b5 (hg _ s5 σ3 H5 x u _ QQ r5 (step x H5 y5)) fun _ s6 ⟨σ6,H6,I6,q6⟩=>?_)
  refine wpAny_passesOwn hp (b5 (hb _ s6 σ6 H6 _ I6 q6) fun f s7 q7=>?_)
  have again:∀ {σ7:St} {H7:Hp},Inv X (pins ++ jw fp s5.heap) σ7 H7 s7→N σ7 H7→∃ m,m < n∧∃ i σ' H',Inv X pins σ' H' s7∧tn i s7.heap∧(∀ b∈fp,H' b = none)∧W i m σ' H':=fun {σ7 H7} I7 n7=>by
   obtain ⟨m',hm,w7⟩:=hN σ7 H7 n7
   refine ⟨m',hm,i + 1,σ7,H7,I7.gL,T.keep _ _ _ Ft fun b hb o e=>(I7.pin (b,o) (List.mem_append_right _ (List.mem_append_right _ (eT hb e)))).1,fun b hb=>?_,w7⟩
   obtain ⟨o,e,d⟩:=T.obj _ _ Ft b hb
   exact (I7.pin (b,o) (List.mem_append_right _ (List.mem_append_right _ (eT hb e)))).2.1
  cases f with
  | next=>obtain ⟨σ7,H7,I7,n7⟩:=q7; exact again I7 n7
  | cont=>obtain ⟨σ7,H7,I7,n7⟩:=q7; exact again I7 n7
  | brk=>obtain ⟨σ7,H7,I7,q7⟩:=q7; exact ⟨σ7,H7,I7.gL,q7⟩
  | ret v=>obtain ⟨x7,σ7,H7,I7,r7,q7⟩:=q7; exact ⟨x7,σ7,H7,I7.gL,r7,q7⟩
end
theorem fM {K:PySem.W.Frag} {a:Addr} {xs:List V} {g:TG} {tb:TS} {D:Ends} {σ : St} {H:Hp} (Pv:Nat→St→Hp→Prop) (h0:Pv 0 σ H) (hl:∀ i σ H,i≤xs.length→Pv i σ H→aG K H a xs)
  (hs:∀ i x σ H,xs[i]? = some x→Pv i σ H→g x σ H fun σ2 H2=>tb { D with nx:=Pv (i + 1),ct:=Pv (i + 1),bk:=D.nx } σ2 H2) (hd:∀ σ H,Pv xs.length σ H→D.nx σ H) :
  ∃ W:Nat→Nat→St→Hp→Prop,(∃ m,W 0 m σ H)∧∀ i m σ H,W i m σ H→
   ((xT K a).stop i H∧D.nx σ H)∨((xT K a).go i H∧∃ N:St→Hp→Prop,(∀ σ' H',N σ' H'→∃ m',m' < m∧W (i + 1) m' σ' H')∧∀ x H',(xT K a).tV i H x H'→g x σ H' fun σ2 H2=>tb { D with nx:=N,ct:=N,bk:=D.nx } σ2 H2):=by
 refine ⟨fun i m σ H=>m = xs.length - i∧i≤xs.length∧Pv i σ H,⟨xs.length,by simp,Nat.zero_le _,h0⟩,?_⟩
 rintro i m σ H ⟨rfl,hi,p⟩
 have q:=hl i σ H hi p
 by_cases dD:i < xs.length
 ·refine .inr ⟨⟨xs,xs[i],q,by simp [dD]⟩,Pv (i + 1),fun σ' H' p'=>⟨xs.length - (i + 1),by omega,rfl,dD,p'⟩,fun x H' y=>?_⟩
  obtain ⟨e,y⟩:=y
  subst e
  exact hs i x σ _ (y xs q) p
 ·have e:i = xs.length:=by omega
  subst e
  exact .inl ⟨⟨xs,q,Nat.le_refl _⟩,hd σ H p⟩
theorem bB {lo:Int} {n:Nat} {g:TG} {tb:TS} {D:Ends} {σ : St} {H:Hp} (Pv:Nat→St→Hp→Prop) (h0:Pv 0 σ H)
  (hs:∀ i σ H,i < n→Pv i σ H→g (.int (lo + i)) σ H fun σ2 H2=>tb { D with nx:=Pv (i + 1),ct:=Pv (i + 1),bk:=D.nx } σ2 H2) (hd:∀ σ H,Pv n σ H→D.nx σ H) :
  ∃ W:Nat→Nat→St→Hp→Prop,(∃ m,W 0 m σ H)∧∀ i m σ H,W i m σ H→
   ((we lo n).stop i H∧D.nx σ H)∨((we lo n).go i H∧∃ N:St→Hp→Prop,(∀ σ' H',N σ' H'→∃ m',m' < m∧W (i + 1) m' σ' H')∧∀ x H',(we lo n).tV i H x H'→g x σ H' fun σ2 H2=>tb { D with nx:=N,ct:=N,bk:=D.nx } σ2 H2):=by
 refine ⟨fun i m σ H=>m = n - i∧i≤n∧Pv i σ H,⟨n,by simp,Nat.zero_le _,h0⟩,?_⟩
 rintro i m σ H ⟨rfl,hi,p⟩
 by_cases dD:i < n
 ·refine .inr ⟨dD,Pv (i + 1),fun σ' H' p'=>⟨n - (i + 1),by omega,rfl,dD,p'⟩,fun x H' y=>?_⟩
  obtain ⟨e,y⟩:=y
  subst e y
  exact hs i σ _ dD p
 ·have e:i = n:=by omega
  subst e
  exact .inl ⟨Nat.le_refl _,hd σ H p⟩
end L2
namespace L2
open PySem PySem.Spec PyProof.Rows
abbrev R2:=V→V→Hp→VK→Prop
def iT (X:Cx) (f:Value→Value→Sem Value) (r:R2):Prop:=
 ∀ (pins:List (Addr×Obj)) (s:Shared) (σ : St) (H:Hp) (x y:V) (v u:Value) (Q:VK),Inv X pins σ H s→RelV x v→RelV y u→r x y H Q→
  wpAny (model X.prog X.w) X.A (f v u) (EP X pins σ Q) X.xe s
def Jw (X:Cx) (f:Value→Sem Value) (r:V→Hp→VK→Prop):Prop:=
 ∀ (pins:List (Addr×Obj)) (s:Shared) (σ : St) (H:Hp) (x:V) (v:Value) (Q:VK),Inv X pins σ H s→RelV x v→r x H Q→
  wpAny (model X.prog X.w) X.A (f v) (EP X pins σ Q) X.xe s
def eE (X:Cx) (f:Value) (r:List V→Hp→VK→Prop):Prop:=
 ∀ (pins:List (Addr×Obj)) (s:Shared) (σ : St) (H:Hp) (xs:List V) (us:List Value) (Q:VK),Inv X pins σ H s→Vals xs us→r xs H Q→
  wpAny (model X.prog X.w) X.A (call f us) (EP X pins σ Q) X.xe s
def QB (X:Cx) (r:V→Hp→(Bool→Hp→Prop)→Prop):Prop:=
 ∀ (pins:List (Addr×Obj)) (s:Shared) (σ : St) (H:Hp) (x:V) (v:Value) (Q:Bool→Hp→Prop),Inv X pins σ H s→RelV x v→r x H Q→
  wpAny (model X.prog X.w) X.A (truthy v) (TP X pins σ Q) X.xe s
def BD (r:R2) (ta tb:TE):TE:=fun σ H Q=>ta σ H fun x H1=>tb σ H1 fun y H2=>r x y H2 Q
def JL (r:V→Hp→VK→Prop) (ta:TE):TE:=fun σ H Q=>ta σ H fun x H1=>r x H1 Q
def rI (C:Int→Int→Prop) (g:Int→Int→V):R2:=fun x y H Q=>∃ i j,x = .int i∧y = .int j∧C i j∧Q (g i j) H
def yq (g:Int→Int→V):R2:=fun x y H Q=>∃ i j,x = .int i∧y = .int j∧Q (g i j) H
def rU (g:Int→V):V→Hp→VK→Prop:=fun x H Q=>∃ i,x = .int i∧Q (g i) H
section
variable {X:Cx} {a b c:Expr} {ta tb tc:TE} {pos:Pos}
theorem AR (ha:PE X a ta) (hb:PE X b tb) {pins:List (Addr×Obj)} {s:Shared} {σ : St} {H:Hp} {R:V→V→Hp→Prop} (I:Inv X pins σ H s)
  (h:ta σ H fun x H1=>tb σ H1 fun y H2=>R x y H2) {Q:Value→Shared→Prop} {f:Value→Value→Sem Value}
  (hf:∀ v u s2 x y H2,Inv X pins σ H2 s2→RelV x v→RelV y u→R x y H2→wpAny (model X.prog X.w) X.A (f v u) Q X.xe s2) :
  wpAny (model X.prog X.w) X.A (eval a X.env) (fun v s₁=>wpAny (model X.prog X.w) X.A (eval b X.env) (fun u s₂=>wpAny (model X.prog X.w) X.A (f v u) Q X.xe s₂) X.xe s₁) X.xe s:=by
 refine b5 (ha pins s σ H _ I h) fun v s1 ⟨x,H1,I1,r1,q1⟩=>?_
 refine b5 (hb pins s1 σ H1 _ I1 q1) fun u s2 ⟨y,H2,I2,r2,q2⟩=>?_
 exact hf v u s2 x y H2 I2 r1 r2 q2
theorem aC {op:Operator} {r:R2} (ho:iT X (binaryOp op) r) (ha:PE X a ta) (hb:PE X b tb):PE X (.BinOp a op b pos) (BD r ta tb):=by
 intro pins s σ H Q I h
 exact wpAny_BinOp (AR ha hb I h fun v u s2 x y H2 I2 rx ry q=>ho pins s2 σ H2 x y v u Q I2 rx ry q)
theorem kU {op:UnaryOp} {r:V→Hp→VK→Prop} (ho:Jw X (unaryOp op) r) (ha:PE X a ta):PE X (.UnaryOp op a pos) (JL r ta):=by
 intro pins s σ H Q I h
 exact UnaryOp_ (b5 (ha pins s σ H _ I h) fun v s1 ⟨x,H1,I1,r1,q1⟩=>ho pins s1 σ H1 x v Q I1 r1 q1)
theorem Ed {f:Value→Value→Sem Value} {C:Int→Int→Prop} {g:Int→Int→Int}
  (rule:∀ (i j:Int) (t u:Tok) (s:Shared) (Q:Value→Shared→Prop) (E:Value→Shared→Prop),C i j→Q (.int (g i j) s.toks) { s with toks:=s.toks + 1 }→wpAny (model X.prog X.w) X.A (f (.int i t) (.int j u)) Q E s) :
  iT X f (rI C fun i j=>.int (g i j)):=by
 intro pins s σ H x y v u Q I rx ry h
 obtain ⟨i,j,rfl,rfl,hc,q⟩:=h
 obtain ⟨t,rfl⟩:=rx
 obtain ⟨t',rfl⟩:=ry
 exact rule i j t t' s _ _ hc ⟨.int (g i j),H,I.tok _,⟨_,rfl⟩,q⟩
theorem Cf {f:Value→Value→Sem Value} {g:Int→Int→Int}
  (rule:∀ (i j:Int) (t u:Tok) (s:Shared) (Q:Value→Shared→Prop) (E:Value→Shared→Prop),Q (.int (g i j) s.toks) { s with toks:=s.toks + 1 }→wpAny (model X.prog X.w) X.A (f (.int i t) (.int j u)) Q E s) :
  iT X f (yq fun i j=>.int (g i j)):=by
 intro pins s σ H x y v u Q I rx ry h
 obtain ⟨i,j,rfl,rfl,q⟩:=h
 obtain ⟨t,rfl⟩:=rx
 obtain ⟨t',rfl⟩:=ry
 exact rule i j t t' s _ _ ⟨.int (g i j),H,I.tok _,⟨_,rfl⟩,q⟩
theorem zK {f:Value→Value→Sem Value} {g:Int→Int→Bool}
  (rule:∀ (i j:Int) (t u:Tok) (s:Shared) (Q:Value→Shared→Prop) (E:Value→Shared→Prop),Q (.bool (g i j)) s→wpAny (model X.prog X.w) X.A (f (.int i t) (.int j u)) Q E s) :
  iT X f (yq fun i j=>.bl (g i j)):=by
 intro pins s σ H x y v u Q I rx ry h
 obtain ⟨i,j,rfl,rfl,q⟩:=h
 obtain ⟨t,rfl⟩:=rx
 obtain ⟨t',rfl⟩:=ry
 exact rule i j t t' s _ _ ⟨.bl (g i j),H,I,rfl,q⟩
def Q8 (i j:Int):Prop:=0 < j∧j < 1073741824
def LO (i j:Int):Prop:=j≠0∧j.natAbs < 1073741824
def JC (i j:Int):Prop:=0≤j∧j≤1000000∧i.natAbs < 2 ^ 64
def Q7 (i j:Int):Prop:=(-(2 ^ 64) < i∧i < 2 ^ 64)∨(-(2 ^ 64) < j∧j < 2 ^ 64)
theorem b7:iT X (binaryOp .Add) (yq fun i j=>.int (i + j)):=Cf fun _ _ _ _ _ _ _ q=>add_int q
theorem gC:iT X (binaryOp .Sub) (yq fun i j=>.int (i - j)):=Cf fun _ _ _ _ _ _ _ q=>sub_int q
theorem bw:iT X (binaryOp .Mod) (rI (fun _ j=>0 < j) fun i j=>.int (i % j)):=Ed fun i j _ _ _ _ _ hc q=>by
 have h1:(0:Int) < j:=hc
 exact mod_int' (by omega) (by rw [Int.fmod_eq_emod_of_nonneg i (by omega)]; exact q)
theorem pQ:iT X (binaryOp .Pow) (rI JC fun i j=>.int (i ^ j.toNat)):=Ed fun _ _ _ _ _ _ _ hc q=>pow_int_small hc.1 hc.2.1 hc.2.2 q
theorem LS {f:Value→Sem Value} {g:Int→Int}
  (rule:∀ (i:Int) (t:Tok) (s:Shared) (Q:Value→Shared→Prop) (E:Value→Shared→Prop),Q (.int (g i) s.toks) { s with toks:=s.toks + 1 }→wpAny (model X.prog X.w) X.A (f (.int i t)) Q E s) :
  Jw X f (rU fun i=>.int (g i)):=by
 intro pins s σ H x v Q I rx h
 obtain ⟨i,rfl,q⟩:=h
 obtain ⟨t,rfl⟩:=rx
 exact rule i t s _ _ ⟨.int (g i),H,I.tok _,⟨_,rfl⟩,q⟩
theorem ie:Jw X (unaryOp .USub) (rU fun i=>.int (-i)):=LS fun _ _ _ _ _ q=>neg_int q
end
def BU:V→V→Bool
 | .bY,.bY=>true | .bY,.int _=>true | .int _,.bY=>true | .bY,.bl _=>true | .bl _,.bY=>true | .bY,.str _=>true | .str _,.bY=>true
 | .int _,.int _=>true | .bl _,.bl _=>true | .str _,.str _=>true | .qi _,.qi _=>true
 | .int _,.str _=>true | .str _,.int _=>true | .bl _,.str _=>true | .str _,.bl _=>true
 | _,_=>false
def FV:R2:=fun x y H Q=>BU x y = true∧Q (.bl (decide (x = y))) H
def J1:R2:=fun x y H Q=>BU x y = true∧Q (.bl (!decide (x = y))) H
theorem i7 {i j:Int}:decide (V.int i = V.int j) = (i == j):=by
 rw [Bool.eq_iff_iff]
 simp
theorem vC {i j:Bool}:decide (V.bl i = V.bl j) = (i == j):=by
 rw [Bool.eq_iff_iff]
 simp
theorem m9 {i j:Str}:decide (V.str i = V.str j) = (i == j):=by
 rw [Bool.eq_iff_iff]
 simp
theorem rR {i j:Array UInt8}:decide (V.qi i = V.qi j) = (i.toList == j.toList):=by
 rw [Bool.eq_iff_iff]
 cases i
 cases j
 simp
section
variable {X:Cx} {a b c:Expr} {ta tb tc:TE} {pos:Pos}
theorem aY {pins:List (Addr×Obj)} {σ : St} {H:Hp} {s:Shared} {Q:VK} {k k':Bool} (I:Inv X pins σ H s) (q:Q (.bl k) H) (e:k = k'):EP X pins σ Q (.bool k') s:=by
 subst e
 exact ⟨.bl k,H,I,rfl,q⟩
theorem gU:iT X (compareOp .Eq) FV:=by
 intro pins s σ H x y v u Q I rx ry h
 obtain ⟨hs,q⟩:=h
 cases x with
 | bY=>
  cases rx
  cases y with
  | bY=>cases ry; exact PySem.EqNone.eq_none_none (aY I q (by simp))
  | bl j=>cases ry; exact PySem.EqNone.eq_none_bool (aY I q (by simp))
  | int j=>obtain ⟨t',rfl⟩:=ry; exact PySem.EqNone.eq_none_int (aY I q (by simp))
  | str j=>obtain ⟨t',rfl⟩:=ry; exact PySem.EqNone.eq_none_str (aY I q (by simp))
  | _=>exact absurd (show false = true from hs) Bool.false_ne_true
 | bl i=>
  cases rx
  cases y with
  | bY=>cases ry; exact PySem.EqNone.eq_bool_none (aY I q (by simp))
  | bl j=>cases ry; exact eq_bool (aY I q vC)
  | str j=>obtain ⟨t',rfl⟩:=ry; exact PySem.EqMixed.eq_bool_str (aY I q (by simp))
  | _=>exact absurd (show false = true from hs) Bool.false_ne_true
 | int i=>
  obtain ⟨t,rfl⟩:=rx
  cases y with
  | bY=>cases ry; exact PySem.EqNone.eq_int_none (aY I q (by simp))
  | int j=>obtain ⟨t',rfl⟩:=ry; exact eq_int (aY I q i7)
  | str j=>obtain ⟨t',rfl⟩:=ry; exact PySem.EqMixed.eq_int_str (aY I q (by simp))
  | _=>exact absurd (show false = true from hs) Bool.false_ne_true
 | str i=>
  obtain ⟨t,rfl⟩:=rx
  cases y with
  | bY=>cases ry; exact PySem.EqNone.eq_str_none (aY I q (by simp))
  | bl j=>cases ry; exact PySem.EqMixed.eq_str_bool (aY I q (by simp))
  | int j=>obtain ⟨t',rfl⟩:=ry; exact PySem.EqMixed.eq_str_int (aY I q (by simp))
  | str j=>obtain ⟨t',rfl⟩:=ry; exact eq_str (aY I q m9)
  | _=>exact absurd (show false = true from hs) Bool.false_ne_true
 | qi i=>
  obtain ⟨t,rfl⟩:=rx
  cases y with
  | qi j=>obtain ⟨t',rfl⟩:=ry; exact PySem.W.eq_bytes (aY I q rR)
  | _=>exact absurd (show false = true from hs) Bool.false_ne_true
 | _=>cases y <;> exact absurd (show false = true from hs) Bool.false_ne_true
theorem iL:iT X (compareOp .NotEq) J1:=by
 intro pins s σ H x y v u Q I rx ry h
 obtain ⟨hs,q⟩:=h
 cases x with
 | bY=>
  cases rx
  cases y with
  | bY=>cases ry; exact PySem.EqNone.ne_none_none (aY I q (by simp))
  | bl j=>cases ry; exact PySem.EqNone.ne_none_bool (aY I q (by simp))
  | int j=>obtain ⟨t',rfl⟩:=ry; exact PySem.EqNone.ne_none_int (aY I q (by simp))
  | str j=>obtain ⟨t',rfl⟩:=ry; exact PySem.EqNone.ne_none_str (aY I q (by simp))
  | _=>exact absurd (show false = true from hs) Bool.false_ne_true
 | bl i=>
  cases rx
  cases y with
  | bY=>cases ry; exact PySem.EqNone.ne_bool_none (aY I q (by simp))
  | bl j=>cases ry; exact ne_bool (aY I q (congrArg not vC))
  | str j=>obtain ⟨t',rfl⟩:=ry; exact PySem.EqMixed.ne_bool_str (aY I q (by simp))
  | _=>exact absurd (show false = true from hs) Bool.false_ne_true
 | int i=>
  obtain ⟨t,rfl⟩:=rx
  cases y with
  | bY=>cases ry; exact PySem.EqNone.ne_int_none (aY I q (by simp))
  | int j=>obtain ⟨t',rfl⟩:=ry; exact ne_int (aY I q (congrArg not i7))
  | str j=>obtain ⟨t',rfl⟩:=ry; exact PySem.EqMixed.ne_int_str (aY I q (by simp))
  | _=>exact absurd (show false = true from hs) Bool.false_ne_true
 | str i=>
  obtain ⟨t,rfl⟩:=rx
  cases y with
  | bY=>cases ry; exact PySem.EqNone.ne_str_none (aY I q (by simp))
  | bl j=>cases ry; exact PySem.EqMixed.ne_str_bool (aY I q (by simp))
  | int j=>obtain ⟨t',rfl⟩:=ry; exact PySem.EqMixed.ne_str_int (aY I q (by simp))
  | str j=>obtain ⟨t',rfl⟩:=ry; exact ne_str (aY I q (congrArg not m9))
  | _=>exact absurd (show false = true from hs) Bool.false_ne_true
 | qi i=>
  obtain ⟨t,rfl⟩:=rx
  cases y with
  | qi j=>obtain ⟨t',rfl⟩:=ry; exact PySem.W.ne_bytes (aY I q (congrArg not rR))
  | _=>exact absurd (show false = true from hs) Bool.false_ne_true
 | _=>cases y <;> exact absurd (show false = true from hs) Bool.false_ne_true
theorem jz:iT X (compareOp .Lt) (yq fun i j=>.bl (decide (i < j))):=zK fun _ _ _ _ _ _ _ q=>lt_int q
theorem n9:iT X (compareOp .Gt) (yq fun i j=>.bl (decide (j < i))):=zK fun _ _ _ _ _ _ _ q=>gt_int q
theorem yy:iT X (compareOp .GtE) (yq fun i j=>.bl (decide (j≤i))):=zK fun _ _ _ _ _ _ _ q=>ge_int q
def isObj:HO→Bool
 | .lst _=>true
 | .ins _ _ _=>true
 | _=>false
theorem aT (b:Expr) {op:CmpOp} (h:op≠.In:=by decide) (h2:op≠.NotIn:=by decide):behindInMarks op b = false:=by
 have e1:(op == CmpOp.In) = false:=by cases op <;> first | rfl | exact absurd rfl h
 have e2:(op == CmpOp.NotIn) = false:=by cases op <;> first | rfl | exact absurd rfl h2
 cases b <;> simp [behindInMarks,e1,e2]
theorem gT {op:CmpOp} {r:R2} (ho:iT X (compareOp op) r) (ha:PE X a ta) (hb:PE X b tb) (hm:behindInMarks op b = false):PE X (.Compare a [op] [b] pos) (BD r ta tb):=by
 intro pins s σ H Q I h
 exact wpAny_Compare1 (AR ha hb I h fun v u s2 x y H2 I2 rx ry q=>ho pins s2 σ H2 x y v u Q I2 rx ry q) hm
def x5 (t:TE):TT:=fun σ H Q=>t σ H fun x H'=>∃ k,x = .bl k∧Q k H'
theorem aB {op:CmpOp} {r:R2} (ho:iT X (compareOp op) r) (ha:PE X a ta) (hb:PE X b tb) (hm:behindInMarks op b = false):PT X (.Compare a [op] [b] pos) (x5 (BD r ta tb)):=by
 intro pins s σ H Q I h
 refine wpAny_isTrue_Compare1 (b5 (ha pins s σ H _ I h) fun v s1 ⟨x,H1,I1,r1,q1⟩=>b5 (hb pins s1 σ H1 _ I1 q1) fun u s2 ⟨y,H2,I2,r2,q2⟩=>
  b5 (ho pins s2 σ H2 x y v u _ I2 r1 r2 q2) fun c s3 ⟨z,H3,I3,r3,k,e,q3⟩=>?_) hm
 subst e
 cases r3
 exact wpAny_truthy_bool ⟨H3,I3,q3⟩
def Fp (r r':R2) (ta tb tc:TE):TE:=fun σ H Q=>ta σ H fun x H1=>tb σ H1 fun y H2=>r x y H2 fun z H3=>∃ k,z = .bl k∧
 (if k = true then tc σ H3 fun w' H4=>r' y w' H4 Q else Q (.bl false) H3)
def QA (K:PySem.W.Frag) (x:V) (H:Hp) (k:Bool):Prop:=
 match x with
 | .bY=>k = false
 | .bl b=>k = b
 | .int i=>k = (i != 0)
 | .str y=>y.length≤sizeLine∧k = ((y.length:Int) != 0)
 | .qi y=>y.size≤sizeLine∧k = ((y.size:Int) != 0)
 | .ref p=>(∃ xs,aG K H p xs∧k = !xs.isEmpty)∨(∃ xs,SqT K H p xs∧k = !xs.isEmpty)∨∃ au,H p = some (.dK au)∧k = !au.isEmpty
 | _=>False
theorem jE:(sizeLine:Nat) < 2 ^ 63:=by rw [sizeLine_eq]; decide
def Dz (b:Expr):Prop:=∀ o i,subscripted b false o i = operate [o,i] (getItem o i)
theorem vals1 {x:V} {us:List Value} (r:Vals [x] us):∃ u,us = [u]∧RelV x u:=by
 cases r with
 | cons r1 r2=>cases r2; exact ⟨_,rfl,r1⟩
theorem vals2 {x y:V} {us:List Value} (r:Vals [x,y] us):∃ u w',us = [u,w']∧RelV x u∧RelV y w':=by
 cases r with
 | cons r1 r2=>
  cases r2 with
  | cons r3 r4=>cases r4; exact ⟨_,_,rfl,r1,r3⟩
theorem lK (hc:X.calm = true):eE X (.builtin "max") (fun xs H Q=>∃ i j,xs = [.int i,.int j]∧Q (.int (if j > i then j else i)) H):=by
 intro pins s σ H xs us Q I r h
 obtain ⟨i,j,rfl,q⟩:=h
 obtain ⟨u,w',rfl,⟨t,rfl⟩,⟨t',rfl⟩⟩:=vals2 r
 refine max_two_ints (I.ok.hd hc) fun h' tk k=>⟨_,H,I.kept k,?_,q⟩
 by_cases hj:j > i
 ·rw [if_pos hj,if_pos hj]; exact ⟨_,rfl⟩
 ·rw [if_neg hj,if_neg hj]; exact ⟨_,rfl⟩
theorem iD (hc:X.calm = true):eE X (.builtin "min") (fun xs H Q=>∃ i j,xs = [.int i,.int j]∧Q (.int (if j < i then j else i)) H):=by
 intro pins s σ H xs us Q I r h
 obtain ⟨i,j,rfl,q⟩:=h
 obtain ⟨u,w',rfl,⟨t,rfl⟩,⟨t',rfl⟩⟩:=vals2 r
 refine min_two_ints (I.ok.hd hc) fun h' tk k=>⟨_,H,I.kept k,?_,q⟩
 by_cases hj:j < i
 ·rw [if_pos hj,if_pos hj]; exact ⟨_,rfl⟩
 ·rw [if_neg hj,if_neg hj]; exact ⟨_,rfl⟩
theorem tJ:eE X (.type "int") (fun xs H Q=>(∃ i,xs = [.int i]∧Q (.int i) H)∨∃ k,xs = [.bl k]∧Q (.int (if k then 1 else 0)) H):=by
 intro pins s σ H xs us Q I r h
 rcases h with ⟨i,rfl,q⟩ | ⟨k,rfl,q⟩
 ·obtain ⟨u,rfl,t,rfl⟩:=vals1 r
  exact call_int_int ⟨.int i,H,I,⟨_,rfl⟩,q⟩
 ·obtain ⟨u,rfl,r1⟩:=vals1 r
  cases r1
  exact call_int_bool ⟨.int (if k then 1 else 0),H,I.tok _,⟨_,rfl⟩,q⟩
def DC (K:PySem.W.Frag) (x:V) (H:Hp) (n:Nat):Prop:=
 match x with
 | .str y=>y.length≤sizeLine∧n = y.length
 | .qi y=>y.size≤sizeLine∧n = y.size
 | .ref p=>(∃ xs,aG K H p xs∧n = xs.length)∨∃ xs,SqT K H p xs∧n = xs.length
 | _=>False
theorem aH:eE X (.builtin "len") (fun xs H Q=>∃ x n,xs = [x]∧DC X.K x H n∧Q (.int n) H):=by
 intro pins s σ H xs us Q I r h
 obtain ⟨x,n,rfl,e,q⟩:=h
 obtain ⟨u,rfl,rx⟩:=vals1 r
 have hl:=jE
 have hs:sizeLine = 16777216:=sizeLine_eq
 cases x with
 | str y=>
  obtain ⟨t,rfl⟩:=rx
  obtain ⟨hy,e'⟩:y.length≤sizeLine∧n = y.length:=e
  subst e'
  exact len_str (by omega) ⟨.int _,H,I.tok _,⟨_,rfl⟩,q⟩
 | qi y=>
  obtain ⟨t,rfl⟩:=rx
  obtain ⟨hy,e'⟩:y.size≤sizeLine∧n = y.size:=e
  subst e'
  exact PySem.W.len_bytes (by omega) ⟨.int _,H,I.tok _,⟨_,rfl⟩,q⟩
 | ref p=>
  cases rx
  have e':(∃ xs,aG X.K H p xs∧n = xs.length)∨∃ xs,SqT X.K H p xs∧n = xs.length:=e
  rcases e' with ⟨xs,hx,e'⟩ | ⟨xs,hx,e'⟩
  ·subst e'
   obtain ⟨aO,r',pl,hz⟩:=I.list hx
   have hlen:=r'.length
   exact Calls.call_len_list pl.isList (by simp only [List.size_toArray]; omega) ⟨.int xs.length,H,I.tok _,⟨_,by simp only [List.size_toArray]; rw [hlen]⟩,q⟩
  ·subst e'
   obtain ⟨aO,r',pl,hz⟩:=I.tuple hx
   have hlen:=r'.length
   exact len_tuple pl (by simp only [List.size_toArray]; omega) ⟨.int xs.length,H,I.tok _,⟨_,by simp only [List.size_toArray]; rw [hlen]⟩,q⟩
 | _=>exact (show False from e).elim
end
end L2
namespace L2
open PySem PySem.Spec PyProof.Rows
structure AY (h:Heap) (x dx C:Addr) (mA:Str→Option Value):Prop where
 obj:h.get? x = some (PySem.W.instObj C dx)
 ns:h.Ns1 dx mA
 ne:dx≠x
theorem sM {h:Heap} {dx:Addr} {mA:Str→Option Value} (n:h.Ns1 dx mA):∃ od,h.get? dx = some od∧∀ name,PySem.W.lookIn name od = some (mA name):=by
 obtain ⟨o,es,ep,ho,hd,hk,_,hm⟩:=n
 refine ⟨o,ho,fun name=>?_⟩
 have e:=hm name
 unfold nsFind findBy at e
 rw [← Array.find?_toList] at e
 unfold PySem.W.lookIn
 rw [hd]
 dsimp only
 split
 ·rename_i y q
  rw [q] at e
  exact congrArg some e
 ·rename_i q
  rw [q] at e
  have a:es.toList.any (·.refKey) = false:=by
   rw [List.any_eq_false]
   intro y hy
   obtain ⟨z,t,oC⟩:=hk y (Array.mem_toList_iff.mp hy)
   simp [DictEntry.refKey,oC]
  have a':¬ es.toList.any (·.refKey) = true:=by rw [a]; exact Bool.false_ne_true
  rw [if_neg a']
  exact congrArg some e
theorem AY.look {h:Heap} {x dx C:Addr} {mA:Str→Option Value} (I:AY h x dx C mA):∃ od,PySem.W.InstAt h x (PySem.W.instObj C dx) C (some od)∧∀ name,PySem.W.lookIn name od = some (mA name):=
 let ⟨od,ho,hl⟩:=sM I.ns
 ⟨od,⟨I.obj,rfl,rfl,ho⟩,hl⟩
def zA (f:Str) (v:V):List (Str×V)→List (Str×V)
 | []=>[(f,v)]
 | (g,x) :: r=>if g = f then (g,v) :: r else (g,x) :: zA f v r
theorem j5.some_of {v:V} {o:Option Value} (r:j5 (some v) o):∃ u,o = some u∧RelV v u:=by
 cases o with
 | none=>exact (show False from r).elim
 | some u=>exact ⟨u,rfl,r⟩
section
variable {P:Program} {w:World} {H H':Hp} {h h':Heap} {a C dx:Addr} {fs CY:List (Str×V)}
theorem xm (bz:gc P w H h) (e:H a = some (.ins C dx fs)):∃ mA,AY h a dx C mA∧(∀ f,j5 (fs.lookup f) (mA f))∧PySem.Within mA (fs.map (·.1))∧fs.length≤1000∧H dx = some (.own a):=by
 obtain ⟨d,z,ne,ob,mA,n,r,q⟩:=(show bh P w H h a (.ins C dx fs) from bz a _ e)
 exact ⟨mA,⟨ob,n,ne⟩,r,q,z,d⟩
end
structure A9 (K:PySem.W.Frag) (C:Addr):Prop where
 pg:PySem.W.plainGet K C Str.empty = true
 hd:PySem.W.hasDictIn K C = true
 po:PySem.W.plainOver K C = true
 sa:PySem.W.findIn K (.ref C) "__setattr__" = some (some (.builtin "object.__setattr__"))
theorem A9.get {K:PySem.W.Frag} {C:Addr} (c:A9 K C) (f:Str):PySem.W.plainGet K C f = true:=c.pg
def qu (K:PySem.W.Frag) (C:Addr) (f:Str):Prop:=PySem.W.findIn K (.ref C) f = some none
structure Q6 (K:PySem.W.Frag) (C:Addr) (f:Str) (v:V) (u:Value):Prop where
 at_:PySem.W.findIn K (.ref C) f = some (some u)
 rel:RelV v u
 get:PySem.W.specialIn K u "__get__" = some none
 cp:PySem.W.copiedNames.contains f = false
structure Meth (K:PySem.W.Frag) (C:Addr) (m:Str) (f:Addr):Prop where
 at_:PySem.W.findIn K (.ref C) m = some (some (.ref f))
 fn:PySem.W.isFn K (.ref f) = true
 kp:PySem.W.keepIn K (.ref f) = true
def Mb (K:PySem.W.Frag) (ta:TE) (f:Str):TE:=fun σ H Q=>ta σ H fun x H1=>∃ a C dx fs v,x = .ref a∧H1 a = some (.ins C dx fs)∧A9 K C∧qu K C f∧fs.lookup f = some v∧Q v H1
def Md (K:PySem.W.Frag) (ta:TE) (f:Str):TE:=fun σ H Q=>ta σ H fun x H1=>∃ a C dx fs v u,x = .ref a∧H1 a = some (.ins C dx fs)∧A9 K C∧Q6 K C f v u∧fs.lookup f = none∧Q v H1
def MC (K:PySem.W.Frag) (ta tv:TE) (f:Str):TS:=fun D σ H=>tv σ H fun y H1=>ta σ H1 fun x H2=>∃ a C dx fs,x = .ref a∧H2 a = some (.ins C dx fs)∧A9 K C∧qu K C f∧fs.length < 1000∧
 D.nx σ (upd H2 a (.ins C dx (zA f y fs)))
def QP (X:Cx) (op:Operator) (rd:V→V→Hp→VK→Prop):Prop:=
 ∀ (pins:List (Addr×Obj)) (s:Shared) (σ : St) (H:Hp) (x y:V) (u v:Value) (Q:VK),Inv X pins σ H s→RelV x u→RelV y v→rd x y H Q→wpAny (model X.prog X.w) X.A (inplaceOp op u v) (EP X pins σ Q) X.xe s
def DS (K:PySem.W.Frag) (ta tv:TE) (rd:V→V→Hp→VK→Prop) (f:Str):TS:=fun D σ H=>ta σ H fun x H1=>∃ a C dx fs v,x = .ref a∧H1 a = some (.ins C dx fs)∧A9 K C∧qu K C f∧fs.lookup f = some v∧
 tv σ H1 fun y H2=>rd v y H2 fun z H3=>∃ Ll CY,H3 a = some (.ins C Ll CY)∧CY.length < 1000∧D.nx σ (upd H3 a (.ins C Ll (zA f z CY)))
section
variable {X:Cx} {o e value:Expr} {f:Str} {pos pos' E6:Pos} {ta tv:TE}
def MU:V→V→Hp→VK→Prop:=fun x y H Q=>∃ i j,x = .int i∧y = .int j∧Q (.int (i + j)) H
def MI:V→V→Hp→VK→Prop:=fun x y H Q=>∃ i j,x = .int i∧y = .int j∧Q (.int (i - j)) H
end
section
variable {X:Cx} {pins:List (Addr×Obj)} {σ : St} {H:Hp} {s:Shared} {A:Around} {E:Value→Shared→Prop} {Q:Value→Shared→Prop} {c:Value} {b:Bool}
inductive hZ (K:PySem.W.Frag) (H:Hp):V→Value→Prop where
 | bY:hZ K H .bY (.type "NoneType")
 | bl (x:Bool):hZ K H (.bl x) (.type "bool")
 | int (i:Int):hZ K H (.int i) (.type "int")
 | str (x:Str):hZ K H (.str x) (.type "str")
 | vw (x:UInt64):hZ K H (.vw x) (.type "float")
 | lst {a:Addr} {xs:List V} (e:H a = some (.lst xs)):hZ K H (.ref a) (.type "list")
 | eF {a:Addr} {o:Obj} {xs:List V} (e:H a = some (.eF o (.lst xs))):hZ K H (.ref a) (.type "list")
 | tup {a:Addr} {xs:List V} (e:H a = some (.tup xs)):hZ K H (.ref a) (.type "tuple")
 | dK {a:Addr} {au:List (Key×V)} (e:H a = some (.dK au)):hZ K H (.ref a) (.type "dict")
 | dT {a:Addr} {au:List (List Key×V)} (e:H a = some (.dT au)):hZ K H (.ref a) (.type "dict")
 | ins {a C dx:Addr} {fs:List (Str×V)} (e:H a = some (.ins C dx fs)) (cl:A9 K C) (ha:PySem.W.findIn K (.ref C) "__class__" = some (some (.builtin "object.__class__")))
   (hn:PySem.W.specialIn K (.builtin "object.__class__") "__get__" = some (some (.builtin "getset_descriptor.__get__"))) (Hn:PySem.W.takesIn K (.builtin "object.__class__") = some true)
   (hm:PySem.W.mroIn K C (.type "object") = some true):hZ K H (.ref a) (.ref C)
theorem sP {x:V} {u t:Value} (I:Inv X pins σ H s) (rx:RelV x u) (ty:hZ X.K H x t) (e:PySem.W.kitOne X.K t c = some b) (h:∀ tk,Q (.bool b) { s with toks:=tk }) :
  wpAny (model X.prog X.w) A (call (.builtin "isinstance") [u,c]) Q E s:=by
 cases ty with
 | bY=>cases (show u = Value.none from rx); exact PySem.W.kia_one PySem.W.kitx_none I.oz True.intro e (fun z=>nomatch z) h
 | bl y=>cases (show u = Value.bool y from rx); exact PySem.W.kia_one PySem.W.kitx_bool I.oz True.intro e (fun z=>nomatch z) h
 | int i=>obtain ⟨t,q⟩:=(show ∃ t,u = Value.int i t from rx); cases q; exact PySem.W.kia_one PySem.W.kitx_int I.oz True.intro e (fun z=>nomatch z) h
 | str y=>obtain ⟨t,q⟩:=(show ∃ t,u = Value.str y t from rx); cases q; exact PySem.W.kia_one PySem.W.kitx_str I.oz True.intro e (fun z=>nomatch z) h
 | vw y=>obtain ⟨t,q⟩:=(show ∃ t,u = Value.float y t from rx); cases q; exact PySem.W.kia_one PySem.W.kitx_float I.oz True.intro e (fun z=>nomatch z) h
 | @lst a xs ea=>
  cases (show u = Value.ref a from rx)
  obtain ⟨_,_,n,_,h1⟩:=(show bh X.prog X.w H s.heap a (.lst xs) from I.bz a _ ea)
  exact PySem.W.kia_one PySem.W.kitx_list I.oz ⟨_,h1,rfl⟩ e (fun z=>nomatch z) h
 | @eF a ob xs ea=>
  cases (show u = Value.ref a from rx)
  obtain ⟨_,_,_,n,_,h1⟩:=(show bh X.prog X.w H s.heap a (.eF ob (.lst xs)) from I.bz a _ ea)
  exact PySem.W.kia_one PySem.W.kitx_list I.oz ⟨_,h1,rfl⟩ e (fun z=>nomatch z) h
 | @tup a xs ea=>
  cases (show u = Value.ref a from rx)
  obtain ⟨_,_,_,p⟩:=(show bh X.prog X.w H s.heap a (.tup xs) from I.bz a _ ea)
  obtain ⟨o,h1,h2,_⟩:=p
  exact PySem.W.kia_one PySem.W.kitx_tuple I.oz ⟨o,h1,h2⟩ e (fun z=>nomatch z) h
 | @dK a au ea=>
  cases (show u = Value.ref a from rx)
  obtain ⟨_,_,vs,_,p⟩:=(show bh X.prog X.w H s.heap a (.dK au) from I.bz a _ ea)
  obtain ⟨o,es,ep,h1,h2,_⟩:=p
  exact PySem.W.kia_one PySem.W.kitx_dict I.oz ⟨o,h1,h2.1⟩ e (fun z=>nomatch z) h
 | @dT a au ea=>
  cases (show u = Value.ref a from rx)
  obtain ⟨_,_,xs,_,o,es,ep,h1,h2,_⟩:=(show bh X.prog X.w H s.heap a (.dT au) from I.bz a _ ea)
  exact PySem.W.kia_one PySem.W.kitx_dict I.oz ⟨o,h1,h2.1⟩ e (fun z=>nomatch z) h
 | @ins a C dx fs ea cl ha hn Hn hm=>
  cases (show u = Value.ref a from rx)
  obtain ⟨mA,O,_⟩:=xm I.bz ea
  obtain ⟨od,J,_⟩:=O.look
  exact PySem.W.kia_one (PySem.W.kitx_own (cl.get _) cl.hd ha hn Hn hm) I.oz J e (fun z=>nomatch z) h
end
end L2
namespace L2
open PySem PySem.Spec PyProof.Rows
structure dI (k:Nat) (A:Around):Prop where
 hd:A.handled = none
 dp:A.depth + 3 * k + 5 < recursionLimit
 un:A.units + 16 * k + 200 < cLine
theorem dI.mono {j k:Nat} {A:Around} (r:dI k A) (h:j≤k):dI j A:=⟨r.hd,by have:=r.dp; omega,by have:=r.un; omega⟩
theorem dI.deeper {k:Nat} {A:Around} (r:dI (k + 1) A) (env:Env):dI k (A.deeper env):=
 ⟨r.hd,by have:=r.dp; show A.depth + 1 + 3 * k + 5 < _; omega,by have:=r.un; show A.units + 3 + 16 * k + 200 < _; omega⟩
theorem dI.depth {k:Nat} {A:Around} (r:dI k A):A.depth < recursionLimit:=by have:=r.dp; omega
theorem dI.units {k:Nat} {A:Around} (r:dI k A):A.units + 64 < cLine:=by have:=r.un; omega
theorem dI.yV {k:Nat} {A:Around} (r:dI k A):A.units < cLine:=by have:=r.un; omega
def y4:TA:=fun _ H Q=>Q [] H
def ug (ta:TE) (tr:TA):TA:=fun σ H Q=>ta σ H fun x H1=>tr σ H1 fun xs H2=>Q (x :: xs) H2
section
variable {X:Cx} {e:Expr} {es:List Expr} {te:TE} {t:TA} {pos:Pos}
theorem ag:PA X [] y4:=fun _ _ _ _ H Q I h=>Calls.spliced_nil ⟨[],H,I,.nil,h⟩
theorem aa (ha:PE X e te) (hr:PA X es t) (hs:starEach (e :: es) X.env = (false,eval e X.env) :: starEach es X.env:=by rfl):PA X (e :: es) (ug te t):=by
 intro pos pins s σ H Q I h
 rw [hs]
 show wpAny _ _ (spliced ((false,eval e X.env) :: backTo pos (starEach es X.env))) _ _ s
 refine Calls.spliced_cons (b5 (ha pins s σ H _ I h) fun u s1 ⟨x,H1,I1,r1,q1⟩=>?_)
 exact b5 (hr pos pins s1 σ H1 _ I1 q1) fun us s2 ⟨xs,H2,I2,r2,q2⟩=>⟨x :: xs,H2,I2,.cons r1 r2,q2⟩
def BA (t:TA):TE:=fun σ H Q=>t σ H fun xs H1=>xs.length≤sizeLine∧∀ p,H1 p = none→Q (.ref p) (upd H1 p (.tup xs))
def BF (t:TA):TE:=fun σ H Q=>t σ H fun xs H1=>xs.length≤sizeLine∧∀ p,H1 p = none→Q (.ref p) (upd H1 p (.lst xs))
theorem bN {x1} (h:PA X es t):PE X (.Tuple es x1 pos) (BA t):=by
 intro pins s σ H Q I hq
 refine wpAny_Tuple_spliced (b5 (h pos pins s σ H _ I hq) fun us s1 ⟨xs,H1,I1,r,z,q⟩=>⟨by rw [← r.length]; exact z,?_⟩)
 have hf:H1 s1.heap.objs.size = none:=I1.bz.fresh (Nat.le_refl _)
 refine ⟨.ref s1.heap.objs.size,upd H1 s1.heap.objs.size (.tup xs),I1.laid (t':=s1.toks) (fun b u e=>Heap.get?_push_of_some _ e) (Nat.le_refl _) ?_,rfl,q _ hf⟩
 exact ⟨z,us,r,⟨_,Heap.get?_push_size _ rfl,rfl,_,rfl⟩⟩
theorem cv (h:PA X es t):PE X (.List es pos) (BF t):=by
 intro pins s σ H Q I hq
 refine wpAny_List_spliced (b5 (h pos pins s σ H _ I hq) fun us s1 ⟨xs,H1,I1,r,z,q⟩=>⟨by rw [← r.length]; exact z,?_⟩)
 have hf:H1 s1.heap.objs.size = none:=I1.bz.fresh (Nat.le_refl _)
 refine ⟨.ref s1.heap.objs.size,upd H1 s1.heap.objs.size (.lst xs),I1.laid (t':=s1.toks) (fun b u e=>Heap.get?_push_of_some _ e) (Nat.le_refl _) ?_,rfl,q _ hf⟩
 exact ⟨z,us,0,r,Heap.get?_push_size _ rfl⟩
end
abbrev Sp:=List V→Hp→VK→XK→Prop
abbrev qx:=List Env→Hp→Shared→XK→Value→Shared→Prop
structure xW (P:Program) (w:World) (K:PySem.W.Frag) (mg:Str→Option Value) (base:Heap) (A:Around) (outer:List Env) (s:Shared) (H:Hp):Prop where
 frames:A.frames = some outer
 mod:Mod K mg base
 bs:∀ b o,base.get? b = some o→s.heap.get? b = some o∧H b = none
 AQ:base.objs.size≤s.heap.objs.size
 jQ:s.heap.FunFrames base outer
 Bn:∀ b∈oI outer,H b = none
 bz:gc P w H s.heap
 bare:AllBare s.gens
def CE (outer:List Env) (P:Program) (w:World) (H:Hp) (s:Shared) (Q:VK) (u:Value) (s':Shared):Prop:=
 ∃ v H',s'.os = s.os∧AllBare s'.gens∧Un (oI outer) [] H H' s.heap s'.heap∧gc P w H' s'.heap∧RelV v u∧Q v H'
def CR (CX:qx) (outer:List Env) (P:Program) (w:World) (H:Hp) (s:Shared) (Q:VK) (E:XK) (r:Result) (s':Shared):Prop:=
 match r with
 | .ok (.ret u)=>CE outer P w H s Q u s'
 | .ok _=>False
 | .error e=>CX outer H s E e s'
structure kJ (P:Program) (w:World) (K:PySem.W.Frag) (mg:Str→Option Value) (base:Heap) (CX:qx) (k:Nat) (f:Addr) (fd:FuncData) (ps:List Str) (sp:Sp):Prop where
 len:∀ vs H Q E,sp vs H Q E→vs.length = ps.length
 run:∀ (A:Around) (outer:List Env) (s:Shared) (H:Hp) (args:Args) (us:List Value) (vs:List V) (Q:VK) (E:XK),dI k A→xW P w K mg base A outer s H→BindsTo s fd args (ps.zip us)→Vals vs us→sp vs H Q E→
  codeAny (model P w) A (.call (.ref f) args) (CR CX outer P w H s Q E) s
section
variable {X:Cx} {pins:List (Addr×Obj)} {σ : St} {H:Hp} {s s':Shared}
theorem Inv.Iq (I:Inv X pins σ H s):xW X.prog X.w X.K X.mg X.base X.A X.stack s H:=
 ⟨I.ok.frames,I.ok.mod,I.bs,Nat.le_trans I.ok.AQ I.sz,I.stack,I.qB,I.bz,I.bare⟩
theorem Inv.after {Q:VK} {u:Value} (I:Inv X pins σ H s) (h:CE X.stack X.prog X.w H s Q u s'):EP X pins σ Q u s':=by
 obtain ⟨v,H',os,bare,un,bz,r,q⟩:=h
 obtain ⟨hh,g,d,t,Gh⟩:=s'
 obtain rfl:Gh = s.os:=os
 exact ⟨v,H',I.call (h':=hh) (g':=g) (d':=d) (t':=t) (ch:=[]) un bz bare (fun b z=>absurd z (by simp)),r,q⟩
end
def uh (sp:Sp) (tU:List V) (E:XK) (t:TA):TE:=fun σ H Q=>t σ H fun vs H1=>sp (vs ++ tU) H1 Q E
def JO (C:Addr) (m:Str) (sp:Sp) (tU:List V) (E:XK) (ta:TE) (t:TA):TE:=fun σ H Q=>ta σ H fun x H1=>∃ a dx fs,x = .ref a∧H1 a = some (.ins C dx fs)∧fs.lookup m = none∧
 t σ H1 fun vs H2=>sp (x :: (vs ++ tU)) H2 Q E
def JP (C:Addr) (sp:Sp) (tU:List V) (E:XK) (t:TA):TE:=fun σ H Q=>t σ H fun vs H1=>∀ x dx,H1 x = none→H1 dx = none→dx≠x→
 sp (.ref x :: (vs ++ tU)) (upd (upd H1 dx (.own x)) x (.ins C dx [])) (fun v H2=>v = .bY∧Q (.ref x) H2) E
def Binds (K:PySem.W.Frag) (fd:FuncData) (ps:List Str) (ds:List Value):Prop:=
 ∀ (s:Shared) (us:List Value),K.In s.heap→(us ++ ds).length = ps.length→BindsTo s fd ⟨us,[]⟩ (ps.zip (us ++ ds))
theorem Binds.all {K:PySem.W.Frag} {fd:FuncData} {ps:List Str} (h:∀ us:List Value,us.length = ps.length→bindArgs fd ⟨us,[]⟩ = pure (ps.zip us)):Binds K fd ps []:=fun s us _ hl=>by
 rw [List.append_nil] at hl ⊢
 exact .of_eq (h us hl)
def Passes (CX:qx) (X:Cx) (E:XK):Prop:=∀ (pins:List (Addr×Obj)) (σ : St) (H:Hp) (s:Shared) (e:Value) (s':Shared),Inv X pins σ H s→CX X.stack H s E e s'→X.xe e s'
section
variable {X:Cx} {CX:qx} {k:Nat} {f C:Addr} {fd:FuncData} {ps:List Str} {sp:Sp} {tU:List V} {ds:List Value} {E:XK} {x m:Str} {p pos apos:Pos} {e o:Expr} {es:List Expr} {ta:TE} {t:TA}
theorem zd {pins:List (Addr×Obj)} {σ : St} {H:Hp} {s:Shared} {Q:VK} {us:List Value} {vs:List V} (F:kJ X.prog X.w X.K X.mg X.base CX k f fd ps sp) (hr:dI k X.A) (hb:Binds X.K fd ps ds) (hd:Vals tU ds) (hx:Passes CX X E)
  (I:Inv X pins σ H s) (r:Vals vs us) (h:sp (vs ++ tU) H Q E):wpAny (model X.prog X.w) X.A (call (.ref f) us) (EP X pins σ Q) X.xe s:=by
 have r2:Vals (vs ++ tU) (us ++ ds):=r.append hd
 have hl:(us ++ ds).length = ps.length:=by rw [← r2.length]; exact F.len _ _ _ _ h
 refine wpAny_call (codeAny_mono (F.run X.A X.stack s H ⟨us,[]⟩ (us ++ ds) (vs ++ tU) Q E hr I.Iq (hb s us I.oz hl) r2 h) fun r s' hq=>?_)
 cases r with
 | error e=>exact hx pins σ H s e s' I hq
 | ok fl=>
  cases fl with
  | ret u=>exact I.after hq
  | next=>exact False.elim hq
  | brk=>exact False.elim hq
  | cont=>exact False.elim hq
theorem wQ (F:kJ X.prog X.w X.K X.mg X.base CX k f fd ps sp) (hr:dI k X.A) (hg:Gl X x) (hm:X.mg x = some (.ref f)) (hk:PySem.W.keepIn X.K (.ref f) = true) (hb:Binds X.K fd ps ds) (hd:Vals tU ds) (hx:Passes CX X E)
  (ha:PA X (e :: es) t) (Aq:(x == ("__debug__" : Str)) = false:=by decide) (he:starEach (e :: es) X.env = (false,eval e X.env) :: starEach es X.env:=by rfl) (vW:(backTo pos (starEach es X.env)).any (·.1) = false:=by rfl) :
  PE X (.Call (.Name x p) (e :: es) [] pos) (uh sp tU E t):=by
 intro pins s σ H Q I h
 refine wpAny_Call_Name_kw (rB I hg hm ?_ Aq)
 refine PySem.W.callWith_K (h₀:=X.base) I.ok.mod.G3 hk (b5 (ha pos pins s σ H _ I h) fun us s1 ⟨vs,H1,I1,r,q⟩=>⟨I1.oz,?_⟩) he vW
 exact zd F hr hb hd hx I1 r q
structure Mk (K:PySem.W.Frag) (C f:Addr):Prop where
 makes:PySem.W.makesIn K C = true
 init:PySem.W.findIn K (.ref C) "__init__" = some (some (.ref f))
 fn:PySem.W.isFn K (.ref f) = true
 kp:PySem.W.keepIn K (.ref C) = true
end
def PK (X:Cx) (Ks:List Keyword) (t:TA):Prop:=
 ∀ (pos:Pos) (pins:List (Addr×Obj)) (s:Shared) (σ : St) (H:Hp) (Q:List V→Hp→Prop),Inv X pins σ H s→t σ H Q→wpAny (model X.prog X.w) X.A (evalAll ((backToKw pos (keywordEach Ks X.env)).map (·.2))) (AP X pins σ Q) X.xe s
section
variable {X:Cx} {CX:qx} {k:Nat} {f C:Addr} {fd:FuncData} {ps ks:List Str} {sp:Sp} {E:XK} {x m:Str} {p pos apos NU:Pos} {e o:Expr} {es:List Expr} {Ks:List Keyword} {te ta:TE} {t tk:TA} {nm:Option Str}
structure JA (K:PySem.W.Frag) (fd:FuncData) (ps ks:List Str) (g:List Value→List Value→List Value) (gV:List V→List V→List V):Prop where
 to:∀ (s:Shared) (us ws:List Value),K.In s.heap→(g us ws).length = ps.length→BindsTo s fd ⟨us,ks.zip ws⟩ (ps.zip (g us ws))
 rel:∀ {vs:List V} {us:List Value} {zs:List V} {ws:List Value},Vals vs us→Vals zs ws→Vals (gV vs zs) (g us ws)
def Fq (sp:Sp) (gV:List V→List V→List V) (E:XK) (t tk:TA):TE:=fun σ H Q=>t σ H fun vs H1=>tk σ H1 fun zs H2=>sp (gV vs zs) H2 Q E
variable {g:List Value→List Value→List Value} {gV:List V→List V→List V}
end
structure aZ (N P:List Str) (sc:Scope):Prop where
 kind:sc.kind = .function
 co:sc.isCoroutine = false
 gen:sc.isGenerator = false
 nd:N.Nodup
 pre:N.take P.length = P
 par:∀ x∈P,sc.names.lookup x = some .local∨sc.names.lookup x = some .cell
 zM:∀ y∈sc.names,y.2≠.free
theorem lL {kindOf:Str→Option NameKind} {x:Str}:∀ {binds:List (Str×Value)} {m:Str→Option Value},(∀ v,(x,v)∉binds)→bindL kindOf binds m x = m x
 | [],_,_=>rfl
 | (n,v) :: r,m,h=>by
  unfold bindL
  rw [lL fun w hw=>h w (List.mem_cons_of_mem _ hw)]
  split
  ·have:x≠n:=by rintro rfl; exact h v List.mem_cons_self
   simp [this]
  ·rfl
theorem lO {kindOf:Str→Option NameKind} {x:Str}:∀ {binds:List (Str×Value)} {m:Str→Option Value},(∀ v,(x,v)∉binds)→bindC kindOf binds m x = m x
 | [],_,_=>rfl
 | (n,v) :: r,m,h=>by
  unfold bindC
  rw [lO fun w hw=>h w (List.mem_cons_of_mem _ hw)]
  split
  ·rfl
  ·have:x≠n:=by rintro rfl; exact h v List.mem_cons_self
   simp [this]
theorem lN {kindOf:Str→Option NameKind} {x:Str} {v:Value}:∀ {P:List Str} {vs:List Value} {i:Nat} {m:Str→Option Value},P.Nodup→P[i]? = some x→vs[i]? = some v→kindOf x = some .local→
  bindL kindOf (P.zip vs) m x = some v
 | [],_,_,_,_,h,_,_=>by simp at h
 | _ :: _,[],_,_,_,_,h,_=>by simp at h
 | p :: P,w :: vs,0,m,nd,h1,h2,hk=>by
  simp at h1 h2; subst h1; subst h2
  show bindL kindOf ((p,w) :: P.zip vs) m p = _
  unfold bindL
  rw [lL fun v hv=>(List.nodup_cons.mp nd).1 (List.of_mem_zip hv).1,if_pos hk]
  simp
 | p :: P,w :: vs,i + 1,m,nd,h1,h2,hk=>by
  show bindL kindOf ((p,w) :: P.zip vs) m x = _
  unfold bindL
  exact lN (i:=i) (List.nodup_cons.mp nd).2 (by simpa using h1) (by simpa using h2) hk
theorem lP {kindOf:Str→Option NameKind} {x:Str} {v:Value}:∀ {P:List Str} {vs:List Value} {i:Nat} {m:Str→Option Value},P.Nodup→P[i]? = some x→vs[i]? = some v→kindOf x≠some .local→
  bindC kindOf (P.zip vs) m x = some v
 | [],_,_,_,_,h,_,_=>by simp at h
 | _ :: _,[],_,_,_,_,h,_=>by simp at h
 | p :: P,w :: vs,0,m,nd,h1,h2,hk=>by
  simp at h1 h2; subst h1; subst h2
  show bindC kindOf ((p,w) :: P.zip vs) m p = _
  unfold bindC
  rw [lO fun v hv=>(List.nodup_cons.mp nd).1 (List.of_mem_zip hv).1,if_neg hk]
  simp
 | p :: P,w :: vs,i + 1,m,nd,h1,h2,hk=>by
  show bindC kindOf ((p,w) :: P.zip vs) m x = _
  unfold bindC
  exact lP (i:=i) (List.nodup_cons.mp nd).2 (by simpa using h1) (by simpa using h2) hk
def start (N:List Str) (vs:List V):St:=vs.map some ++ List.replicate (N.length - vs.length) none
def oP (CX:qx) (P:Program) (w:World) (K:PySem.W.Frag) (mg:Str→Option Value) (base:Heap) (N:List Str) (qual:Str) (scope:Scope) (f:Addr) (cd:Value) (A:Around) (outer:List Env) (s:Shared) (H:Hp) (E:XK):Cx where
 prog:=P
 w:=w
 K:=K
 mg:=mg
 base:=base
 A:=A.deeper (envOfC qual scope s.heap.objs.size f cd)
 N:=N
 s₀:=s
 H₀:=H
 env:=envOfC qual scope s.heap.objs.size f cd
 outer:=outer
 stack:=envOfC qual scope s.heap.objs.size f cd :: outer
 ex:=[]
 calm:=true
 fn:=fun _=>true
 pn:=[]
 xe:=fun e s'=>wpAny (model P w) (A.deeper (envOfC qual scope s.heap.objs.size f cd)) (leaving (envOfC qual scope s.heap.objs.size f cd) e) (fun _ BV=>CX outer H s E e BV) (fun e' BV=>CX outer H s E e' BV) s'
theorem oR {sc:Scope} {n:Nat} {x:Str} (h:sc.names.lookup x = some .cell):∃ c,(cellsFrom n sc.names []).lookup x = some c:=by
 have q:=PySem.W.cellsFrom_some sc.names n [] (.inl h)
 exact Option.isSome_iff_exists.mp q
theorem sQ {CX:qx} {P:Program} {w:World} {K:PySem.W.Frag} {mg:Str→Option Value} {base:Heap} {N ps:List Str} {qual:Str} {scope:Scope} {f:Addr} {cd:Value} {A:Around} {outer:List Env} {s s1:Shared} {H:Hp} {E:XK} {us:List Value} {vs:List V}
  (S:aZ N ps scope) (hd:A.handled = none) (e0:xW P w K mg base A outer s H) (hl:vs.length = ps.length) (r:Vals vs us)
  (x:InCallC s s.heap.objs.size (bindL (envOfC qual scope s.heap.objs.size f cd).kindOf (ps.zip us) fun _=>none) (cellsFrom (s.heap.objs.size + 1) scope.names []) (bindC (envOfC qual scope s.heap.objs.size f cd).kindOf (ps.zip us) fun _=>none) s1) :
  Inv (oP CX P w K mg base N qual scope f cd A outer s H E) [] (start N vs) H s1:=by
 have vW:ps.length≤N.length:=by have:=congrArg List.length S.pre; rw [List.length_take] at this; omega
 obtain ⟨h1,tk,rfl,hk⟩:=x.done
 have Cj:∀ b:Addr,b∉(oP CX P w K mg base N qual scope f cd A outer s H E).ex:=fun b z=>absurd (show b∈([]:List Addr) from z) (by simp)
 refine ⟨⟨e0.mod,S.kind,rfl,rfl,Nat.le_refl _,fun y z c h1 h2=>?_,fun y hy=>?_,fun y c _ h=>?_,fun _=>hd,Around.frames_deeper e0.frames,.inr ⟨rfl,rfl⟩,fun b z=>absurd z (Cj b),e0.bs,e0.AQ,fun b _ _=>Cj b,fun b z=>absurd z (Cj b),e0.jQ,e0.Bn⟩,
  rfl,e0.bare,Un.kept hk,⟨_,x.toInCall.ns,fun i y v h1 h2 h3=>?_⟩,fun y c h=>⟨_,x.cell y c h⟩,e0.bz.fresh (Nat.le_refl _),fun y c h=>?_,fun p hp=>absurd (show p∈([]:List (Addr×Obj)) from hp) (by simp),e0.bz.kept hk,?_⟩
 ·exact name_of_addr x.apart (PySem.mem_of_lookup h1) (PySem.mem_of_lookup h2)
 ·have hy:scope.names.lookup y = some .cell∨scope.names.lookup y = some .free:=hy
  rcases hy with hy | hy
  ·exact oR hy
  ·exact absurd rfl (S.zM _ (PySem.mem_of_lookup hy))
 ·exact Nat.le_of_lt (x.above y c (PySem.mem_of_lookup h))
 ·have hi:i < vs.length:=by
   unfold start at h2
   by_cases hi:i < vs.length
   ·exact hi
   ·rw [List.getElem?_append_right (by simpa using hi)] at h2
    rw [List.getElem?_replicate] at h2
    split at h2 <;> cases h2
  have ha:vs[i]? = some v:=by
   unfold start at h2
   rw [List.getElem?_append_left (by simpa using hi),List.getElem?_map] at h2
   cases e:vs[i]? with
   | none=>rw [e] at h2; cases h2
   | some a=>rw [e] at h2; cases h2; rfl
  obtain ⟨u,hu,rv⟩:=r.get ha
  have hp:ps[i]? = some y:=by
   rw [← S.pre,List.getElem?_take_of_lt (by omega)]; exact h1
  have Kl:ps.Nodup:=by rw [← S.pre]; exact S.nd.sublist (List.take_sublist _ _)
  refine ⟨u,rv,?_⟩
  rcases S.par y (List.mem_of_getElem? hp) with k | k
  ·exact .inl ⟨k,lN Kl hp hu k⟩
  ·obtain ⟨c,e⟩:=oR (n:=s.heap.objs.size + 1) k
   refine .inr ⟨.inl k,c,e,?_⟩
   have q:=x.cell y c e
   rw [lP Kl hp hu (by show scope.names.lookup y≠_; rw [k]; decide)] at q
   exact q
 ·exact e0.bz.fresh (Nat.le_of_lt (x.above y c (PySem.mem_of_lookup h)))
 ·unfold start
  show _ = N.length
  rw [List.length_append,List.length_map,List.length_replicate]
  omega
theorem yK {CX:qx} {P:Program} {w:World} {K:PySem.W.Frag} {mg:Str→Option Value} {base:Heap} {k:Nat} {f:Addr} {name qual:Str} {params:Arguments} {body:List Stmt} {scope:Scope} {dV kV doc pm dv ct oc:Value} {an od:Option Addr}
  {wV:Array (Option Value)} {N ps:List Str} {sp:Sp} (lk:K.lookup f = some ⟨oc,od,.func (PySem.W.fnOf name qual params body scope dV kV doc pm an dv ct),wV⟩) (sV:PySem.W.codeIn K dv qual = true) (S:aZ N ps scope)
  (len:∀ vs H Q E,sp vs H Q E→vs.length = ps.length)
  (oE:∀ (A:Around) (outer:List Env) (s:Shared) (H:Hp) (vs:List V) (Q:VK) (E:XK),dI k (A.deeper (envOfC qual scope s.heap.objs.size f dv))→sp vs H Q E→
   ∃ t,sf (oP CX P w K mg base N qual scope f dv A outer s H E) body t∧t { nx:=fun _ H'=>Q .bY H',rt:=Q } (start N vs) H) :
  kJ P w K mg base CX (k + 1) f (PySem.W.fnOf name qual params body scope dV kV doc pm an dv ct) ps sp:=by
 refine ⟨len,fun A outer s H args us vs Q E hr e0 hb r o6=>?_⟩
 have hl:=len _ _ _ _ o6
 have KX:K.In s.heap:=e0.mod.G3.keeps fun b o e=>(e0.bs b o e).1
 have lim:s.heap.NoLimit:=e0.mod.nolimit.keeps fun b o e=>(e0.bs b o e).1
 have CM:∀ y∈ps.zip us,scope.names.lookup y.1 = some .local∨(scope.names.lookup y.1 = some .cell∧((cellsFrom (s.heap.objs.size + 1) scope.names []).lookup y.1).isSome = true):=fun ⟨n,v⟩ hy=>by
  rcases S.par n (List.of_mem_zip hy).1 with q | q
  ·exact .inl q
  ·exact .inr ⟨q,PySem.W.cellsFrom_some _ _ _ (.inl q)⟩
 refine codeAny_call_function hr.depth (KX _ _ lk) rfl S.co S.gen rfl (PySem.W.codeRec_of KX sV) (hb _ _ _ _ ?_)
 refine wpAny_newFunctionEnv_cells S.kind CM fun env he s1 x=>?_
 subst he
 refine ⟨lim.keeps x.toInCall.keep,codeAny_func ?_⟩
 obtain ⟨t,ht,hq⟩:=oE A outer s H vs Q E (hr.deeper _) o6
 have I:Inv (oP CX P w K mg base N qual scope f dv A outer s H E) [] (start N vs) H s1:=sQ S hr.hd e0 hl r x
 refine wpAny_mono (ht [] s1 (start N vs) H _ I hq) (fun fl s' hs=>?_) fun e s' hs=>hs
 have fin:∀ {σ':St} {H':Hp} {v:V} {u:Value},Inv (oP CX P w K mg base N qual scope f dv A outer s H E) [] σ' H' s'→RelV v u→Q v H'→CE outer P w H s Q u s':=
  fun {σ' H' v u} J rv q=>⟨v,H',J.os,J.bare,J.base,J.bz,rv,q⟩
 cases fl with
 | ret u=>
  obtain ⟨v,σ',H',J,rv,q⟩:=hs
  exact fin J rv q
 | next=>
  obtain ⟨σ',H',J,q⟩:=hs
  exact fin (v:=V.bY) (u:=Value.none) J rfl q
 | brk=>
  obtain ⟨_,_,_,q⟩:=hs
  exact False.elim q
 | cont=>
  obtain ⟨_,_,_,q⟩:=hs
  exact False.elim q
end L2
namespace L2
open PySem PySem.Spec PyProof.Rows
section
variable {X:Cx} {x:Str} {p pos:Pos} {e:Expr} {es:List Expr} {t:TA} {id T:String} {r:List V→Hp→VK→Prop}
def DO (r:List V→Hp→VK→Prop) (t:TA):TE:=fun σ H Q=>t σ H fun vs H1=>r vs H1 Q
theorem ax (hc:eE X (.builtin id) r) (hg:Gl X x) (hm:X.mg x = none) (hv:bootBuiltins x = some (.builtin id)) (ha:PA X (e :: es) t) (hn:x≠ "__name__":=by decide) (Aq:(x == ("__debug__" : Str)) = false:=by decide)
  (he:starEach (e :: es) X.env = (false,eval e X.env) :: starEach es X.env:=by rfl) (vW:(backTo pos (starEach es X.env)).any (·.1) = false:=by rfl):PE X (.Call (.Name x p) (e :: es) [] pos) (DO r t):=by
 intro pins s σ H Q I h
 refine wpAny_Call_Name_kw (fJ I hg hm hv ?_ hn Aq)
 exact PyProof.Rows.callWith_builtin1 (b5 (ha pos pins s σ H _ I h) fun us s1 ⟨vs,H1,I1,r1,q1⟩=>hc pins s1 σ H1 vs us Q I1 r1 q1) he vW
theorem fY (hc:eE X (.type T) r) (hg:Gl X x) (hm:X.mg x = none) (hv:bootBuiltins x = some (.type T)) (ha:PA X (e :: es) t) (hn:x≠ "__name__":=by decide) (Aq:(x == ("__debug__" : Str)) = false:=by decide)
  (he:starEach (e :: es) X.env = (false,eval e X.env) :: starEach es X.env:=by rfl) (vW:(backTo pos (starEach es X.env)).any (·.1) = false:=by rfl):PE X (.Call (.Name x p) (e :: es) [] pos) (DO r t):=by
 intro pins s σ H Q I h
 refine wpAny_Call_Name_kw (fJ I hg hm hv ?_ hn Aq)
 exact PyProof.Rows.callWith_type1 (b5 (ha pos pins s σ H _ I h) fun us s1 ⟨vs,H1,I1,r1,q1⟩=>hc pins s1 σ H1 vs us Q I1 r1 q1) he vW
end
end L2
namespace HT
open PySem PyProof.Rows
def lexLt:List Int→List Int→Bool
 | [],[]=>false
 | [],_ :: _=>true
 | _ :: _,[]=>false
 | x :: xs,y :: ys=>if x = y then lexLt xs ys else decide (x < y)
section
variable {prog:Program} {w:World} {A:Around} {E:Value→Shared→Prop} {s:Shared}
def mq (n d:Nat):Option Int→Nat
 | none=>d
 | some v=>if v < 0 then (v + (n:Int)).toNat else min v.toNat n
end
end HT
namespace L2
open PySem PySem.Spec PyProof.Rows
abbrev TO:=St→Hp→(Option Int→Hp→Prop)→Prop
def PO (X:Cx) (e:Option Expr) (t:TO):Prop:=
 ∀ (pins:List (Addr×Obj)) (s:Shared) (σ : St) (H:Hp) (Q:Option Int→Hp→Prop),Inv X pins σ H s→t σ H Q→
  wpAny (model X.prog X.w) X.A (evalPart e X.env) (fun u s'=>∃ o H',Inv X pins σ H' s'∧IsPart u o∧Q o H') X.xe s
def qz:TO:=fun _ H Q=>Q none H
def x6 (t:TE):TO:=fun σ H Q=>t σ H fun x H1=>∃ i,x = .int i∧Q (some i) H1
theorem intsAre_of {ns:List Int}:∀ {us:List Value},Vals (ns.map V.int) us→IntsAre us ns:=by
 induction ns with
 | nil=>intro us r; rw [List.map_nil] at r; cases r; exact .nil
 | cons n ns ih=>
  intro us r
  rw [List.map_cons] at r
  cases r with
  | cons r1 r2=>
   obtain ⟨t,e⟩:=r1
   subst e
   exact .cons n t (ih r2)
section
variable {X:Cx} {e:Expr} {te:TE} {lo hi:Option Expr} {tl th:TO} {pos p2:Pos}
theorem qZ:PO X none qz:=by
 intro pins s σ H Q I h
 rw [evalPart_none]
 exact wpAny_pure ⟨none,H,I,.none,h⟩
theorem dR (h:PE X e te):PO X (some e) (x6 te):=by
 intro pins s σ H Q I hw
 rw [evalPart_some]
 refine b5 (h pins s σ H _ I hw) fun u s1 ⟨x,H1,I1,r1,q1⟩=>?_
 obtain ⟨i,rfl,q⟩:=q1
 obtain ⟨t,rfl⟩:=r1
 exact ⟨some i,H1,I1,.int i t,q⟩
def LH (X:Cx) (r:V→Option Int→Option Int→Hp→VK→Prop):Prop:=
 ∀ (pins:List (Addr×Obj)) (s:Shared) (σ : St) (H:Hp) (x:V) (v vl vu:Value) (lo hi:Option Int) (sl:Addr) (Q:VK),Inv X pins σ H s→RelV x v→s.heap.IsSliceOf sl vl vu .none→IsPart vl lo→IsPart vu hi→r x lo hi H Q→
  ∃ T id,typeLookup (.type T) "__getitem__" = pure (some (.builtin id))∧s.TypeIs v T∧wpAny (model X.prog X.w) X.A (getItem v (.ref sl)) (EP X pins σ Q) X.xe s
def Fe (r:V→Option Int→Option Int→Hp→VK→Prop) (te:TE) (tl th:TO):TE:=fun σ H Q=>te σ H fun x H1=>tl σ H1 fun l H2=>th σ H2 fun u H3=>r x l u H3 Q
theorem fD {r:V→Option Int→Option Int→Hp→VK→Prop} (hr:LH X r) (he:PE X e te) (hl:PO X lo tl) (hu:PO X hi th):PE X (.Subscript e (.Slice lo hi none p2) pos) (Fe r te tl th):=by
 intro pins s σ H Q I h
 refine Subscript_ (b5 (he pins s σ H _ I h) fun v s1 ⟨x,H1,I1,r1,q1⟩=>?_)
 refine wpAny_Slice (b5 (hl pins s1 σ H1 _ I1 q1) fun vl s2 ⟨l,H2,I2,pl,q2⟩=>b5 (hu pins s2 σ H2 _ I2 q2) fun vu s3 ⟨u,H3,I3,pu,q3⟩=>?_)
 rw [evalPart_none]
 refine wpAny_pure ?_
 have I4:Inv X pins σ H3 { s3 with heap:=s3.heap.push { cls:=.type "slice",data:=.fields #[vl,vu,.none] } }:=I3.kept (t':=s3.toks) fun b ob q=>Heap.get?_push_of_some _ q
 obtain ⟨T,id,hT,ht,hg⟩:=hr pins { s3 with heap:=s3.heap.push { cls:=.type "slice",data:=.fields #[vl,vu,.none] } } σ H3 x v vl vu l u s3.heap.objs.size Q I4 r1 (Heap.IsSliceOf.new ..) pl pu q3
 show wpAny (model X.prog X.w) X.A (subscriptTail e (.Slice lo hi none p2) v (.ref s3.heap.objs.size)) (EP X pins σ Q) X.xe { s3 with heap:=s3.heap.push { cls:=.type "slice",data:=.fields #[vl,vu,.none] } }
 exact tail_any (ops:=[.ref s3.heap.objs.size,v]) ht hT hg (by with_unfolding_all rfl)
def ng (xs:List V) (lo hi:Option Int):List V:=(xs.drop (HT.mq xs.length 0 lo)).take (HT.mq xs.length xs.length hi - HT.mq xs.length 0 lo)
theorem oQ (xs:List V) (lo hi:Option Int):(ng xs lo hi).length≤xs.length:=by
 unfold ng
 rw [List.length_take,List.length_drop]
 omega
def MJ (K:PySem.W.Frag):V→Option Int→Option Int→Hp→VK→Prop:=fun x lo hi H Q=>∃ a xs,x = .ref a∧SqT K H a xs∧
 ¬ (HT.mq xs.length 0 lo = 0∧HT.mq xs.length xs.length hi = xs.length)∧∀ p,H p = none→Q (.ref p) (upd H p (.tup (ng xs lo hi)))
def MM (K:PySem.W.Frag):R2:=fun x y H Q=>∃ a b ns ms,x = .ref a∧y = .ref b∧SqT K H a (ns.map V.int)∧SqT K H b (ms.map V.int)∧Q (.bl (HT.lexLt ns ms)) H
def Ka (K:PySem.W.Frag):R2:=fun x y H Q=>∃ a b xs ys,x = .ref a∧y = .ref b∧SqT K H a xs∧SqT K H b ys∧xs≠[]∧xs.length + ys.length≤sizeLine∧
 (ys = []→Q (.ref a) H)∧(ys≠[]→∀ p,H p = none→Q (.ref p) (upd H p (.tup (xs ++ ys))))
end
end L2
namespace L2
open PySem PySem.Spec PyProof.Rows
def vV (n:Nat) (i:Int):Option Nat:=if 0≤i then (if i < n then some i.toNat else none) else if -(n:Int)≤i then some (i + n).toNat else none
def j3 {α : Type} (xs:List α) (i:Int):Option α:=(vV xs.length i).bind fun j=>xs[j]?
theorem xi {n:Nat} {i:Int} {j:Nat} (h:vV n i = some j):seqIndex? i n = some j∧j < n∧-(n:Int)≤i∧i < n:=by
 unfold vV at h
 by_cases h0:0≤i
 ·rw [if_pos h0] at h
  by_cases h1:i < n
  ·rw [if_pos h1] at h
   have e:i.toNat = j:=Option.some.inj h
   exact ⟨by rw [seqIndex_of h0 h1,e],by omega,by omega,h1⟩
  ·rw [if_neg h1] at h; cases h
 ·rw [if_neg h0] at h
  by_cases h1 : -(n:Int)≤i
  ·rw [if_pos h1] at h
   have e:(i + n).toNat = j:=Option.some.inj h
   exact ⟨by rw [seqIndex_neg (by omega) h1,e],by omega,h1,by omega⟩
  ·rw [if_neg h1] at h; cases h
theorem rX {α : Type} {xs:List α} {i:Int} {v : α} (h:j3 xs i = some v):∃ j,seqIndex? i xs.length = some j∧xs[j]? = some v∧j < xs.length∧-(xs.length:Int)≤i∧i < xs.length:=by
 unfold j3 at h
 cases e:vV xs.length i with
 | none=>rw [e] at h; cases h
 | some j=>
  rw [e] at h
  obtain ⟨h1,h2,h3,h4⟩:=xi e
  exact ⟨j,h1,h,h2,h3,h4⟩
theorem jc {α : Type} {xs:List α} {j:Nat} {v : α} (h:xs[j]? = some v):j3 xs (j:Int) = some v:=by
 have hj:j < xs.length:=(List.getElem?_eq_some_iff.mp h).1
 have e:vV xs.length (j:Int) = some j:=by
  unfold vV
  rw [if_pos (by omega),if_pos (by omega)]; simp
 unfold j3; rw [e]; exact h
theorem vL {α : Type} (xs:List α) (v : α):j3 (xs ++ [v]) (-1) = some v:=by
 have hl:(xs ++ [v]).length = xs.length + 1:=by simp
 have e:vV (xs ++ [v]).length (-1) = some xs.length:=by
  unfold vV
  rw [hl,if_neg (by decide),if_pos (by omega)]
  congr 1
  omega
 unfold j3
 rw [e]
 show (xs ++ [v])[xs.length]? = some v
 simp
def xQ (b:Expr):Prop:=∀ o i,subscripted b false o i = operate [o,i] (getItem o i)
def E1 (X:Cx) (r:R2):Prop:=
 ∀ (value slice:Expr) (pins:List (Addr×Obj)) (s:Shared) (σ : St) (H:Hp) (x y:V) (v u:Value) (Q:VK),Inv X pins σ H s→RelV x v→RelV y u→r x y H Q→
  subscripted slice false v u = operate [v,u] (getItem v u)→wpAny (model X.prog X.w) X.A (subscriptTail value slice v u) (EP X pins σ Q) X.xe s
def LJ (X:Cx) (id:String) (r:V→List V→Hp→VK→Prop):Prop:=
 ∀ (pins:List (Addr×Obj)) (s:Shared) (σ : St) (H:Hp) (x:V) (xs:List V) (v:Value) (us:List Value) (Q:VK),Inv X pins σ H s→RelV x v→Vals xs us→r x xs H Q→
  wpAny (model X.prog X.w) X.A (call (.builtin id) (v :: us)) (EP X pins σ Q) X.xe s
section
variable {X:Cx} {a b:Expr} {ta tb:TE} {pos:Pos}
theorem aL {r:R2} (hr:E1 X r) (ha:PE X a ta) (hb:PE X b tb) (hs:xQ b):PE X (.Subscript a b pos) (BD r ta tb):=by
 intro pins s σ H Q I h
 exact Subscript_ (AR ha hb I h fun v u s2 x y H2 I2 rx ry q=>hr a b pins s2 σ H2 x y v u Q I2 rx ry q (hs _ _))
def wG (K:PySem.W.Frag):R2:=fun x y H Q=>∃ p xs i v,x = .ref p∧y = .int i∧aG K H p xs∧j3 xs i = some v∧Q v H
def zx (K:PySem.W.Frag):R2:=fun x y H Q=>∃ p xs i v,x = .ref p∧y = .int i∧SqT K H p xs∧j3 xs i = some v∧Q v H
def FR:R2:=fun x y H Q=>∃ z i c,x = .str z∧y = .int i∧z.length≤sizeLine∧j3 z.cps.toList i = some c∧Q (.str ⟨#[c]⟩) H
theorem aA:E1 X (wG X.K):=by
 intro value slice pins s σ H x y v u Q I rx ry h hs
 obtain ⟨p,xs,i,z,rfl,rfl,hq,he,q⟩:=h
 cases rx
 obtain ⟨t,rfl⟩:=ry
 obtain ⟨aO,r,pl,hz⟩:=I.list hq
 obtain ⟨j,h1,h2,h3,h4,h5⟩:=rX he
 obtain ⟨w,ew,nP⟩:=r.get h2
 have hl:=r.length
 have hn:=jE
 have fin:EP X pins σ Q w s:=⟨z,H,I,nP,q⟩
 by_cases h0:0≤i
 ·have hj:i.toNat = j:=by
   rw [seqIndex_of h0 h5] at h1
   exact Option.some.inj h1
  exact item_listR pl.isList h0 (by omega) (by rw [hj]; simpa using ew) fin hs
 ·have hj:(i + (aO.toArray.size:Int)).toNat = j:=by
   rw [seqIndex_neg (by omega) h4] at h1
   rw [List.size_toArray,← hl]
   exact Option.some.inj h1
  exact subscriptTail_builtinR (x:=w) pl.isList.typeIs slot_list_getitem.lookup
   (wpAny_getItem_list_neg (Q:=fun r s'=>r = w∧EP X pins σ Q r s') pl.isList (by omega) (by rw [List.size_toArray] <;> omega) (by omega) (by rw [hj]; simpa using ew) ⟨rfl,fin⟩) hs
theorem dh:E1 X (zx X.K):=by
 intro value slice pins s σ H x y v u Q I rx ry h hs
 obtain ⟨p,xs,i,z,rfl,rfl,hq,he,q⟩:=h
 cases rx
 obtain ⟨t,rfl⟩:=ry
 obtain ⟨aO,r,pl,hz⟩:=I.tuple hq
 obtain ⟨j,h1,h2,h3,h4,h5⟩:=rX he
 obtain ⟨w,ew,nP⟩:=r.get h2
 have hl:=r.length
 have hn:=jE
 have fin:EP X pins σ Q w s:=⟨z,H,I,nP,q⟩
 exact subscriptTail_builtinR (x:=w) pl.typeIs slot_tuple_getitem.lookup
  (getItem_tuple (j:=j) (Q:=fun r s'=>r = w∧EP X pins σ Q r s') pl (by omega) (by omega) (by rw [List.size_toArray,← hl]; exact h1) (by simpa using ew) ⟨rfl,fin⟩) hs
def Rn (K:PySem.W.Frag):R2:=fun x y H Q=>wG K x y H Q∨zx K x y H Q∨FR x y H Q
def JZ:V→V→V→Hp→(Hp→Prop)→Prop:=fun o i v H Q=>∃ p xs k j,o = .ref p∧i = .int k∧H p = some (.lst xs)∧vV xs.length k = some j∧Q (upd H p (.lst (xs.set j v)))
theorem mf (lo hi:Option Int) (n:Nat):(sliceBounds lo hi none n).1 = ((HT.mq n 0 lo:Nat):Int)∧(sliceBounds lo hi none n).2.1 = ((HT.mq n n hi:Nat):Int)∧(sliceBounds lo hi none n).2.2 = 1:=by
 refine ⟨?_,?_,rfl⟩
 ·cases lo with
  | none=>simp [sliceBounds,HT.mq]
  | some i=>
   simp only [sliceBounds,HT.mq,Option.getD_none,show (1:Int) > 0 by decide,if_true]
   by_cases h:i < 0
   ·simp only [h,if_true] <;> omega
   ·simp only [h,if_false] <;> omega
 ·cases hi with
  | none=>simp [sliceBounds,HT.mq]
  | some i=>
   simp only [sliceBounds,HT.mq,Option.getD_none,show (1:Int) > 0 by decide,if_true]
   by_cases h:i < 0
   ·simp only [h,if_true] <;> omega
   ·simp only [h,if_false] <;> omega
theorem kc (aO:List Value) (lo hi:Option Int):slicePick aO.toArray lo hi none = ((aO.drop (HT.mq aO.length 0 lo)).take (HT.mq aO.length aO.length hi - HT.mq aO.length 0 lo)).toArray:=by
 obtain ⟨h1,h2,h3⟩:=mf lo hi aO.toArray.size
 unfold slicePick
 rw [h1,h2,h3]
 simp only [sliceRange_one,pick_run,List.size_toArray] <;> rfl
def B4 (K:PySem.W.Frag):V→Option Int→Option Int→Hp→VK→Prop:=fun x lo hi H Q=>∃ a xs,x = .ref a∧aG K H a xs∧∀ p,H p = none→Q (.ref p) (upd H p (.lst (ng xs lo hi)))
theorem gN:LH X (B4 X.K):=by
 intro pins s σ H x v vl vu lo hi sl Q I rx hs pl pu h
 obtain ⟨a,xs,rfl,hx,q⟩:=h
 cases rx
 obtain ⟨aO,r,ht,hz⟩:=I.list hx
 have hlen:=r.length
 refine ⟨"list",_,slot_list_getitem.lookup,ht.isList.typeIs,?_⟩
 refine wpAny_getItem_list_slice ht.isList hs pl pu .none (by simp) ?_ (by rw [List.size_toArray] <;> omega)
 rw [kc,← hlen]
 refine ⟨.ref s.heap.objs.size,_,I.laid (t':=s.toks) (o:=.lst (ng xs lo hi)) (fun b ob q=>Heap.get?_push_of_some _ q) (Nat.le_refl _) ?_,rfl,q _ (I.bz.fresh (Nat.le_refl _))⟩
 exact ⟨Nat.le_trans (oQ xs lo hi) hz,_,0,(r.drop (HT.mq xs.length 0 lo)).take (HT.mq xs.length xs.length hi - HT.mq xs.length 0 lo),Heap.get?_push_size _ rfl⟩
def hU:V→Bool
 | .bY=>true
 | .bl _=>true
 | .int _=>true
 | .str _=>true
 | _=>false
def xC:V→V→Bool
 | .bY,.bY=>true
 | .bl a,.bl b=>a == b
 | .bl a,.int b=>(if a then 1 else 0) == b
 | .int a,.bl b=>a == (if b then 1 else 0)
 | .int a,.int b=>a == b
 | .str a,.str b=>a == b
 | _,_=>false
theorem Az {A:Around} {s:Shared} {y x:V} {u v:Value} (ry:RelV y u) (rx:RelV x v) (fy:hU y = true) (fx:hU x = true):SeqAt.EqAt A s u v (xC y x):=by
 cases y with
 | bY=>
  cases ry
  cases x with
  | bY=>cases rx; exact SeqAt.EqAt.same _
  | bl b=>cases rx; exact SeqAt.EqAt.none_bool b
  | int b=>obtain ⟨t,rfl⟩:=rx; exact SeqAt.EqAt.none_int b t
  | str b=>obtain ⟨t,rfl⟩:=rx; exact SeqAt.EqAt.none_str b t
  | _=>exact absurd (show false = true from fx) Bool.false_ne_true
 | bl a=>
  cases ry
  cases x with
  | bY=>cases rx; exact SeqAt.EqAt.bool_none a
  | bl b=>cases rx; exact SeqAt.EqAt.bool_bool a b
  | int b=>obtain ⟨t,rfl⟩:=rx; exact SeqAt.EqAt.bool_int a b t
  | str b=>obtain ⟨t,rfl⟩:=rx; exact SeqAt.EqAt.bool_str a b t
  | _=>exact absurd (show false = true from fx) Bool.false_ne_true
 | int a=>
  obtain ⟨t',rfl⟩:=ry
  cases x with
  | bY=>cases rx; exact SeqAt.EqAt.int_none a t'
  | bl b=>cases rx; exact SeqAt.EqAt.int_bool a t' b
  | int b=>obtain ⟨t,rfl⟩:=rx; exact SeqAt.EqAt.int_int a t' b t
  | str b=>obtain ⟨t,rfl⟩:=rx; exact SeqAt.EqAt.int_str a t' b t
  | _=>exact absurd (show false = true from fx) Bool.false_ne_true
 | str a=>
  obtain ⟨t',rfl⟩:=ry
  cases x with
  | bY=>cases rx; exact SeqAt.EqAt.str_none a t'
  | bl b=>cases rx; exact SeqAt.EqAt.str_bool a t' b
  | int b=>obtain ⟨t,rfl⟩:=rx; exact SeqAt.EqAt.str_int a t' b t
  | str b=>obtain ⟨t,rfl⟩:=rx; exact SeqAt.EqAt.str_str a t' b t
  | _=>exact absurd (show false = true from fx) Bool.false_ne_true
 | _=>exact absurd (show false = true from fy) Bool.false_ne_true
def qf (x:V) (u:Value):Bool:=match u with
 | .none=>xC .bY x
 | .bool b=>xC (.bl b) x
 | .int i _=>xC (.int i) x
 | .str z _=>xC (.str z) x
 | _=>false
theorem vx {x y:V} {u:Value} (r:RelV y u) (f:hU y = true):qf x u = xC y x:=by
 cases y with
 | bY=>cases r; rfl
 | bl b=>cases r; rfl
 | int i=>obtain ⟨t,rfl⟩:=r; rfl
 | str z=>obtain ⟨t,rfl⟩:=r; rfl
 | _=>exact absurd (show false = true from f) Bool.false_ne_true
theorem hX {x:V}:∀ {xs:List V} {us:List Value},Vals xs us→xs.all hU = true→us.any (qf x) = xs.any fun y=>xC y x
 | _,_,.nil,_=>rfl
 | y :: xs,u :: us,.cons r t,f=>by
  rw [List.all_cons,Bool.and_eq_true] at f
  rw [List.any_cons,List.any_cons,vx r f.1,hX t f.2]
theorem fF {A:Around} {s:Shared} {x:V} {v:Value} (rx:RelV x v) (fx:hU x = true):∀ {xs:List V} {us:List Value},Vals xs us→xs.all hU = true→∀ u∈us,SeqAt.EqAt A s u v (qf x u)
 | _,_,.nil,_=>fun u hu=>by cases hu
 | y :: xs,u :: us,.cons r t,f=>fun u' hu=>by
  rw [List.all_cons,Bool.and_eq_true] at f
  rcases List.mem_cons.mp hu with rfl | hu
  ·rw [vx r f.1]; exact Az r rx f.1 fx
  ·exact fF rx fx t f.2 u' hu
def El (x:V) (xs:List V):Bool:=xs.any fun y=>xC y x
def DX (K:PySem.W.Frag) (neg:Bool):R2:=fun x y H Q=>∃ p xs,y = .ref p∧(aG K H p xs∨SqT K H p xs)∧hU x = true∧xs.all hU = true∧Q (.bl (if neg then !El x xs else El x xs)) H
theorem cR:iT X (compareOp .In) (DX X.K false):=by
 intro pins s σ H x y v u Q I rx ry h
 obtain ⟨p,xs,rfl,hq,fx,fs,q⟩:=h
 cases ry
 rcases hq with hq | hq
 ·obtain ⟨aO,r,pl,hz⟩:=I.list hq
  refine SeqAt.in_listAt (qf x) pl.isList (fun w hw=>fF rx fx r fs w (by simpa using hw)) ⟨.bl _,H,I,rfl,?_⟩
  rw [show aO.toArray.any (qf x) = aO.any (qf x) by simp,hX r fs]
  exact q
 ·obtain ⟨aO,r,pl,hz⟩:=I.tuple hq
  refine SeqAt.in_tupleAt (qf x) pl (fun w hw=>fF rx fx r fs w (by simpa using hw)) ⟨.bl _,H,I,rfl,?_⟩
  rw [show aO.toArray.any (qf x) = aO.any (qf x) by simp,hX r fs]
  exact q
theorem ck:iT X (compareOp .NotIn) (DX X.K true):=by
 intro pins s σ H x y v u Q I rx ry h
 obtain ⟨p,xs,rfl,hq,fx,fs,q⟩:=h
 cases ry
 rcases hq with hq | hq
 ·obtain ⟨aO,r,pl,hz⟩:=I.list hq
  refine SeqAt.notIn_listAt (qf x) pl.isList (fun w hw=>fF rx fx r fs w (by simpa using hw)) ⟨.bl _,H,I,rfl,?_⟩
  rw [show aO.toArray.any (qf x) = aO.any (qf x) by simp,hX r fs]
  exact q
 ·obtain ⟨aO,r,pl,hz⟩:=I.tuple hq
  refine SeqAt.notIn_tupleAt (qf x) pl (fun w hw=>fF rx fx r fs w (by simpa using hw)) ⟨.bl _,H,I,rfl,?_⟩
  rw [show aO.toArray.any (qf x) = aO.any (qf x) by simp,hX r fs]
  exact q
theorem nj:eE X (.type "list") (fun xs H Q=>∃ p ys,xs = [.ref p]∧(aG X.K H p ys∨SqT X.K H p ys)∧∀ l,H l = none→Q (.ref l) (upd H l (.lst ys))):=by
 intro pins s σ H xs us Q I r h
 obtain ⟨p,ys,rfl,hq,q⟩:=h
 obtain ⟨u,rfl,rx⟩:=vals1 r
 cases rx
 have fin:∀ (aO:List Value),Vals ys aO→ys.length≤sizeLine→∀ (h':Heap) (c':Nat),(∀ b o',s.heap.get? b = some o'→h'.get? b = some o')→
   h'.get? s.heap.objs.size = some { cls:=.type "list",dict:=none,data:=.seq aO.toArray c',slots:=#[] }→EP X pins σ Q (.ref s.heap.objs.size) { s with heap:=h' }:=fun aO r' hz h' c' kp e=>
  ⟨.ref s.heap.objs.size,_,I.laid (t':=s.toks) kp (Nat.le_refl _) (show bh X.prog X.w _ h' _ (.lst ys) from ⟨hz,aO,c',r',e⟩),rfl,q _ (I.bz.fresh (Nat.le_refl _))⟩
 rcases hq with hq | hq
 ·obtain ⟨aO,r',pl,hz⟩:=I.list hq
  have hlen:=r'.length
  obtain ⟨o,ho,hc,n,hd⟩:=pl.isList
  exact call_list_seq p (.inl rfl) ho hc hd (fun h' c' kp e=>fin aO r' hz h' c' kp e) (by simp only [List.size_toArray] <;> omega)
 ·obtain ⟨aO,r',pl,hz⟩:=I.tuple hq
  have hlen:=r'.length
  obtain ⟨o,ho,hc,n,hd⟩:=pl
  exact call_list_seq p (.inr rfl) ho hc hd (fun h' c' kp e=>fin aO r' hz h' c' kp e) (by simp only [List.size_toArray] <;> omega)
def DK (K:PySem.W.Frag) (T:String) (x:V) (H:Hp):Prop:=match x with
 | .str _=>T = "str"
 | .int _=>T = "int"
 | .ref p=>(T = "list"∧∃ xs,aG K H p xs)∨(T = "tuple"∧∃ o,K.lookup p = some o∧o.cls = .type "tuple"∧o.dict = none)∨
   (T = "dict"∧((∃ au,H p = some (.dK au))∨∃ au,H p = some (.dT au)))∨(T = "set"∧∃ S n,H p = some (.set S n))
 | _=>False
theorem yW {pins:List (Addr×Obj)} {σ : St} {H:Hp} {s:Shared} {T:String} {x:V} {v:Value} (I:Inv X pins σ H s) (r:RelV x v) (ty:DK X.K T x H) :
  s.TypeIs v T∧∀ a,v = .ref a→∃ ob,s.heap.get? a = some ob∧ob.dict = none:=by
 cases x with
 | str z=>
  obtain ⟨t,rfl⟩:=r
  cases (show T = "str" from ty)
  exact ⟨typeIs_str s z t,fun _ e=>nomatch e⟩
 | int i=>
  obtain ⟨t,rfl⟩:=r
  cases (show T = "int" from ty)
  exact ⟨typeIs_int s i t,fun _ e=>nomatch e⟩
 | ref p=>
  cases r
  rcases ty with ⟨rfl,xs,hq⟩ | ⟨rfl,o,hk,hc,hd⟩ | ⟨rfl,hk⟩ | ⟨rfl,S,n,hk⟩
  ·obtain ⟨aO,_,pl,_⟩:=I.list hq
   refine ⟨pl.isList.typeIs,fun a e=>?_⟩
   cases e
   obtain ⟨o,n,e,c,hd,_⟩:=pl
   exact ⟨o,e,hd⟩
  ·refine ⟨⟨o,I.oz p o hk,hc⟩,fun a e=>?_⟩
   cases e
   exact ⟨o,I.oz _ o hk,hd⟩
  ·have z:∃ o,s.heap.get? p = some o∧o.ExactDict:=by
    rcases hk with ⟨au,hk⟩ | ⟨au,hk⟩
    ·obtain ⟨_,_,_,_,o,_,_,e,ex,_⟩:=I.bz p _ hk
     exact ⟨o,e,ex⟩
    ·obtain ⟨_,_,_,_,o,_,_,e,ex,_⟩:=I.bz p _ hk
     exact ⟨o,e,ex⟩
   obtain ⟨o,e,ex⟩:=z
   refine ⟨⟨o,e,ex.1⟩,fun a e2=>?_⟩
   cases e2
   exact ⟨o,e,ex.2.1⟩
  ·obtain ⟨o,_,_,_,e,ex,_⟩:=I.bz p _ hk
   refine ⟨⟨o,e,ex.1⟩,fun a e2=>?_⟩
   cases e2
   exact ⟨o,e,ex.2.1⟩
 | _=>exact False.elim ty
def Me (K:PySem.W.Frag) (T:String) (r:V→List V→Hp→VK→Prop) (to:TE):TE:=fun σ H Q=>to σ H fun x H1=>DK K T x H1∧r x [] H1 Q
def JS (K:PySem.W.Frag) (T:String) (r:V→List V→Hp→VK→Prop) (to:TE) (t:TA):TE:=fun σ H Q=>to σ H fun x H1=>DK K T x H1∧t σ H1 fun xs H2=>r x xs H2 Q
variable {o e:Expr} {es:List Expr} {to:TE} {t:TA} {name:Str} {apos eC:Pos} {T id:String} {r:V→List V→Hp→VK→Prop}
theorem cE (pa:PlainAttrs T) (slot:Slot T name id) (Ol:typeOf (.builtin id) = pure (.type "method_descriptor")) (hm:LJ X id r) (ho:PE X o to) (ha:PA X (e :: es) t)
  (CS:attributeBase o name X.env (eval o X.env) = eval o X.env:=by rfl)
  (HU:((backTo eC (starEach (e :: es) X.env)).all (fun x=>!x.1) && (backToKw eC (keywordEach [] X.env)).all (fun x=>x.1.isSome)
   && decide ((e :: es).length + ([]:List Keyword).length + (if ([]:List Keyword).isEmpty then 0 else 1) < 30)) = true:=by rfl)
  (CJ:(apos.endLine == eC.line) = true:=by rfl) (hs:starEach (e :: es) X.env = (false,eval e X.env) :: starEach es X.env:=by rfl) (Ak:(backTo eC (starEach es X.env)).any (·.1) = false:=by rfl) :
  PE X (.Call (.Attribute o name apos) (e :: es) [] eC) (JS X.K T r to t):=by
 intro pins s σ H Q I h
 refine wpAny_Call_method_late CS HU CJ rfl (b5 (ho pins s σ H _ I h) fun v s1 ⟨x,H1,I1,r1,ty,q1⟩=>?_)
 obtain ⟨h1,h2⟩:=yW I1 r1 ty
 refine ⟨T,id,pa,slot,Ol,h1,h2,?_⟩
 have hA:=ha eC pins s1 σ H1 _ I1 q1
 rw [hs] at hA ⊢
 refine Calls.callWith_builtin (by show (false || (backTo eC (starEach es X.env)).any (·.1)) = false; rw [Ak] <;> rfl) (Calls.evalArgs_plain ?_)
 exact b5 hA fun us s2 ⟨vs,H2,I2,r2,q2⟩=>hm pins s2 σ H2 x vs v us Q I2 r1 r2 q2
/- xs.append(e),list.index on a module's tuple .. are LJ facts of 06m -/
end
end L2
namespace L2
open PySem PySem.Spec PyProof.Rows
def Br (X:Cx) (id:String) (r:V→List V→Hp→VK→Prop):Prop:=
 ∀ (pins:List (Addr×Obj)) (s:Shared) (σ : St) (H:Hp) (x:V) (xs:List V) (v:Value) (us:List Value) (Q:VK),Inv X pins σ H s→RelV x v→Vals xs us→r x xs H Q→
  wpAny (model X.prog X.w) X.A (call (.builtin id) (v :: us)) (EP X pins σ Q) X.xe s
theorem Vals.one:∀ {x:V} {us:List Value},Vals [x] us→∃ u,us = [u]∧RelV x u
 | _,_,.cons r .nil=>⟨_,rfl,r⟩
theorem Vals.eraseIdx:∀ {xs:List V} {us:List Value} (i:Nat),Vals xs us→Vals (xs.eraseIdx i) (us.eraseIdx i)
 | _,_,_,.nil=>.nil
 | _,_,0,.cons _ t=>t
 | _,_,i + 1,.cons r t=>.cons r (Vals.eraseIdx i t)
theorem lq {α : Type}:∀ (l:List α) (i:Nat),(l.eraseIdx i).length≤l.length
 | [],_=>Nat.le_refl _
 | _ :: _,0=>Nat.le_succ _
 | _ :: r,i + 1=>Nat.succ_le_succ (lq r i)
section
variable {X:Cx} {pins:List (Addr×Obj)} {σ : St} {H:Hp} {s:Shared} {l b:Addr} {xs ys zs:List V}
theorem Inv.u6 {aO its':List Value} {n:Nat} {f:Array Value→Array Value} {t':Nat} (I:Inv X pins σ H s) (hH:H l = some (.lst xs))
  (e:s.heap.get? l = some { cls:=.type "list",data:=.seq aO.toArray n }) (hf:f aO.toArray = its'.toArray) (hv:Vals ys its') (hz:ys.length≤sizeLine) :
  Inv X pins σ (upd H l (.lst ys)) { s with heap:=s.heap.update l (Obj.mapSeq f),toks:=t' }:=by
 have q:=PySem.IsL.update e f
 rw [hf] at q
 refine I.write (x:=l) (e:=l) (by rw [hH]; exact trivial) (.inl rfl) (fun b' u hb hu=>(Heap.get?_update_other s.heap (Obj.mapSeq f) (Ne.symm hb)).trans hu) ⟨_,q⟩ ?_
 exact ⟨hz,its',_,hv,q⟩
theorem Inv.GX {aO:List Value} {t':Nat} (I:Inv X pins σ H s) (hv:Vals ys aO) (hz:ys.length≤sizeLine) :
  Inv X pins σ (upd H s.heap.objs.size (.lst ys)) { s with heap:=s.heap.push { cls:=.type "list",data:=.seq aO.toArray },toks:=t' }:=
 I.laid (fun _ _ q=>Heap.get?_push_of_some _ q) (Nat.le_refl _) ⟨hz,aO,0,hv,Heap.get?_push_size _ rfl⟩
theorem Inv.fresh (I:Inv X pins σ H s):H s.heap.objs.size = none:=I.bz.fresh (Nat.le_refl _)
theorem Inv.mO (I:Inv X pins σ H s) (hH:H l = some (.lst xs)):xs.length≤sizeLine∧∃ (aO:List Value) (n:Nat),Vals xs aO∧xs.length = aO.length∧s.heap.get? l = some { cls:=.type "list",data:=.seq aO.toArray n }:=by
 obtain ⟨z,aO,n,r,e⟩:=I.bz l _ hH
 exact ⟨z,aO,n,r,r.length,e⟩
theorem uQ {n:Nat} (h:n≤sizeLine):Builtin.List.listTooLong n = false:=by
 unfold Builtin.List.listTooLong
 exact decide_eq_false (by omega)
end
section
variable {X:Cx}
def qY:V→List V→Hp→VK→Prop:=fun x vs H Q=>∃ l xs y,x = .ref l∧vs = [y]∧H l = some (.lst xs)∧xs.length < sizeLine∧Q .bY (upd H l (.lst (xs ++ [y])))
theorem cO:Br X "list.append" qY:=by
 intro pins s σ H x vs v us Q I rx rv h
 obtain ⟨l,xs,y,rfl,rfl,hH,hz,q⟩:=h
 cases rx
 obtain ⟨u,rfl,ru⟩:=rv.one
 obtain ⟨z,aO,n,r,hl,e⟩:=I.mO hH
 refine call_meets F.slot_list_append ⟨_,e,rfl⟩ F.entry_list_append (F.args_list_append_2 _ _) (PySem.list_append l aO.toArray n u (by rw [List.size_toArray]; omega)) ⟨e,?_⟩
 refine ⟨.bY,_,I.u6 (its':=aO ++ [u]) hH e (by simp) (r.append (.cons ru .nil)) ?_,rfl,q⟩
 rw [List.length_append,List.length_singleton]
 omega
def qX:V→List V→Hp→VK→Prop:=fun x vs H Q=>∃ l b xs zs,x = .ref l∧vs = [.ref b]∧H l = some (.lst xs)∧H b = some (.lst zs)∧xs.length + zs.length≤sizeLine∧Q .bY (upd H l (.lst (xs ++ zs)))
theorem lh:Br X "list.extend" qX:=by
 intro pins s σ H x vs v us Q I rx rv h
 obtain ⟨l,b,xs,zs,rfl,rfl,hH,hB,hz,q⟩:=h
 cases rx
 obtain ⟨u,rfl,ru⟩:=rv.one
 cases ru
 obtain ⟨z,aO,n,r,hl,e⟩:=I.mO hH
 obtain ⟨z2,oA,n2,r2,CK,e2⟩:=I.mO hB
 have hsz:aO.toArray.size + oA.toArray.size≤sizeLine:=by rw [List.size_toArray,List.size_toArray]; omega
 have CI:¬ (!aO.toArray.isEmpty && Builtin.List.listTooLong (aO.toArray.size + oA.toArray.size)) = true:=by
  rw [uQ hsz,Bool.and_false]
  exact Bool.false_ne_true
 refine call_meets F.slot_list_extend ⟨_,e,rfl⟩ F.entry_list_extend (F.args_list_extend_2 _ _)
  (AutoSeq1.list_extend_list_list_0 l aO.toArray n b oA.toArray n2 CI (by rw [List.size_toArray]; omega) (by omega)) ⟨e,e2,?_⟩
 refine ⟨.bY,_,I.u6 (its':=aO ++ oA) hH e (by simp) (r.append r2) ?_,rfl,q⟩
 rw [List.length_append]
 omega
def ML:V→List V→Hp→VK→Prop:=fun x vs H Q=>∃ l xs y,x = .ref l∧vs = []∧H l = some (.lst xs)∧xs[xs.length - 1]? = some y∧Q y (upd H l (.lst xs.dropLast))
def zw:V→List V→Hp→VK→Prop:=fun x vs H Q=>∃ l xs i k y,x = .ref l∧vs = [.int i]∧H l = some (.lst xs)∧-(2 ^ 63)≤i∧i < 2 ^ 63∧seqIndex? i xs.length = some k∧xs[k]? = some y∧Q y (upd H l (.lst (xs.eraseIdx k)))
theorem u3:Br X "list.pop" zw:=by
 intro pins s σ H x vs v us Q I rx rv h
 obtain ⟨l,xs,i,k,y,rfl,rfl,hH,h1,h2,hk,hy,q⟩:=h
 cases rx
 obtain ⟨u,rfl,ru⟩:=rv.one
 obtain ⟨t,rfl⟩:=ru
 obtain ⟨z,aO,n,r,hl,e⟩:=I.mO hH
 obtain ⟨w,hw,nP⟩:=r.get hy
 refine call_meets F.slot_list_pop ⟨_,e,rfl⟩ F.entry_list_pop (F.args_list_pop_2 _ _)
  (MeetsSeq.list_pop_at l aO.toArray n i t k w (fitsIndex_both h1 h2) (by rw [List.size_toArray,← hl]; exact hk) (by rw [← Array.getElem?_toList]; exact hw) (by rw [List.size_toArray]; omega)) ⟨e,?_⟩
 refine ⟨y,_,I.u6 (its':=aO.eraseIdx k) hH e ?_ (r.eraseIdx k) ?_,nP,q⟩
 ·show aO.toArray.eraseIdxIfInBounds k = (aO.eraseIdx k).toArray
  rw [List.eraseIdxIfInBounds_toArray]
 ·have:=lq xs k
  omega
def B7:V→List V→Hp→VK→Prop:=fun x vs H Q=>∃ l xs,x = .ref l∧vs = []∧H l = some (.lst xs)∧Q .bY (upd H l (.lst xs.reverse))
def FW:V→List V→Hp→VK→Prop:=fun x vs H Q=>∃ l xs,x = .ref l∧vs = []∧H l = some (.lst xs)∧Q .bY (upd H l (.lst []))
def FX:R2:=fun x y H Q=>∃ l b xs zs,x = .ref l∧y = .ref b∧H l = some (.lst xs)∧H b = some (.lst zs)∧xs.length + zs.length≤sizeLine∧∀ p,H p = none→Q (.ref p) (upd H p (.lst (xs ++ zs)))
theorem pV:iT X (binaryOp .Add) FX:=by
 intro pins s σ H x y v u Q I rx ry h
 obtain ⟨l,b,xs,zs,rfl,rfl,hH,hB,hz,q⟩:=h
 cases rx
 cases ry
 obtain ⟨z,aO,n,r,hl,e⟩:=I.mO hH
 obtain ⟨z2,oA,n2,r2,CK,e2⟩:=I.mO hB
 refine PySem.P.add_list e e2 ?_ (by rw [List.size_toArray,List.size_toArray]; omega)
 have ea:aO.toArray ++ oA.toArray = (aO ++ oA).toArray:=by simp
 rw [ea]
 exact ⟨.ref _,_,I.GX (t':=s.toks) (r.append r2) (by rw [List.length_append]; omega),rfl,q _ I.fresh⟩
def MK:R2:=fun x y H Q=>∃ l k xs,x = .ref l∧y = .int k∧H l = some (.lst xs)∧-(2 ^ 63)≤k∧k < 2 ^ 63∧xs.length * k.toNat≤sizeLine∧
 ∀ p,H p = none→Q (.ref p) (upd H p (.lst (List.replicate k.toNat xs).flatten))
end
end L2
namespace L2
open PySem PySem.Spec PyProof.Rows
section
variable {κ : Type} [DecidableEq κ]
def dZ (au:List (κ×V)) (k : κ):Option V:=(au.find? fun kv=>decide (kv.1 = k)).map (·.2)
def putK (au:List (κ×V)) (k : κ) (v:V):List (κ×V):=
 if (au.any fun kv=>decide (kv.1 = k)) = true then au.map (fun kv=>if kv.1 = k then (kv.1,v) else kv) else au ++ [(k,v)]
def vA (au:List (κ×V)) (k : κ):List (κ×V):=au.filter fun kv=>decide (kv.1≠k)
theorem fh {p : κ×V} {r:List (κ×V)} {k : κ} (e:p.1 = k):dZ (p :: r) k = some p.2:=by simp [dZ,List.find?_cons,e]
theorem fi {p : κ×V} {r:List (κ×V)} {k : κ} (e:¬ p.1 = k):dZ (p :: r) k = dZ r k:=by simp [dZ,List.find?_cons,e]
theorem gK (k : κ):∀ au:List (κ×V),(au.any fun kv=>decide (kv.1 = k)) = (dZ au k).isSome
 | []=>rfl
 | p :: r=>by
  rw [List.any_cons]
  by_cases e:p.1 = k
  ·simp only [fh e,decide_eq_true e,Bool.true_or,Option.isSome_some]
  ·rw [fi e,decide_eq_false e,Bool.false_or]; exact gK k r
theorem fH (au:List (κ×V)) (k : κ) (v:V):(putK au k v).length≤au.length + 1:=by
 unfold putK
 split
 ·rw [List.length_map]; omega
 ·rw [List.length_append,List.length_cons,List.length_nil]; omega
theorem nW {au:List (κ×V)} {k : κ} (v:V) (h:dZ au k = none):putK au k v = au ++ [(k,v)]:=by
 unfold putK
 rw [gK,h]
 exact if_neg (by decide)
theorem j5.eh {o:Option V} {u:Option Value} (r:j5 o u):o.isSome = u.isSome:=by
 cases o with
 | none=>cases u with
  | none=>rfl
  | some _=>exact (show False from r).elim
 | some _=>cases u with
  | none=>exact (show False from r).elim
  | some _=>rfl
theorem KV.val {au:List (κ×V)} {vs:List (κ×Value)} (r:KV au vs) (k : κ):j5 (dZ au k) (valueAt vs k):=by
 unfold KV at r
 induction r with
 | nil=>exact True.intro
 | @cons p q ps qs h t ih=>
  obtain ⟨h1,h2⟩:=h
  by_cases e:p.1 = k
  ·have e':q.1 = k:=h1.symm.trans e
   have b:valueAt (q :: qs) k = some q.2:=by simp [valueAt,List.find?_cons,e']
   rw [fh e,b]; exact h2
  ·have e':¬ q.1 = k:=fun z=>e (h1.trans z)
   have b:valueAt (q :: qs) k = valueAt qs k:=by simp [valueAt,List.find?_cons,e']
   rw [fi e,b]; exact ih
theorem KV.any {au:List (κ×V)} {vs:List (κ×Value)} (r:KV au vs) (k : κ):(au.any fun kv=>decide (kv.1 = k)) = vs.any fun kv=>decide (kv.1 = k):=by
 unfold KV at r
 induction r with
 | nil=>rfl
 | cons h t ih=>rw [List.any_cons,List.any_cons,ih,h.1]
theorem KV.zk {au:List (κ×V)} {vs:List (κ×Value)} (r:KV au vs) (k : κ) {y:V} {u:Value} (ry:RelV y u) :
  KV (au.map fun kv=>if kv.1 = k then (kv.1,y) else kv) (vs.map fun kv=>if kv.1 = k then (kv.1,u) else kv):=by
 unfold KV at r ⊢
 induction r with
 | nil=>exact .nil
 | @cons p q ps qs h t ih=>
  rw [List.map_cons,List.map_cons]
  refine .cons ?_ ih
  obtain ⟨h1,h2⟩:=h
  by_cases e:p.1 = k
  ·rw [if_pos e,if_pos (h1.symm.trans e)]; exact ⟨h1,ry⟩
  ·rw [if_neg e,if_neg (fun z=>e (h1.trans z))]; exact ⟨h1,h2⟩
theorem KV.put {au:List (κ×V)} {vs:List (κ×Value)} (r:KV au vs) (k : κ) {y:V} {u:Value} (ry:RelV y u):KV (putK au k y) (stored vs k u):=by
 unfold putK stored
 rw [r.any k]
 by_cases e:(vs.any fun kv=>decide (kv.1 = k)) = true
 ·rw [if_pos e,if_pos e]; exact r.zk k ry
 ·rw [if_neg e,if_neg e]; exact Paired.snoc r ⟨rfl,ry⟩
theorem KV.length {au:List (κ×V)} {vs:List (κ×Value)} (r:KV au vs):au.length = vs.length:=Paired.length r
end
theorem oy {P:Program} {w:World} {k:Key} {u:Value} (r:RelV (kV k) u):(bQ P w).is k u = true:=by
 cases k with
 | inl i=>obtain ⟨t,e⟩:=(show ∃ t,u = Value.int i t from r); subst e; exact oj P w i t
 | inr x=>obtain ⟨t,e⟩:=(show ∃ t,u = Value.str x t from r); subst e; exact oh P w x t
theorem lu {P:Program} {w:World}:∀ {ks:List Key} {us:List Value},Vals (ks.map kV) us→ItemsAre (bQ P w) ks us
 | [],_,r=>by rw [List.map_nil] at r; cases r; exact .nil
 | k :: ks,_,r=>by
  rw [List.map_cons] at r
  cases r with
  | cons h t=>exact .cons (oy h) (lu t)
abbrev KT (H:Hp):List (List Key×V)→List (List Key×Addr×Value)→Prop:=Paired fun p q=>p.1 = q.1∧H q.2.1 = some (.tup (p.1.map kV))∧RelV p.2 q.2.2
theorem KT.val {H:Hp} {au:List (List Key×V)} {xs:List (List Key×Addr×Value)} (r:KT H au xs) (k:List Key):j5 (dZ au k) ((atKey xs k).map (·.2)):=by
 induction r with
 | nil=>exact True.intro
 | @cons p q ps qs h t ih=>
  obtain ⟨h1,_,h2⟩:=h
  by_cases e:p.1 = k
  ·have e':q.1 = k:=h1.symm.trans e
   have b:atKey (q :: qs) k = some q.2:=by simp [atKey,List.find?_cons,e']
   rw [fh e,b]; exact h2
  ·have e':¬ q.1 = k:=fun z=>e (h1.trans z)
   have b:atKey (q :: qs) k = atKey qs k:=by simp [atKey,List.find?_cons,e']
   rw [fi e,b]; exact ih
theorem KT.zk {H:Hp} {au:List (List Key×V)} {xs:List (List Key×Addr×Value)} (r:KT H au xs) (k:List Key) {y:V} {u:Value} (ry:RelV y u) :
  KT H (au.map fun kv=>if kv.1 = k then (kv.1,y) else kv) (xs.map (putAt k u)):=by
 induction r with
 | nil=>exact .nil
 | @cons p q ps qs h t ih=>
  rw [List.map_cons,List.map_cons]
  refine .cons ?_ ih
  obtain ⟨h1,h2,h3⟩:=h
  unfold putAt
  by_cases e:p.1 = k
  ·rw [if_pos e,if_pos (h1.symm.trans e)]; exact ⟨h1,h2,ry⟩
  ·rw [if_neg e,if_neg (fun z=>e (h1.trans z))]; exact ⟨h1,h2,h3⟩
theorem KT.put {H:Hp} {au:List (List Key×V)} {xs:List (List Key×Addr×Value)} (r:KT H au xs) (k:List Key) {b:Addr} {y:V} {u:Value} (hb:H b = some (.tup (k.map kV))) (ry:RelV y u) :
  KT H (putK au k y) (storedH xs k b u):=by
 have e:(au.any fun kv=>decide (kv.1 = k)) = (atKey xs k).isSome:=by
  rw [gK,(r.val k).eh,Option.isSome_map]
 unfold putK storedH
 rw [e]
 by_cases q:(atKey xs k).isSome = true
 ·rw [if_pos q,if_pos q]; exact r.zk k ry
 ·rw [if_neg q,if_neg q]; exact Paired.snoc r ⟨rfl,hb,ry⟩
theorem KT.keeps {H H':Hp} {au:List (List Key×V)} {xs:List (List Key×Addr×Value)} (r:KT H au xs) (ht:∀ b ys,H b = some (.tup ys)→H' b = some (.tup ys)):KT H' au xs:=
 Paired.sL r fun _ _ z=>⟨z.1,ht _ _ z.2.1,z.2.2⟩
section
variable {P:Program} {w:World} {H:Hp} {h:Heap} {a:Addr}
theorem yi {u:HO} (ok:gc P w H h) (e:Rd H a u):bh P w H h a u:=e.ok ok
theorem lH {au:List (Key×V)} (ok:gc P w H h) (e:Rd H a (.dK au)):au.length≤sizeLine∧(a == sysModules) = false∧∃ vs,KV au vs∧h.DictOf (bQ P w) a vs:=
 show bh P w H h a (.dK au) from yi ok e
theorem C7 {au:List (Key×V)} (ok:gc P w H h) (e:H a = some (.dK au)):au.length≤sizeLine∧(a == sysModules) = false∧∃ vs,KV au vs∧h.DictOf (bQ P w) a vs:=lH ok (.inl e)
theorem gD {ks:List Key} (ok:gc P w H h) (e:H a = some (.tup (ks.map kV))):(tupleKind (bQ P w)).is h ks a:=by
 obtain ⟨_,aO,r,o,h1,h2,n,h3⟩:=(show bh P w H h a (.tup (ks.map kV)) from ok a _ e)
 exact ⟨o,aO.toArray,n,h1,h2,h3,by simpa using lu r⟩
theorem lF {au:List (List Key×V)} (ok:gc P w H h) (e:Rd H a (.dT au)):au.length≤sizeLine∧(a == sysModules) = false∧
  ∃ xs,KT H au xs∧h.DictOfH (tupleKind (bQ P w)) a xs:=by
 obtain ⟨z,y,xs,r,o,es,ep,h1,h2,h3,h4,h5⟩:=(show bh P w H h a (.dT au) from yi ok e)
 refine ⟨z,y,xs,r,o,es,ep,h1,h2,h3,h4,fun x hx=>?_,h5⟩
 have all:∀ {l:List (List Key×V)} {m:List (List Key×Addr×Value)},KT H l m→∀ x∈m,(tupleKind (bQ P w)).is h x.1 x.2.1:=by
  intro l m q
  induction q with
  | nil=>intro x hx; exact nomatch hx
  | @cons p q ps qs hq t ih=>
   intro x hx
   rcases List.mem_cons.mp hx with e | hx
   ·subst e
    exact gD ok (by rw [← hq.1]; exact hq.2.1)
   ·exact ih x hx
 exact all r x hx
theorem vz {au:List (List Key×V)} (ok:gc P w H h) (e:H a = some (.dT au)):au.length≤sizeLine∧(a == sysModules) = false∧
  ∃ xs,KT H au xs∧h.DictOfH (tupleKind (bQ P w)) a xs:=lF ok (.inl e)
end
def cW (H:Hp) (a:Addr) (y:V) (r:Option V):Prop:=
 (∃ au k,Rd H a (.dK au)∧y = kV k∧r = dZ au k)∨∃ au k b,Rd H a (.dT au)∧y = .ref b∧H b = some (.tup (k.map kV))∧r = dZ au k
def iJ (H:Hp) (a:Addr) (y v:V) (H':Hp):Prop:=
 (∃ au k,H a = some (.dK au)∧y = kV k∧au.length < sizeLine∧H' = upd H a (.dK (putK au k v)))∨
 ∃ au k b,H a = some (.dT au)∧y = .ref b∧H b = some (.tup (k.map kV))∧au.length < sizeLine∧H' = upd H a (.dT (putK au k v))
theorem cW.t {H:Hp} {a b:Addr} {au:List (List Key×V)} {k:List Key} (e:H a = some (.dT au)) (eb:H b = some (.tup (k.map kV))):cW H a (.ref b) (dZ au k):=.inr ⟨au,k,b,.inl e,rfl,eb,rfl⟩
theorem iJ.t {H:Hp} {a b:Addr} {au:List (List Key×V)} {k:List Key} {v:V} (e:H a = some (.dT au)) (eb:H b = some (.tup (k.map kV))) (hl:au.length < sizeLine) :
  iJ H a (.ref b) v (upd H a (.dT (putK au k v))):=.inr ⟨au,k,b,e,rfl,eb,hl,rfl⟩
section
variable {X:Cx} {pins:List (Addr×Obj)} {σ : St} {H:Hp} {s:Shared} {a:Addr} {y v:V} {u r:Value} {o:Option V} {A:Around} {E:Value→Shared→Prop}
theorem Inv.big (I:Inv X pins σ H s):sysModules < s.heap.objs.size:=by
 have h:mainGlobals < s.heap.objs.size:=(I.mod.glob.keeps I.bk).lt
 exact Nat.lt_trans (by decide) h
theorem tm {Q:Value→Shared→Prop} (hu:A.units + 1 < cLine) (I:Inv X pins σ H s) (g:cW H a y (some v)) (ry:RelV y u) (h:∀ w' s',Inv X pins σ H s'→RelV v w'→Q w' s') :
  wpAny (model X.prog X.w) A (getItem (.ref a) u) Q E s:=by
 rcases g with ⟨au,k,e,ey,l⟩ | ⟨au,k,b,e,ey,eb,l⟩
 ·subst ey
  obtain ⟨z,hd,vs,rel,dd⟩:=lH I.bz e
  obtain ⟨w',hw,nP⟩:=j5.some_of (v:=v) (o:=valueAt vs k) (by rw [l]; exact rel.val k)
  exact wpAny_getItem_of (oy ry) dd.mapOf hw (h w' _ (I.tok _) nP)
 ·subst ey
  cases (show u = Value.ref b from ry)
  obtain ⟨z,hd,xs,rel,dd⟩:=lF I.bz e
  obtain ⟨w',hw,nP⟩:=j5.some_of (v:=v) (o:=(atKey xs k).map (·.2)) (by rw [l]; exact rel.val k)
  obtain ⟨p,hp,sS⟩:=Option.map_eq_some_iff.mp hw
  refine wpAny_getItem_heap (tupleKind_room_in1 hu) (gD I.bz eb) dd hp ?_
  rw [sS]
  exact h w' _ (I.tok _) nP
theorem II {Q:Value→Shared→Prop} (hu:A.units + 1 < cLine) (I:Inv X pins σ H s) (g:cW H a y o) (ry:RelV y u) (h:∀ s',Inv X pins σ H s'→Q (.bool o.isSome) s') :
  wpAny (model X.prog X.w) A (compareOp .In u (.ref a)) Q E s:=by
 rcases g with ⟨au,k,e,ey,l⟩ | ⟨au,k,b,e,ey,eb,l⟩
 ·subst ey
  obtain ⟨z,hd,vs,rel,dd⟩:=lH I.bz e
  refine wpAny_in_of (oy ry) hd dd.mapOf ?_
  rw [← (rel.val k).eh,← l]
  exact h _ (I.tok _)
 ·subst ey
  cases (show u = Value.ref b from ry)
  obtain ⟨z,hd,xs,rel,dd⟩:=lF I.bz e
  refine wpAny_in_heap (tupleKind_room_in1 hu) (gD I.bz eb) hd dd ?_
  have q:=(rel.val k).eh
  rw [Option.isSome_map] at q
  rw [← q,← l]
  exact h _ (I.tok _)
theorem xH {Q:Value→Shared→Prop} (hu:A.units + 1 < cLine) (I:Inv X pins σ H s) (g:cW H a y o) (ry:RelV y u) (h:∀ s',Inv X pins σ H s'→Q (.bool (!o.isSome)) s') :
  wpAny (model X.prog X.w) A (compareOp .NotIn u (.ref a)) Q E s:=by
 rcases g with ⟨au,k,e,ey,l⟩ | ⟨au,k,b,e,ey,eb,l⟩
 ·subst ey
  obtain ⟨z,hd,vs,rel,dd⟩:=lH I.bz e
  refine wpAny_notIn_of (oy ry) hd dd.mapOf ?_
  rw [← (rel.val k).eh,← l]
  exact h _ (I.tok _)
 ·subst ey
  cases (show u = Value.ref b from ry)
  obtain ⟨z,hd,xs,rel,dd⟩:=lF I.bz e
  refine wpAny_notIn_heap (tupleKind_room_in1 hu) (gD I.bz eb) hd dd ?_
  have q:=(rel.val k).eh
  rw [Option.isSome_map] at q
  rw [← q,← l]
  exact h _ (I.tok _)
theorem i9 {h':Heap} {t':Nat} {ob:HO} (I:Inv X pins σ H s) (mu:DB (H a)) (hs:Heap.SameBut a s.heap h') (he:∃ q,h'.get? a = some q) (new:bh X.prog X.w (upd H a ob) h' a ob) :
  Inv X pins σ (upd H a ob) { s with heap:=h',toks:=t' }:=
 I.write (x:=a) (e:=a) mu (.inl rfl) (fun b q hb z=>(hs.2 b hb).trans z) he new
theorem AF {P:Program} {w:World} {H':Hp} {h':Heap} {au:List (Key×V)} {vs:List (Key×Value)} (z:au.length≤sizeLine) (hd:(a == sysModules) = false) (rel:KV au vs) (dd:h'.DictOf (bQ P w) a vs) :
  bh P w H' h' a (.dK au):=⟨z,hd,vs,rel,dd⟩
theorem tj {H':Hp} {Q:Unit→Shared→Prop} (hu:A.units + 1 < cLine) (I:Inv X pins σ H s) (g:iJ H a y v H') (ry:RelV y u) (rv:RelV v r) (h:∀ s',Inv X pins σ H' s'→Q () s') :
  wpAny (model X.prog X.w) A (setItem (.ref a) u r) Q E s:=by
 rcases g with ⟨au,k,e,ey,l,eH⟩ | ⟨au,k,b,e,ey,eb,l,eH⟩
 ·subst ey eH
  obtain ⟨z,hd,vs,rel,dd⟩:=C7 I.bz e
  have hz:vs.length≤sizeLine:=by rw [← rel.length]; exact z
  have hl:(putK au k v).length≤sizeLine:=by have:=fH au k v; omega
  refine wpAny_setItem_pairs (hsz:=hz) (oy ry) dd fun h' yL hs=>h _ ?_
  have he:∃ q,h'.get? a = some q:=let ⟨q,_,_,hq,_⟩:=yL; ⟨q,hq⟩
  exact i9 I (by rw [e]; exact True.intro) hs he (AF hl hd (rel.put k rv) yL)
 ·subst ey eH
  cases (show u = Value.ref b from ry)
  obtain ⟨z,hd,xs,rel,dd⟩:=vz I.bz e
  have hz:xs.length≤sizeLine:=by rw [← Paired.length rel]; exact z
  have hl:(putK au k v).length≤sizeLine:=by have:=fH au k v; omega
  refine wpAny_setItem_heap (hsz:=hz) (tupleKind_room_in1 hu) (gD I.bz eb) dd fun h' yL hs=>h _ ?_
  obtain ⟨q,es,ep,hq,h2,h3,h4,_,h5⟩:=yL
  refine i9 I (by rw [e]; exact True.intro) hs ⟨q,hq⟩ ⟨hl,hd,_,(rel.put k eb rv).keeps fun c ys ec=>?_,q,es,ep,hq,h2,h3,h4,h5⟩
  rw [ak (uY ec e (fun z=>nomatch z))]
  exact ec
end
def DA (i:Expr):Prop:=∀ ov iv,subscripted i false ov iv = operate [ov,iv] (getItem ov iv)
theorem wx {prog:Program} {w:World} {A:Around} {E:Value→Shared→Prop} {s:Shared} {env:Env} {value slice:Expr} {pos:Pos} {T id:String} {Q:Value→Shared→Prop}
  (hl:typeLookup (.type T) "__getitem__" = pure (some (.builtin id))) (hs:DA slice)
  (h:wpAny (model prog w) A (eval value env) (fun o s₁=>wpAny (model prog w) A (eval slice env) (fun i s₂=>s₂.TypeIs o T∧wpAny (model prog w) A (getItem o i) Q E s₂) E s₁) E s) :
  wpAny (model prog w) A (eval (.Subscript value slice pos) env) Q E s:=by
 refine Subscript_ (wpAny_mono h (fun o s₁ h₁=>wpAny_mono h₁ (fun i s₂ h₂=>?_) fun _ _ x=>x) fun _ _ x=>x)
 obtain ⟨hT,h₂⟩:=h₂
 unfold subscriptTail
 refine wpAny_bind ?_
 rw [getitemInPython_of_ne hT.not_modules]
 refine wpAny_bind (wpAny_specialOf hT hl ?_)
 have fin:wpAny (model prog w) A (subscripted slice false o i) (fun r s₃=>wpAny (model prog w) A (letTemporaryGo value o r >>= fun _=>pure r) Q E s₃) E s₂:=by
  rw [hs o i]
  exact wpAny_operating (wpAny_mono h₂ (fun r s₃ h₃=>wpAny_bind (wpAny_letTemporaryGo (wpAny_pure h₃))) fun _ _ x=>x)
 first
  | exact wpAny_pure (wpAny_bind fin)
  | exact wpAny_bind (wpAny_pure (wpAny_bind fin))
  | exact wpAny_bind fin
theorem oN {X:Cx} {pins:List (Addr×Obj)} {σ : St} {H:Hp} {s:Shared} {a:Addr} {y:V} {o:Option V} (I:Inv X pins σ H s) (g:cW H a y o):s.TypeIs (.ref a) "dict":=by
 rcases g with ⟨au,k,e,_,_⟩ | ⟨au,k,b,e,_,_,_⟩
 ·obtain ⟨_,_,vs,_,dd⟩:=lH I.bz e
  exact dd.typeIs
 ·obtain ⟨_,_,xs,_,dd⟩:=lF I.bz e
  exact dd.typeIs
def uf (td ty:TE):TE:=fun σ H Q=>td σ H fun x H1=>ty σ H1 fun y H2=>∃ a v,x = .ref a∧cW H2 a y (some v)∧Q v H2
def BL (ty td:TE):TE:=fun σ H Q=>ty σ H fun y H1=>td σ H1 fun x H2=>∃ a o,x = .ref a∧cW H2 a y o∧Q (.bl o.isSome) H2
def qA (ty td:TE):TE:=fun σ H Q=>ty σ H fun y H1=>td σ H1 fun x H2=>∃ a o,x = .ref a∧cW H2 a y o∧Q (.bl (!o.isSome)) H2
def yh (td ty tv:TE):TS:=fun D σ H=>tv σ H fun v H1=>td σ H1 fun x H2=>ty σ H2 fun y H3=>∃ a H4,x = .ref a∧iJ H3 a y v H4∧D.nx σ H4
def JX (td ty tv:TE) (rd:V→V→Hp→VK→Prop):TS:=fun D σ H=>td σ H fun x H1=>ty σ H1 fun y H2=>∃ a v,x = .ref a∧cW H2 a y (some v)∧
 tv σ H2 fun y2 H3=>rd v y2 H3 fun z H4=>∃ H5,iJ H4 a y z H5∧D.nx σ H5
def JW (td ty:TE):TS:=fun D σ H=>td σ H fun x H1=>ty σ H1 fun y H2=>∃ a au k,x = .ref a∧H2 a = some (.dK au)∧y = kV k∧(dZ au k).isSome = true∧D.nx σ (upd H2 a (.dK (vA au k)))
section
variable {X:Cx} {o i e value:Expr} {pos pos' E6:Pos} {td ty tv:TE}
theorem dS (hu:X.A.units + 1 < cLine) (ho:PE X o td) (hi:PE X i ty) (hs:DA i):PE X (.Subscript o i pos) (uf td ty):=by
 intro pins s σ H Q I h
 refine wx PySem.F.slot_dict_getitem.lookup hs (b5 (ho pins s σ H _ I h) fun u s1 ⟨x,H1,I1,rx,q1⟩=>b5 (hi pins s1 σ H1 _ I1 q1) fun iv s2 ⟨y,H2,I2,ry,a,v,ex,g,q2⟩=>?_)
 subst ex
 obtain rfl:u = Value.ref a:=rx
 exact ⟨oN I2 g,tm hu I2 g ry fun w' s3 I3 nP=>⟨v,H2,I3,nP,q2⟩⟩
theorem uN (hu:X.A.units + 1 < cLine) (hi:PE X i ty) (ho:PE X o td):PC X .In i o (BL ty td):=by
 intro pins s σ H Q I h
 refine b5 (hi pins s σ H _ I h) fun iv s1 ⟨y,H1,I1,ry,q1⟩=>b5 (ho pins s1 σ H1 _ I1 q1) fun u s2 ⟨x,H2,I2,rx,a,ov,ex,g,q2⟩=>?_
 subst ex
 obtain rfl:u = Value.ref a:=rx
 exact II hu I2 g ry fun s3 I3=>⟨.bl ov.isSome,H2,I3,rfl,q2⟩
theorem d9 (hu:X.A.units + 1 < cLine) (hi:PE X i ty) (ho:PE X o td):PC X .NotIn i o (qA ty td):=by
 intro pins s σ H Q I h
 refine b5 (hi pins s σ H _ I h) fun iv s1 ⟨y,H1,I1,ry,q1⟩=>b5 (ho pins s1 σ H1 _ I1 q1) fun u s2 ⟨x,H2,I2,rx,a,ov,ex,g,q2⟩=>?_
 subst ex
 obtain rfl:u = Value.ref a:=rx
 exact xH hu I2 g ry fun s3 I3=>⟨.bl (!ov.isSome),H2,I3,rfl,q2⟩
theorem eQ (hu:X.A.units + 1 < cLine) (ho:PE X o td) (hi:PE X i ty) (hv:PE X value tv) (hs:swapsWith value (some (.Subscript o i pos')) pos.line X.env = pure false) :
  PS X (.Assign [.Subscript o i pos'] value pos) (yh td ty tv):=by
 intro pins s σ H D I h
 refine wpAny_Assign_Subscript (b5 (hv pins s σ H _ I h) fun r s1 ⟨v,H1,I1,rv,q1⟩=>b5 (ho pins s1 σ H1 _ I1 q1) fun u s2 ⟨x,H2,I2,rx,q2⟩=>b5 (hi pins s2 σ H2 _ I2 q2) fun iv s3 ⟨y,H3,I3,ry,a,H4,ex,g,q3⟩=>?_) hs
 subst ex
 obtain rfl:u = Value.ref a:=rx
 exact tj hu I3 g ry rv fun s4 I4=>⟨σ,H4,I4,q3⟩
end
theorem oM {P:Program} {w:World} {H:Hp} (h:Heap) (hb:sysModules < h.objs.size):bh P w H (h.push { cls:=.type "dict",data:=.dict #[] }) h.objs.size (.dT []):=
 ⟨Nat.zero_le _,beq_eq_false_iff_ne.mpr (Ne.symm (Nat.ne_of_lt hb)),[],.nil,_,#[],0,Heap.get?_push_size _ rfl,⟨rfl,rfl,rfl⟩,rfl,rfl,List.nodup_nil⟩
def Fm:TE:=fun _ H Q=>∀ p,H p = none→Q (.ref p) (upd H p (.dK []))
def y6:TE:=fun _ H Q=>∀ p,H p = none→Q (.ref p) (upd H p (.dT []))
section
variable {X:Cx} {pos:Pos}
theorem jy:PE X (.Dict [] [] pos) y6:=fun pins s σ H Q I h=>
 wpAny_Dict_empty ⟨.ref s.heap.objs.size,_,I.laid (a:=s.heap.objs.size) (o:=.dT []) (t':=s.toks) (fun _ _ q=>Heap.get?_push_of_some _ q) (Nat.le_refl _) (oM s.heap I.big),rfl,h _ (I.bz.fresh (Nat.le_refl _))⟩
end
def lW:List (TE×TE)→St→Hp→(List (V×V)→Hp→Prop)→Prop
 | [],_,H,Q=>Q [] H
 | (tk,tv) :: r,σ,H,Q=>tk σ H fun x H1=>tv σ H1 fun y H2=>lW r σ H2 fun ps H3=>Q ((x,y) :: ps) H3
abbrev VV:List (V×V)→List (Value×Value)→Prop:=Paired fun p q=>RelV p.1 q.1∧RelV p.2 q.2
def Jz (X:Cx) (pos:Pos) (keys:List (Option Expr)) (values:List Expr) (Bb:List (TE×TE)):Prop:=
 ∀ (pins:List (Addr×Obj)) (s:Shared) (σ : St) (H:Hp) (Q:List (V×V)→Hp→Prop),Inv X pins σ H s→lW Bb σ H Q→
  wpAny (model X.prog X.w) X.A (evalPairs (pairTrees keys values X.env pos)) (fun vs s'=>∃ ps H',Inv X pins σ H' s'∧VV ps vs∧Q ps H') X.xe s
theorem wK {X:Cx} {pos:Pos}:Jz X pos [] [] []:=fun pins s σ H Q I h=>pairTrees_nil_walk ⟨[],H,I,.nil,h⟩
theorem uK {X:Cx} {pos:Pos} {k v:Expr} {ks:List (Option Expr)} {vs:List Expr} {tk tv:TE} {Bb:List (TE×TE)} (hk:PE X k tk) (hv:PE X v tv) (hr:Jz X pos ks vs Bb) :
  Jz X pos (some k :: ks) (v :: vs) ((tk,tv) :: Bb):=fun pins s σ H Q I h=>
 pairTrees_cons_walk (b5 (hk pins s σ H _ I h) fun u s1 ⟨x,H1,I1,rx,q1⟩=>b5 (hv pins s1 σ H1 _ I1 q1) fun w2 s2 ⟨y,H2,I2,ry,q2⟩=>
  b5 (hr pins s2 σ H2 _ I2 q2) fun ws s3 ⟨ps,H3,I3,rel,q3⟩=>⟨(x,y) :: ps,H3,I3,.cons ⟨rx,ry⟩ rel,q3⟩)
def zQ (au more:List (Key×V)):List (Key×V):=more.foldl (fun acc kv=>putK acc kv.1 kv.2) au
def JQ (Bb:List (TE×TE)):TE:=fun σ H Q=>∀ p,H p = none→lW Bb σ (upd H p (.dK [])) fun ps H2=>H2 p = some (.dK [])∧∃ au:List (Key×V),ps = au.map (fun kv=>(kV kv.1,kv.2))∧au.length≤15∧Q (.ref p) (upd H2 p (.dK (zQ [] au)))
structure M1 (X:Cx) (o:Expr) (m:Str) (apos:Pos) (e:Expr) (eC:Pos):Prop where
 base:attributeBase o m X.env (eval o X.env) = eval o X.env
 lC:((backTo eC (starEach [e] X.env)).all (fun x=>!x.1) && (backToKw eC (keywordEach [] X.env)).all (fun x=>x.1.isSome)
  && decide (([e]:List Expr).length + ([]:List Keyword).length + (if ([]:List Keyword).isEmpty then 0 else 1) < 30)) = true
 line:(apos.endLine == eC.line) = true
 trees:backTo eC (starEach [e] X.env) = [(false,eval e X.env)]
structure M2 (X:Cx) (o:Expr) (m:Str) (apos:Pos) (e f:Expr) (eC:Pos):Prop where
 base:attributeBase o m X.env (eval o X.env) = eval o X.env
 lC:((backTo eC (starEach [e,f] X.env)).all (fun x=>!x.1) && (backToKw eC (keywordEach [] X.env)).all (fun x=>x.1.isSome)
  && decide (([e,f]:List Expr).length + ([]:List Keyword).length + (if ([]:List Keyword).isEmpty then 0 else 1) < 30)) = true
 line:(apos.endLine == eC.line) = true
 trees:backTo eC (starEach [e,f] X.env) = [(false,eval e X.env),(false,eval f X.env)]
def Bt (H:Hp) (a:Addr):Prop:=(∃ au,Rd H a (.dK au))∨∃ au,Rd H a (.dT au)
theorem Ac {X:Cx} {pins:List (Addr×Obj)} {σ : St} {H:Hp} {s:Shared} {a:Addr} (I:Inv X pins σ H s) (d:Bt H a) :
  s.TypeIs (.ref a) "dict"∧(∀ b,Value.ref a = .ref b→∃ ob,s.heap.get? b = some ob∧ob.dict = none)∧(a == sysModules) = false:=by
 rcases d with ⟨au,e⟩ | ⟨au,e⟩
 ·obtain ⟨_,hd,vs,_,dd⟩:=lH I.bz e
  refine ⟨dd.typeIs,fun b q=>?_,hd⟩
  cases q
  obtain ⟨ob,_,_,h1,h2,_⟩:=dd
  exact ⟨ob,h1,h2.2.1⟩
 ·obtain ⟨_,hd,xs,_,dd⟩:=lF I.bz e
  refine ⟨dd.typeIs,fun b q=>?_,hd⟩
  cases q
  obtain ⟨ob,_,_,h1,h2,_⟩:=dd
  exact ⟨ob,h1,h2.2.1⟩
def Fo (td ty:TE):TE:=fun σ H Q=>td σ H fun x H1=>∃ a,x = .ref a∧Bt H1 a∧ty σ H1 fun y H2=>∃ o,cW H2 a y o∧Q (o.getD .bY) H2
def Fn (td ty tx:TE):TE:=fun σ H Q=>td σ H fun x H1=>∃ a,x = .ref a∧Bt H1 a∧ty σ H1 fun y H2=>tx σ H2 fun z H3=>∃ o,cW H3 a y o∧Q (o.getD z) H3
def Fj (td ty:TE):TE:=fun σ H Q=>td σ H fun x H1=>∃ a,x = .ref a∧Bt H1 a∧ty σ H1 fun y H2=>∃ au k v,H2 a = some (.dK au)∧y = kV k∧dZ au k = some v∧Q v (upd H2 a (.dK (vA au k)))
def Fh (td ty tx:TE):TE:=fun σ H Q=>td σ H fun x H1=>∃ a,x = .ref a∧Bt H1 a∧ty σ H1 fun y H2=>tx σ H2 fun z H3=>∃ au k,H3 a = some (.dK au)∧y = kV k∧
 (∀ v,dZ au k = some v→Q v (upd H3 a (.dK (vA au k))))∧(dZ au k = none→Q z H3)
end L2
namespace LQ
open PySem PySem.W PySem.Calls PyProof.Rows
theorem iS {P:Params} {h:Heap}:∀ (ns:List Int) (vs:List Value),WellAll P h vs (ns.map WData.int)→IntsAre vs ns:=by
 intro ns
 induction ns with
 | nil=>
  intro vs w
  rw [List.map_nil] at w
  cases w
  exact .nil
 | cons n ns ih=>
  intro vs w
  rw [List.map_cons] at w
  cases w with
  | cons a b=>
   cases a
   exact .cons _ _ (ih _ b)
theorem sC {l:OpenLaw} {n:Nat} (hn:l.most = some n) {P:Params} {h:Heap} {args:List WData} {vals:List Value}
  (xt:l.row.toRowW.claim.pre args = true) (Hl:WellAll P h vals args) :
  ∃ a vs ns,vals = [Value.ref a]∧args = [WData.list (ns.map WData.int)]∧h.get? a = some { cls:=.type "list",data:=.seq vs.toArray }∧IntsAre vs ns∧ns.length≤n:=by
 have Ou:WShape.hasAll [] args [.list .int] = true:=(pre_splitW xt).1
 have hc:l.pre.holds [] { args:=args } = true:=(pre_splitW xt).2
 obtain ⟨d,r,rfl,h1,h2⟩:=hasAllW_cons Ou
 obtain rfl:=hasAllW_nil h2
 obtain ⟨xs,rfl,h3⟩:=hasW_list h1
 obtain ⟨ns,rfl⟩:=items_int h3
 have hlen:ns.length≤n:=by
  unfold OpenLaw.pre at hc
  have h4:(WTm.not (.lt (.lit (.int (n:Int))) (.len (.arg 0)))).holds [] { args:=[.list (ns.map .int)] } = true:=by
   have h4:=(holds_andW hc).1
   rw [hn] at h4
   exact h4
  have h5:=condW_of h4 (w_not (w_lt w_lit (w_len_list (w_arg rfl))))
  rw [List.length_map] at h5
  refine Nat.le_of_not_lt fun q=>?_
  have q':(n:Int) < ((ns.length:Nat):Int):=by omega
  first
   | (rw [decide_eq_true q'] at h5; exact absurd h5 (by decide))
   | (simp at h5; omega)
 cases Hl with
 | cons w1 w2=>
  cases w2
  cases w1 with
  | list ho Ib=>exact ⟨_,_,ns,rfl,rfl,ho,iS ns _ Ib,hlen⟩
theorem sH (l:OpenLaw) (args:List WData):l.row.toRowW.claim.post args (.bool true) args = true:=
 postW_of (r:=l.row.toRowW) (X:=(true == true))
  (show WShape.has [] (.bool true) .bool = true by first | rfl | decide | simp [WShape.has,WShape.arms,WShape.armsAll])
  (show (WTm.eq .res (.lit (.bool true))).value [] { args:=args,res:=some (.bool true),after:=args } = some (.bool (true == true)) from w_eq_bool (w_res rfl) w_lit) rfl
theorem oU {l:OpenLaw} {n:Nat} {q:Program} {loose:List Str} {XP:(Str→Option Value)→Heap→Prop} {YP:World→Heap→Prop} {d:DefRec}
  (hn:l.most = some n) (CP:d.params.defaults = [])
  (call:∀ (w:World) (s₀ s₁ : Shared) (mg mb:Str→Option Value) (fa:Addr) (o:Obj) (pm cd doc:Value) (a:Addr) (vs:List Value) (ns:List Int),
   Ground q loose [] XP w s₀ mg mb s₁.heap→YP w s₁.heap→
   s₁.heap.get? fa = some o→o.data = .func (docDef d.name d.params d.body d.scope pm cd doc)→s₁.heap.CodeRec cd d.name→mg d.name = some (.ref fa)→
   s₁.heap.get? a = some { cls:=.type "list",data:=.seq vs.toArray }→IntsAre vs ns→ns.length≤n→s₁.gens = #[]→
   codeAny (model l.prog w) callerA (.call (.ref fa) ⟨[.ref a],[]⟩) (fun r s'=>r = .ok (.ret (.bool true))∧OldK s₁.heap s'.heap∧s'.os = s₁.os∧AllBare s'.gens) s₁) :
  WalkO q loose XP YP l.row.toRowW d [] (fun f vs=>PySem.call f vs):=by
 intro w s₀ s₁ mg mb G Y fa o pm cd doc dV kV ho hd sV hD CH hg args vals as xt OT RI Hl RK
 obtain rfl:dV = .none:=Dflts.none hD CP
 obtain rfl:kV = .none:=Dflts.noKw hD
 obtain ⟨a,vs,ns,rfl,rfl,Al,hints,hlen⟩:=sC hn xt Hl
 refine enter_call (codeAny_mono (call w s₀ s₁ mg mb fa o pm cd doc a vs ns G Y ho (fd_plain hd) sV CH Al hints hlen hg) fun r s' hq=>?_)
 obtain ⟨rfl,h2,h3,h4⟩:=hq
 exact ⟨.inl ⟨.bool true,.bool true,[],rfl,fun _=>rfl,.bool true,sH l _,fun _=>⟨List.Pairwise.nil,fun _ hm=>(nomatch hm)⟩⟩,h2,h3,h4⟩
section
variable {prog:Program} {w:World} {A:Around} {E:Value→Shared→Prop} {s:Shared} {K:Frag}
def GR (h:Heap):Heap:={ h with objs:=#[] }
def ledger (h:Heap) (L d:Addr):List (Addr×Obj):=(List.range h.objs.size).filterMap fun a=>if a = L∨a = d then none else (h.get? a).map fun o=>(a,o)
end
end LQ
namespace L2
open PySem PySem.Spec PyProof.Rows
theorem fQ:∀ {vs:List Value} {ns:List Int},IntsAre vs ns→Vals (ns.map V.int) vs
 | _,_,.nil=>.nil
 | _,_,.cons n t h=>.cons ⟨t,rfl⟩ (fQ h)
def AX (H:Hp):Prop:=∀ b,H b = none∨∃ o xs,H b = some (.eF o (.lst xs))
theorem vc {P:Program} {w:World} {K:PySem.W.Frag} {mg mb:Str→Option Value} {CX:qx} {k:Nat} {fa a:Addr} {fd:FuncData} {x:Str} {sp:Sp} {s₁ : Shared} {vs:List Value} {ns:List Int}
  (KX:K.In s₁.heap) (Bj:s₁.heap.Ns mainGlobals mg) (hb:s₁.heap.Ns builtinsNs mb) (Pb:∀ x:Str,x≠ "__name__"→mb x = bootBuiltins x) (HI:s₁.heap.NoLimit) (hg:s₁.gens = #[])
  (ha:s₁.heap.get? a = some { cls:=.type "list",data:=.seq vs.toArray }) (hi:IntsAre vs ns) (hl:ns.length≤sizeLine) (hr:dI k callerA)
  (F:∀ base:Heap,K.In base→base.Ns mainGlobals mg→kJ P w K mg base CX k fa fd [x] sp) (CQ:∀ (s:Shared) (u:Value),BindsTo s fd ⟨[u],[]⟩ [(x,u)])
  (o6:∀ H:Hp,AX H→aG K H a (ns.map V.int)→sp [.ref a] H (fun v _=>v = .bl true) fun _ _ _=>False)
  (Ii:∀ H e s',CX [] H s₁ (fun _ _ _=>False) e s'→False) :
  codeAny (model P w) callerA (.call (.ref fa) ⟨[.ref a],[]⟩) (fun r s'=>r = .ok (.ret (.bool true))∧OldK s₁.heap s'.heap∧s'.os = s₁.os∧AllBare s'.gens) s₁:=by
 have rv:=fQ hi
 have GY:=hi.length
 -- from an abstract heap in JF nothing but tZ um may be tracked
 have core:∀ H:Hp,AX H→aG K H a (ns.map V.int)→gc P w H s₁.heap→(∀ b,H b≠none→b = a)→(H a≠none→K.lookup a = none)→
   codeAny (model P w) callerA (.call (.ref fa) ⟨[.ref a],[]⟩) (fun r s'=>r = .ok (.ret (.bool true))∧OldK s₁.heap s'.heap∧s'.os = s₁.os∧AllBare s'.gens) s₁:=by
  intro H hO hS bz hA hK
  have rW:∀ {b:Addr} {o:Obj},s₁.heap.get? b = some o→H b = none→(mU s₁.heap H).get? b = some o:=fun e n=>vp e n
  have Cj:∀ {b:Addr} {o:Obj} {es:Array DictEntry} {ep:Nat},s₁.heap.get? b = some o→o.data = .dict es ep→H b = none:=fun {b o es ep} e d=>by
   cases q:H b with
   | none=>rfl
   | some u=>
    have e':b = a:=hA b (by rw [q]; simp)
    subst e'
    rw [ha] at e; cases e
    have d':Data.seq vs.toArray _ = Data.dict es ep:=d
    cases d'
  have Ef:∀ {b:Addr} {m:Str→Option Value},s₁.heap.Ns b m→(mU s₁.heap H).Ns b m:=fun {b m} ⟨o,es,ep,e,d,r⟩=>⟨o,es,ep,rW e (Cj e d),d,r⟩
  have La:K.In (mU s₁.heap H):=fun b o e=>rW (KX b o e) (by
   cases q:H b with
   | none=>rfl
   | some u=>
    have e':b = a:=hA b (by rw [q]; simp)
    subst e'
    rw [hK (by rw [q]; simp)] at e; cases e)
  have hM:Mod K mg (mU s₁.heap H):=⟨La,Ef Bj,⟨mb,Ef hb,Pb⟩,let ⟨mc,h1,h2⟩:=HI; ⟨mc,Ef h1,h2⟩⟩
  have e0:xW P w K mg (mU s₁.heap H) callerA [] s₁ H:=⟨rfl,hM,fun b o e=>wX e,Nat.le_of_eq (sU _ _),trivial,fun b hb=>absurd (show b∈([]:List Addr) from hb) (by simp),bz,.of_eq hg⟩
  refine codeAny_mono ((F _ La (Ef Bj)).run callerA [] s₁ H ⟨[.ref a],[]⟩ [.ref a] [.ref a] _ _ hr e0 (CQ s₁ (.ref a)) (.cons rfl .nil) (o6 H hO hS)) fun r s' h=>?_
  cases r with
  | error e=>exact (Ii H e s' h).elim
  | ok fl=>
   cases fl with
   | next=>exact False.elim h
   | brk=>exact False.elim h
   | cont=>exact False.elim h
   | ret u=>
    obtain ⟨v,H',os,bare,un,HD,r',q⟩:=h
    have q':v = .bl true:=q
    subst q'
    obtain rfl:u = Value.bool true:=r'
    refine ⟨rfl,OldK.of_keep fun b o e=>?_,os,bare⟩
    cases q:H b with
    | none=>exact un.keep b o e q (by intro z; exact absurd (show b∈([]:List Addr) from z) (by simp)) (by simp)
    | some u=>
     rcases hO b with z | ⟨ob,xs,z⟩
     ·rw [q] at z; cases z
     ·have z2:=un.kG b ob _ z
      obtain ⟨e1,_⟩:=bz b _ z
      obtain ⟨e2,_⟩:=HD b _ z2
      rw [e] at e1; cases e1
      exact e2
 cases hk:K.lookup a with
 | some o=>
  -- tZ um is one of tZ module's own objects
  have e:=KX a o hk
  rw [ha] at e
  cases e
  refine core (fun _=>none) (fun _=>.inl rfl) (.inr ⟨_,vs.toArray,_,hk,rfl,rfl,rfl,by rw [List.size_toArray,GY]; exact hl,by simpa using rv⟩) (fun b u z=>by have z':(none:Option HO) = some u:=z; cases z') (fun b z=>absurd rfl z) fun z=>absurd rfl z
 | none=>
  refine core (fun b=>if b = a then some (.eF { cls:=.type "list",data:=.seq vs.toArray } (.lst (ns.map V.int))) else none) (fun b=>?_) (.inl (.inr ⟨{ cls:=.type "list",data:=.seq vs.toArray },if_pos rfl⟩)) (fun b u z=>?_) (fun b z=>?_) fun _=>hk
  ·by_cases hb:b = a
   ·exact .inr ⟨_,_,if_pos hb⟩
   ·exact .inl (if_neg hb)
  ·by_cases hb:b = a
   ·have z':=(if_pos hb).symm.trans z
    cases z'
    subst hb
    exact ⟨ha,by rw [List.length_map]; exact hl,vs,_,rv,ha⟩
   ·have z':=(if_neg hb).symm.trans z
    cases z'
  ·by_cases hb:b = a
   ·exact hb
   ·exact absurd (if_neg hb) z
end L2
namespace L2
open PySem PySem.Spec PyProof.Rows
abbrev Sh {K:PySem.W.Frag} {h:Heap} (_:K.In h):PySem.W.Frag:=K
theorem wg {l:PySem.W.OpenLaw} {n k:Nat} {q:Program} {loose:List Str} {XP:(Str→Option Value)→Heap→Prop} {YP:World→Heap→Prop} {d:DefRec} {K:Params→PySem.W.Frag} {CX:World→qx} {sp:World→Sp} {x:Str}
  (hn:l.most = some n) (OO:n≤sizeLine) (CP:d.params.defaults = []) (hr:dI k callerA)
  (hY:∀ (w:World) (h:Heap),YP w h→(K w.params).In h)
  (F:∀ (w:World) (mg:Str→Option Value) (fa:Addr) (h:Heap),(K w.params).In h→h.Ns mainGlobals mg→mg d.name = some (.ref fa)→
   ∃ fd:FuncData,(∀ (s:Shared) (u:Value),BindsTo s fd ⟨[u],[]⟩ [(x,u)])∧
    ∀ base:Heap,(K w.params).In base→base.Ns mainGlobals mg→kJ l.prog w (K w.params) mg base (CX w) k fa fd [x] (sp w))
  (o6:∀ (w:World) (H:Hp) (a:Addr) (ns:List Int),ns.length≤n→AX H→aG (K w.params) H a (ns.map V.int)→sp w [.ref a] H (fun v _=>v = .bl true) fun _ _ _=>False)
  (Ii:∀ (w:World) (H:Hp) (s:Shared) (e:Value) (s':Shared),CX w [] H s (fun _ _ _=>False) e s'→False) :
  PySem.W.WalkO q loose XP YP l.row.toRowW d [] (fun f vs=>PySem.call f vs):=by
 refine LQ.oU hn CP fun w s₀ s₁ mg mb fa o pm cd doc a vs ns G Y ho hd sV CH Al hints hlen hg=>?_
 have KX:=hY w _ Y
 obtain ⟨fd,hb,hF⟩:=F w mg fa _ KX G.T.g CH
 exact vc KX G.T.g G.T.b G.T.builtins G.T.nolimit hg Al hints (Nat.le_trans hlen OO) hr hF hb (fun H hO hS=>o6 w H a ns hlen hO hS) fun H e s'=>Ii w H s₁ e s'
end L2
namespace L2
open PySem PySem.Spec PyProof.Rows
def inClass (s:Stmt) (j:Nat):Stmt:=match s with
 | .ClassDef _ _ _ body _ _ _ _ _ _ _=>body.getD j (.Pass ⟨0,0,0,0⟩)
 | _=>.Pass ⟨0,0,0,0⟩
def aW (s:Stmt):Arguments:=match s with
 | .FunctionDef _ a _ _ _ _ _ _ _ _=>a
 | _=>{ posonlyargs:=[],args:=[],vararg:=none,kwonlyargs:=[],kw_defaults:=[],kwarg:=none,defaults:=[] }
def aS (s:Stmt):List Stmt:=match s with
 | .FunctionDef _ _ b _ _ _ _ _ _ _=>b
 | _=>[]
def aw (s:Stmt):Scope:=match s with
 | .FunctionDef _ _ _ _ _ _ sc _ _ _=>sc
 | _=>{ kind:=.function,names:=[],isGenerator:=false,isCoroutine:=false }
abbrev Sl:qx:=fun _ _ _ _ _ _=>False
abbrev E0:XK:=fun _ _ _=>False
structure A8 (K:PySem.W.Frag) (x qual:Str) (st:Stmt) (f:Addr) (fd:FuncData):Prop where
 ex:∃ (oc:Value) (od:Option Addr) (kV doc pm:Value) (an:Option Addr) (dv ct:Value) (wV:Array (Option Value)),
  fd = PySem.W.fnOf x qual (aW st) (aS st) (aw st) .none kV doc pm an dv ct∧K.lookup f = some ⟨oc,od,.func fd,wV⟩∧PySem.W.codeIn K dv qual = true
 kp:PySem.W.keepIn K (.ref f) = true
section
variable {P:Program} {w:World} {K:PySem.W.Frag} {mg:Str→Option Value} {base:Heap}
theorem A8.binds {x qual:Str} {st:Stmt} {f:Addr} {fd:FuncData} {ps:List Str} (F:A8 K x qual st f fd)
  (h:∀ (kV doc pm:Value) (an:Option Addr) (dv ct:Value) (us:List Value),us.length = ps.length→bindArgs (PySem.W.fnOf x qual (aW st) (aS st) (aw st) .none kV doc pm an dv ct) ⟨us,[]⟩ = pure (ps.zip us)):Binds K fd ps []:=by
 obtain ⟨oc,od,kV,doc,pm,an,dv,ct,wV,rfl,lk,sV⟩:=F.ex
 exact .all (h kV doc pm an dv ct)
theorem aM {x qual:Str} {st:Stmt} {f:Addr} {oc:Value} {od an:Option Addr} {wV:Array (Option Value)} {kV doc pm dv ct:Value} (l:K.lookup f = some ⟨oc,od,.func (PySem.W.fnOf x qual (aW st) (aS st) (aw st) .none kV doc pm an dv ct),wV⟩)
  (c:PySem.W.codeIn K dv qual = true) (k:PySem.W.keepIn K (.ref f) = true):A8 K x qual st f (PySem.W.fnOf x qual (aW st) (aS st) (aw st) .none kV doc pm an dv ct):=⟨⟨oc,od,kV,doc,pm,an,dv,ct,wV,rfl,l,c⟩,k⟩
end
theorem b8 {A:Around} {k:Nat} (hr:dI k A):A.units + 1 < cLine:=Nat.lt_of_le_of_lt (Nat.add_le_add_left (by decide:1≤64) _) hr.units
section
variable {X:Cx}
theorem pv (i:Nat) {x:Str} {pos:Pos} (hN:X.N[i]? = some x:=by rfl) (hv:EV X.env.scope x:=by first | exact Or.inl rfl | exact Or.inr (Or.inl rfl) | exact Or.inr (Or.inr rfl)) (hd:(x == ("__debug__" : Str)) = false:=by decide)
  (sV:(x == ("__classdict__" : Str)) = false:=by decide):PE X (.Name x pos) (jg i):=zE hN hv hd sV
end
theorem xj {A B:Prop} (h:B):if false = true then A else B:=by
 rw [if_neg Bool.false_ne_true]
 exact h
theorem Aa {A B:Prop} (h:A):if true = true then A else B:=by
 rw [if_pos rfl]
 exact h
def aj (H H':Hp):Prop:=∀ b o,H b = some o→H' b = some o
theorem aj.trans {H H1 H2:Hp} (a:aj H H1) (b:aj H1 H2):aj H H2:=fun c o h=>b c o (a c o h)
theorem aj.free {H H':Hp} (e:aj H H') {l:Addr} (h:H' l = Option.none):H l = Option.none:=by
 cases q:H l with
 | none=>rfl
 | some o=>
  rw [e l o q] at h
  cases h
theorem aj.seq {K:PySem.W.Frag} {H H':Hp} {a:Addr} {xs:List V} (e:aj H H') (h:aG K H a xs):aG K H' a xs:=by
 rcases h with (h | ⟨o,h⟩) | h
 ·exact .inl (.inl (e _ _ h))
 ·exact .inl (.inr ⟨o,e _ _ h⟩)
 ·exact .inr h
end L2

section
namespace L2
open PySem PySem.Spec PyProof.Rows
def Sz (n:Nat) (x:Int):Prop:=x.natAbs < 2 ^ n
theorem Sz.mono {m n:Nat} {x:Int} (h:Sz m x) (OQ:m≤n):Sz n x:=Nat.lt_of_lt_of_le h (Nat.pow_le_pow_right (by decide) OQ)
theorem Sz.Cp {m n:Nat} {x y:Int} (hx:Sz m x) (hy:Sz n y) (hm:m + n≤134217728:=by decide):IntMulOk x y:=
 PySem.IntMulOk.of_le (PySem.intBits_le_iff.mpr hx) (PySem.intBits_le_iff.mpr hy) hm
section
variable {X:Cx}
theorem fZ:iT X (binaryOp .Mult) (rI IntMulOk fun i j=>.int (i * j)):=Ed fun _ _ _ _ _ _ _ hc q=>mul_int q hc
def JE (_ j:Int):Prop:=j≠0∧Sz 9000 j
theorem JE.np {i j:Int} (h:JE i j):Builtin.divisionGoesByPylong i j = false:=by
 refine PyProof.noPylong_of_log2 ?_
 have h0:j.natAbs≠0:=fun e=>h.1 (Int.natAbs_eq_zero.mp e)
 exact (Nat.log2_lt h0).mpr h.2
def JD (_ j:Int):Prop:=0 < j∧Sz 9000 j
theorem cJ:iT X (binaryOp .FloorDiv) (rI JD fun i j=>.int (i / j)):=Ed fun i j _ _ _ _ _ hc q=>by
 have h1:(0:Int) < j:=hc.1
 exact floordiv_int (by omega) (by rw [Int.fdiv_eq_ediv_of_nonneg i (by omega)]; exact q) (.inl (JE.np ⟨by omega,hc.2⟩))
end
structure dE (P:Program) (w:World) (K:PySem.W.Frag) (mg:Str→Option Value) (base:Heap) (CX:qx) (x:Str) (k:Nat) (ps:List Str) (sp:Sp):Prop where
 ex:∃ f fd,kJ P w K mg base CX k f fd ps sp∧mg x = some (.ref f)∧PySem.W.keepIn K (.ref f) = true∧Binds K fd ps []
section
variable {X:Cx} {CX:qx} {k j:Nat} {ps:List Str} {sp:Sp} {E:XK} {x:Str} {p pos:Pos} {e:Expr} {es:List Expr} {t:TA}
theorem aN (h:dE X.prog X.w X.K X.mg X.base CX x k ps sp) (hr:dI j X.A) (hx:Passes CX X E) (ha:PA X (e :: es) t) (hk:k≤j:=by decide) (hg:Gl X x:=by rfl) (Aq:(x == ("__debug__" : Str)) = false:=by decide)
  (he:starEach (e :: es) X.env = (false,eval e X.env) :: starEach es X.env:=by rfl) (vW:(backTo pos (starEach es X.env)).any (·.1) = false:=by rfl) :
  PE X (.Call (.Name x p) (e :: es) [] pos) (uh sp [] E t):=by
 obtain ⟨f,fd,F,hm,OV,hb⟩:=h.ex
 exact wQ F (hr.mono hk) hg hm OV hb .nil hx ha Aq he vW
end
inductive tO:V→Value→Prop where
 | ty (n:String):tO (.ty n) (.type n)
 | ref (a:Addr):tO (.ref a) (.ref a)
def yp (K:PySem.W.Frag):List V→Hp→VK→Prop:=fun xs H Q=>∃ x c t u b,xs = [x,c]∧hZ K H x t∧tO c u∧PySem.W.kitOne K t u = some b∧Q (.bl b) H
theorem cV {X:Cx}:eE X (.builtin "isinstance") (yp X.K):=by
 intro pins s σ H xs us Q I r h
 obtain ⟨x,c,t,u,b,rfl,ty,rc,e,q⟩:=h
 obtain ⟨u1,u2,rfl,r1,r2⟩:=vals2 r
 have e2:u2 = u:=by
  cases rc <;> (cases r2; rfl)
 subst e2
 exact sP I r1 ty e fun tk=>⟨.bl b,H,I.tok _,rfl,q⟩
section
variable {X:Cx} {pins:List (Addr×Obj)} {σ : St} {H:Hp} {s:Shared} {h':Heap}
theorem Inv.sj {t':Nat} {ch:List Addr} {a:Addr} {o:HO} (I:Inv X pins σ H s) (k:∀ b u,b∉ch→s.heap.get? b = some u→h'.get? b = some u) (hf:∀ b∈ch,kH X pins H b) (hp:s.heap.objs.size≤a)
  (new:bh X.prog X.w (upd H a o) h' a o):Inv X pins σ (upd H a o) { s with heap:=h',toks:=t' }:=by
 have hn:=I.bz.fresh hp
 have uZ:∀ b u,H b = some u→b∉ch:=fun b u e z=>by rw [(hf b z).1] at e; cases e
 refine I.step (g':=s.gens) (d':=s.drawn) (ch:=ch) (fun b hb=>?_) (fun b o _ _ hc e _=>k b o hc e) (fun b o _ _ hc e _=>⟨o.slots,k b o hc e⟩) (fun b u _ e n=>?_) (fun b o hc e=>⟨o,k b o hc e⟩)
  (fun b xs e=>by rw [ak (aF e hn)]; exact e) (fun b u v e=>by rw [ak (aF e hn)]; exact e) (fun b ps e=>⟨#[],by rw [ak (aF e hn),e]; simp⟩) (fun m hm=>?_) (fun b u e=>?_) I.bare
 ·obtain ⟨f0,f1,f2,f3,f4,f5⟩:=hf b hb
  exact ⟨f3,f1,f4,f5⟩
 ·rw [ak (Nat.ne_of_lt (Nat.lt_of_lt_of_le (Heap.lt_size e) hp))]; exact n
 ·obtain ⟨o,es,ep,ho,r⟩:=hm
  exact ⟨o,es,ep,k _ o (fun z=>(hf _ z).2.1 rfl) ho,r⟩
 ·by_cases hb:b = a
  ·subst hb; rw [ae] at e; cases e; exact new
  ·rw [ak hb] at e
   refine (I.bz b u e).lX (fun c v hc q=>k c v ?_ q) (fun c q=>by rw [ak (aF q hn)]; exact q) fun c xs q=>by rw [ak (aF q hn)]; exact q
   rcases hc with z | z
   ·rw [z]; exact uZ b u e
   ·exact uZ c _ z
theorem Inv.wj {t':Nat} {ch:List Addr} (I:Inv X pins σ H s) (k:∀ b u,b∉ch→s.heap.get? b = some u→h'.get? b = some u) (hf:∀ b∈ch,kH X pins H b):Inv X pins σ H { s with heap:=h',toks:=t' }:=by
 have uZ:∀ b u,H b = some u→b∉ch:=fun b u e z=>by rw [(hf b z).1] at e; cases e
 refine I.step (g':=s.gens) (d':=s.drawn) (ch:=ch) (fun b hb=>?_) (fun b o _ _ hc e _=>k b o hc e) (fun b o _ _ hc e _=>⟨o.slots,k b o hc e⟩) (fun b u _ e n=>n) (fun b o hc e=>⟨o,k b o hc e⟩)
  (fun b xs e=>e) (fun b u v e=>e) (fun b ps e=>⟨#[],by rw [e]; simp⟩) (fun m hm=>?_) (fun b u e=>?_) I.bare
 ·obtain ⟨f0,f1,f2,f3,f4,f5⟩:=hf b hb
  exact ⟨f3,f1,f4,f5⟩
 ·obtain ⟨o,es,ep,ho,r⟩:=hm
  exact ⟨o,es,ep,k _ o (fun z=>(hf _ z).2.1 rfl) ho,r⟩
 ·refine (I.bz b u e).lX (fun c v hc q=>k c v ?_ q) (fun c q=>q) fun c xs q=>q
  rcases hc with z | z
  ·rw [z]; exact uZ b u e
  ·exact uZ c _ z
end
def DD (K:PySem.W.Frag) (a:Addr):It:=
 ⟨fun i H=>∃ xs x,aG K H a xs∧xs[i]? = some x,
  fun i H x H'=>∃ p y,H p = none∧x = .ref p∧(∀ xs,aG K H a xs→xs[i]? = some y)∧H' = upd H p (.tup [.int i,y]),
  fun i H=>∃ xs,aG K H a xs∧xs.length≤i⟩
theorem sr {P:Program} {w:World} {K:PySem.W.Frag} {elts:List Expr} {kx:Nat} {px:Pos} (a e it:Addr) (hJ:e≠it) :
  Turn P w K (.Tuple elts kx px) (DD K a) [e,it] e (fun i h=>(∃ old,IsEnum h e it (i:Nat) old)∧h.IsListIter it a i) where
 mem:=by simp
 obj:=fun i h st b hb=>by
  obtain ⟨⟨old,he⟩,hit⟩:=st
  rcases List.mem_cons.mp hb with rfl | hb
  ·exact ⟨_,he,fun v z=>by cases z⟩
  ·obtain rfl:b = it:=by simpa using hb
   obtain ⟨o,e1,c,d⟩:=hit
   exact ⟨o,e1,fun v z=>by rw [d] at z; cases z⟩
 keep:=fun i h h' st k=>by
  obtain ⟨⟨old,he⟩,hit⟩:=st
  exact ⟨⟨old,k e (by simp) _ he⟩,hit.at fun o q=>k it (by simp) o q⟩
 item:=by
  intro X hP hw hK hc i pins s σ H E I hf st hg
  subst hP hw hK
  obtain ⟨⟨old,he⟩,hit⟩:=st
  obtain ⟨xs,x,hq,hx⟩:=hg
  obtain ⟨aO,rv,p,hz⟩:=I.list hq
  obtain ⟨u,hu,ru⟩:=rv.get hx
  have CO:e < s.heap.objs.size:=Heap.lt_size he
  have HN:it < s.heap.objs.size:=by obtain ⟨_,q,_⟩:=id hit; exact Heap.lt_size q
  refine wpAny_pyNext_enum_item he hit p.isList (x:=u) (by simpa using hu) hJ fun h' ho qb hT hsz hk=>⟨_,rfl,?_⟩
  refine wpAny_letOwnedTupleGo_enum ho fun h2 Eu yA=>?_
  replace yA:Heap.SameBut e h' h2:=yA
  have hn:H s.heap.objs.size = none:=I.bz.fresh (Nat.le_refl _)
  have kk:∀ b o,b∉[e,it]→s.heap.get? b = some o→h2.get? b = some o:=fun b o hb q=>(yA.2 b fun z=>hb (by simp [z])).trans (hk b o (fun z=>hb (by simp [z])) (fun z=>hb (by simp [z])) q)
  have Pe:h2.get? s.heap.objs.size = some { cls:=.type "tuple",data:=.seq #[.int i s.toks,u] }:=(yA.2 _ (Nat.ne_of_gt CO)).trans hT
  refine ⟨.ref s.heap.objs.size,upd H s.heap.objs.size (.tup [.int i,x]),Inv.sj (s:=s) (h':=h2) (t':=s.toks + 1) I kk hf (Nat.le_refl _) ⟨by simp only [List.length_cons,List.length_nil]; rw [sizeLine_eq]; decide,[.int i s.toks,u],.cons ⟨_,rfl⟩ (.cons ru .nil),⟨_,Pe,rfl,_,rfl⟩⟩,rfl,
   ⟨_,x,hn,rfl,fun ys hy=>by rw [I.oo hy hq]; exact hx,rfl⟩,⟨⟨_,Eu⟩,qb.at fun o q=>(yA.2 it (Ne.symm hJ)).trans q⟩,fun b hb=>?_⟩
  rw [ak ?_]
  ·exact (hf b hb).1
  ·rcases List.mem_cons.mp hb with rfl | hb
   ·exact Nat.ne_of_lt CO
   ·obtain rfl:b = it:=by simpa using hb
    exact Nat.ne_of_lt HN
 done:=by
  intro X hP hw hK hc i pins s σ H E I hf st hg
  subst hP hw hK
  obtain ⟨⟨old,he⟩,hit⟩:=st
  obtain ⟨xs,hq,hx⟩:=hg
  obtain ⟨aO,rv,p,hz⟩:=I.list hq
  have hl:=rv.length
  exact wpAny_pyNext_enum_end (I.ok.hd hc) he hit p.isList (by simp; omega) fun h' eb=>⟨rfl,Inv.wj (t':=s.toks) (ch:=[e,it]) I (fun b o hb q=>eb b o (fun z=>hb (by simp [z])) q) hf⟩
 self:=fun _ _ _ _ _ st h=>by
  obtain ⟨⟨old,he⟩,hit⟩:=st
  exact wpAny_pyIter_enum he h
def Cz (K:PySem.W.Frag) (ta:TA):TI:=fun σ H R=>ta σ H fun vs H1=>∃ a,vs = [.ref a]∧(∃ xs,aG K H1 a xs)∧R (DD K a) H1
theorem wM {X:Cx} {l:Expr} {ta:TA} {p pos:Pos} {elts:List Expr} {kx:Nat} {px:Pos} (hm:X.mg "enumerate" = none) (ha:PA X [l] ta) (hg:Gl X "enumerate":=by rfl) (hs:starEach [l] X.env = [(false,eval l X.env)]:=by rfl) :
  PI X (.Tuple elts kx px) (.Call (.Name "enumerate" p) [l] [] pos) (Cz X.K ta):=by
 intro pins s σ H R I h
 refine Call_ (fJ I hg hm boot_enumerate (PyProof.Rows.callWith_type1 (b5 (ha pos pins s σ H _ I h) fun us s1 ⟨vs,H1,I1,r1,q1⟩=>?_) hs rfl))
 obtain ⟨a,rfl,⟨xs,hq⟩,q⟩:=q1
 obtain ⟨u,rfl,ru⟩:=vals1 r1
 cases ru
 obtain ⟨aO,rv,pl,hz⟩:=I1.list hq
 refine call_enumerate_list pl.isList fun h' he hit hsz hk=>?_
 refine wpAny_pyIter_enum he ?_
 have I2:Inv X pins σ H1 { s1 with heap:=h' }:=I1.kept (t':=s1.toks) fun b o e=>hk b o e
 refine ⟨_,[s1.heap.objs.size + 1,s1.heap.objs.size],_,_,H1,rfl,I2,sr a _ _ (Nat.succ_ne_self _),⟨⟨_,he⟩,hit⟩,fun b hb=>?_,q⟩
 rcases List.mem_cons.mp hb with rfl | hb
 ·exact I1.vt (Nat.le_succ _) (I1.bz.fresh (Nat.le_succ _))
 ·obtain rfl:b = s1.heap.objs.size:=by simpa using hb
  exact I1.vt (Nat.le_refl _) (I1.bz.fresh (Nat.le_refl _))
theorem vv {K:PySem.W.Frag} {a:Addr} {xs:List V} {g:TG} {tb:TS} {D:Ends} {σ : St} {H:Hp} (Pv:Nat→St→Hp→Prop) (h0:Pv 0 σ H) (hl:∀ i σ H,i≤xs.length→Pv i σ H→aG K H a xs)
  (hs:∀ i x p σ H,xs[i]? = some x→Pv i σ H→H p = none→g (.ref p) σ (upd H p (.tup [.int i,x])) fun σ2 H2=>tb { D with nx:=Pv (i + 1),ct:=Pv (i + 1),bk:=D.nx } σ2 H2) (hd:∀ σ H,Pv xs.length σ H→D.nx σ H) :
  ∃ W:Nat→Nat→St→Hp→Prop,(∃ m,W 0 m σ H)∧∀ i m σ H,W i m σ H→
   ((DD K a).stop i H∧D.nx σ H)∨((DD K a).go i H∧∃ N:St→Hp→Prop,(∀ σ' H',N σ' H'→∃ m',m' < m∧W (i + 1) m' σ' H')∧∀ x H',(DD K a).tV i H x H'→g x σ H' fun σ2 H2=>tb { D with nx:=N,ct:=N,bk:=D.nx } σ2 H2):=by
 refine ⟨fun i m σ H=>m = xs.length - i∧i≤xs.length∧Pv i σ H,⟨xs.length,by simp,Nat.zero_le _,h0⟩,?_⟩
 rintro i m σ H ⟨rfl,hi,p⟩
 have q:=hl i σ H hi p
 by_cases dD:i < xs.length
 ·refine .inr ⟨⟨xs,xs[i],q,by simp [dD]⟩,Pv (i + 1),fun σ' H' p'=>⟨xs.length - (i + 1),by omega,rfl,dD,p'⟩,fun x H' y=>?_⟩
  obtain ⟨r,y,hr,rfl,hy,rfl⟩:=y
  exact hs i y r σ H (hy xs q) p hr
 ·have e:i = xs.length:=by omega
  subst e
  exact .inl ⟨⟨xs,q,Nat.le_refl _⟩,hd σ H p⟩
section
variable {σ : St} {H:Hp} {Q:VK} {D:Ends}
theorem r_var {i:Nat} {v:V} (h : σ[i]? = some (some v)) (q:Q v H):jg i σ H Q:=⟨v,h,q⟩
theorem r_c {v:V} (q:Q v H):tC v σ H Q:=q
theorem r_op {r:R2} {ta tb:TE} (h:ta σ H fun x H1=>tb σ H1 fun y H2=>r x y H2 Q):BD r ta tb σ H Q:=h
theorem zo {r:V→Hp→VK→Prop} {ta:TE} (h:ta σ H fun x H1=>r x H1 Q):JL r ta σ H Q:=h
theorem uv {g:Int→Int→V} {i j:Int} (q:Q (g i j) H):yq g (.int i) (.int j) H Q:=⟨i,j,rfl,rfl,q⟩
theorem wB {C:Int→Int→Prop} {g:Int→Int→V} {i j:Int} (c:C i j) (q:Q (g i j) H):rI C g (.int i) (.int j) H Q:=⟨i,j,rfl,rfl,c,q⟩
theorem zq {g:Int→V} {i:Int} (q:Q (g i) H):rU g (.int i) H Q:=⟨i,rfl,q⟩
theorem uE {i j:Int} (q:Q (.bl (decide (i = j))) H):FV (.int i) (.int j) H Q:=⟨rfl,by rw [i7,Bool.beq_eq_decide_eq]; exact q⟩
theorem uy {i j:Int} (q:Q (.bl (!decide (i = j))) H):J1 (.int i) (.int j) H Q:=⟨rfl,by rw [i7,Bool.beq_eq_decide_eq]; exact q⟩
theorem r_seq {t u:TS} (h:t { D with nx:=u D } σ H):y3 t u D σ H:=h
theorem pH (h:D.nx σ H):ya D σ H:=h
theorem r_asg {te:TE} {g:TG} (h:te σ H fun x H1=>g x σ H1 D.nx):y8 te g D σ H:=h
theorem r_gname {i:Nat} {v:V} {R:St→Hp→Prop} (h:R (σ.set i (some v)) H):lA i v σ H R:=h
theorem uu {te:TE} (h:te σ H D.rt):BB te D σ H:=h
theorem pJ {te:TE} (h:te σ H fun _ H1=>D.nx σ H1):yc te D σ H:=h
theorem uB {c:TT} {t u:TS} (h:c σ H fun b H1=>if b = true then t D σ H1 else u D σ H1):BJ c t u D σ H:=h
theorem pE {t:TE} {R:Bool→Hp→Prop} (h:t σ H fun x H'=>∃ k,x = .bl k∧R k H'):x5 t σ H R:=h
theorem FO {t:TE} {R:Bool→Hp→Prop} (h:t σ H fun x H'=>∃ k,x = .bl k∧R k H'):tB t σ H R:=h
theorem zv {k:Bool} {R:Bool→Prop} (h:R k):∃ k',V.bl k = .bl k'∧R k':=⟨k,rfl,h⟩
theorem ux {t:TT} {R:Bool→Hp→Prop} (h:t σ H fun c H1=>R (!c) H1):BE t σ H R:=h
theorem uG {t u:TT} {R:Bool→Hp→Prop} (h:t σ H fun c H1=>if c = true then u σ H1 R else R false H1):BM t u σ H R:=h
theorem zt {t u:TT} {R:Bool→Hp→Prop} (h:t σ H fun c H1=>if c = true then R true H1 else u σ H1 R):JN t u σ H R:=h
theorem pM {ta tb:TE} (h:ta σ H fun x H1=>∃ c,x = .bl c∧if c = true then tb σ H1 Q else Q (.bl false) H1):yd ta tb σ H Q:=h
theorem pF {ta:TE} (h:ta σ H fun x H1=>∃ c,x = .bl c∧Q (.bl (!c)) H1):x8 ta σ H Q:=h
theorem jt {R:List V→Hp→Prop} (h:R [] H):y4 σ H R:=h
theorem eL {ta:TE} {tr:TA} {R:List V→Hp→Prop} (h:ta σ H fun x H1=>tr σ H1 fun xs H2=>R (x :: xs) H2):ug ta tr σ H R:=h
theorem pL {sp:Sp} {E:XK} {t:TA} (h:t σ H fun vs H1=>sp (vs ++ []) H1 Q E):uh sp [] E t σ H Q:=h
theorem sG {r:List V→Hp→VK→Prop} {t:TA} (h:t σ H fun vs H1=>r vs H1 Q):DO r t σ H Q:=h
theorem uq {t:TA} (h:t σ H fun xs H1=>xs.length≤sizeLine∧∀ p,H1 p = none→Q (.ref p) (upd H1 p (.tup xs))):BA t σ H Q:=h
theorem uz {t:TA} (h:t σ H fun xs H1=>xs.length≤sizeLine∧∀ p,H1 p = none→Q (.ref p) (upd H1 p (.lst xs))):BF t σ H Q:=h
theorem uw {i j:Nat} {ta:TA} (h:ta σ H fun vs H1=>∃ v w,vs = [v,w]∧D.nx ((σ.set i (some v)).set j (some w)) H1):BC i j ta D σ H:=h
theorem cN {wi:TI} {g:TG} {tb:TS} (h:wi σ H fun J H1=>∃ W:Nat→Nat→St→Hp→Prop,(∃ m,W 0 m σ H1)∧∀ i m σ H,W i m σ H→
 (J.stop i H∧D.nx σ H)∨(J.go i H∧∃ N:St→Hp→Prop,(∀ σ' H',N σ' H'→∃ m',m' < m∧W (i + 1) m' σ' H')∧∀ x H',J.tV i H x H'→g x σ H' fun σ2 H2=>tb { D with nx:=N,ct:=N,bk:=D.nx } σ2 H2)):BK wi g tb D σ H:=h
theorem Em {A B:Prop} (h:A):if true = true then A else B:=Aa h
theorem Hk {A B:Prop} (h:B):if false = true then A else B:=xj h
theorem if2 {c A B:Prop} [Decidable c] (h1:c→A) (h2:¬ c→B):if decide c = true then A else B:=by
 by_cases h:c
 ·rw [decide_eq_true h]; exact Aa (h1 h)
 ·rw [decide_eq_false h]; exact xj (h2 h)
theorem dG {c A B:Prop} [Decidable c] (h1:¬ c→A) (h2:c→B):if (!decide c) = true then A else B:=by
 by_cases h:c
 ·rw [decide_eq_true h]; exact xj (h2 h)
 ·rw [decide_eq_false h]; exact Aa (h1 h)
end
end L2
end
section
namespace L2
open PySem PySem.Spec PyProof.Rows
theorem aU:bootBuiltins "len" = some (.builtin "len"):=by decide +kernel
theorem bO:bootBuiltins "isinstance" = some (.builtin "isinstance"):=by decide +kernel
theorem vI:bootBuiltins "int" = some (.type "int"):=by decide +kernel
theorem xJ:bootBuiltins "bool" = some (.type "bool"):=by decide +kernel
theorem vG:bootBuiltins "tuple" = some (.type "tuple"):=by decide +kernel
theorem hW:bootBuiltins "list" = some (.type "list"):=by decide +kernel
structure Def (K:PySem.W.Frag) (mg:Str→Option Value) (x:Str) (st:Stmt) (ps:List Str):Prop where
 ex:∃ f fd,A8 K x x st f fd∧mg x = some (.ref f)∧Binds K fd ps []
theorem aj.upd {H:Hp} {p:Addr} {o:HO} (h:H p = none):aj H (upd H p o):=fun b u e=>by rw [ak (aF e h)]; exact e
section
variable {σ : St} {H:Hp} {Q:VK} {K:PySem.W.Frag}
theorem uA {p:Addr} {xs:List V} {i:Int} {v:V} (h:SqT K H p xs) (hi:j3 xs i = some v) (q:Q v H):zx K (.ref p) (.int i) H Q:=⟨p,xs,i,v,rfl,rfl,h,hi,q⟩
theorem aQ {p:Addr} {xs:List V} {i:Int} {v:V} (h:aG K H p xs) (hi:j3 xs i = some v) (q:Q v H):wG K (.ref p) (.int i) H Q:=⟨p,xs,i,v,rfl,rfl,h,hi,q⟩
theorem eK {x c:V} {t u:Value} {b:Bool} (ty:hZ K H x t) (hc:tO c u) (e:PySem.W.kitOne K t u = some b) (q:Q (.bl b) H):yp K [x,c] H Q:=⟨x,c,t,u,b,rfl,ty,hc,e,q⟩
theorem mC {n:Nat} {t:xP} {a:Addr} {xs:List V} {R:St→Hp→Prop} (h:SqT K H a xs) (hl:xs.length = n) (q:t xs σ H R):CV K n t (.ref a) σ H R:=⟨a,xs,rfl,h,hl,q⟩
theorem mD {t:TG} {u:xP} {v:V} {vs:List V} {R:St→Hp→Prop} (q:t v σ H fun σ' H'=>u vs σ' H' R):yJ t u (v :: vs) σ H R:=⟨v,vs,rfl,q⟩
theorem pI {R:St→Hp→Prop} (q:R σ H):CW [] σ H R:=⟨rfl,q⟩
theorem xg {K:PySem.W.Frag}:PySem.W.kitOne K (.type "int") (.type "int") = some true:=by simp [PySem.W.kitOne]
end
end L2
namespace Fr
structure Sg (a b t u:Int):Prop where
 pos:0 < u
 co:Int.gcd t u = 1
 eq:t * b = a * u
 ta:t.natAbs≤a.natAbs
 ub:u.natAbs≤b.natAbs
end Fr
namespace L2
open PySem PySem.Spec PyProof.Rows
theorem iU {c:TT} {tb:TS} {D:Ends} {σ : St} {H:Hp} (Pv:St→Hp→Prop) (μ : St→Hp→Nat) (h0:Pv σ H)
  (hs:∀ σ H,Pv σ H→c σ H fun b H1=>if b = true then ∃ N:St→Hp→Prop,(∀ σ' H',N σ' H'→∃ m',m' < μ σ H∧(m' = μ σ' H'∧Pv σ' H'))∧tb { D with nx:=N,ct:=N,bk:=D.nx } σ H1 else D.nx σ H1):uc c tb D σ H:=
 ⟨fun m σ H=>m = μ σ H∧Pv σ H,⟨_,rfl,h0⟩,by rintro m σ H ⟨rfl,p⟩; exact hs σ H p⟩
theorem w_turn {tb:TS} {r:VK} {bk:St→Hp→Prop} {σ : St} {H:Hp} {Pv:St→Hp→Prop} {μ : St→Hp→Nat} {m:Nat} (h:tb { nx:=fun σ' H'=>Pv σ' H'∧μ σ' H' < m,rt:=r,bk:=bk,ct:=fun σ' H'=>Pv σ' H'∧μ σ' H' < m } σ H) :
  ∃ N:St→Hp→Prop,(∀ σ' H',N σ' H'→∃ m',m' < m∧(m' = μ σ' H'∧Pv σ' H'))∧tb { nx:=N,rt:=r,bk:=bk,ct:=N } σ H:=⟨_,fun _ _ p=>⟨_,p.2,rfl,p.1⟩,h⟩
theorem Ae {A B:Prop} (h:B):if (!true) = true then A else B:=xj h
theorem BQ:2≤sizeLine:=by rw [sizeLine_eq]; decide
theorem BP:3≤sizeLine:=by rw [sizeLine_eq]; decide
end L2
namespace L2
open PySem PySem.Spec PyProof.Rows
theorem dN {CX:qx} {P:Program} {w:World} {K:PySem.W.Frag} {mg:Str→Option Value} {base:Heap} {N:List Str} {q:Str} {sc:Scope} {f:Addr} {cd:Value} {A:Around} {o:List Env} {s:Shared} {H:Hp} {E:XK}:(oP CX P w K mg base N q sc f cd A o s H E).K = K:=rfl
end L2
namespace L2
open PySem PySem.Spec PyProof.Rows
section
variable {K:PySem.W.Frag}
theorem zS:PySem.W.kitOne K (.type "int") (.type "bool") = some false:=by kernel_rfl
theorem p8:PySem.W.kitOne K (.type "list") (.type "list") = some true:=by kernel_rfl
end
end L2
namespace L2
open PySem PySem.Spec PyProof.Rows
theorem mulL {a b:Int} (h1 : -(2 ^ 64) < a) (h2:a < 2 ^ 64):IntMulOk a b:=.of_left (intBits_le_64 h1 h2)
theorem Sz.MD {n:Nat} {x:Int} (h1 : -(2 ^ 64) < x) (h2:x < 2 ^ 64) (hn:64≤n):Sz n x:=Sz.mono (m:=64) (by unfold Sz; omega) hn
theorem nh {i j:Int} (h1:0 < j) (h2:j < 2 ^ 64):JD i j:=⟨h1,Sz.MD (by omega) h2 (by decide)⟩
section
variable {X:Cx} {a b:Expr} {i j v:Int} {op:Operator} {pos:Pos} {C:Int→Int→Prop} {g:Int→Int→V}
theorem mG (ho:iT X (binaryOp op) (rI C g)) (ha:PE X a (tC (.int i))) (hb:PE X b (tC (.int j))) (c:C i j) (e:g i j = .int v):PE X (.BinOp a op b pos) (tC (.int v)):=
 fun pins s σ H Q I h=>aC ho ha hb pins s σ H Q I ⟨i,j,rfl,rfl,c,by rw [e]; exact h⟩
end
end L2
namespace L2
open PySem PySem.Spec PyProof.Rows
end L2
end
section
namespace L2
open PySem PySem.Spec PySem.W PySem.Calls PyProof.Rows Builtin Builtin.ObjectAttr Builtin.Getset_descriptor
def ExcAt (C:Addr) (a:Addr) (h:Heap):Prop:=∃ ob,h.get? a = some ob∧ob.cls = .ref C∧PySem.W.notCls ob = true
def C0 (C a:Addr):HO:=.ext (ExcAt C a)
structure DF (K:Frag) (D:Addr):Prop where
 RP:findIn K (.ref D) "__getattribute__" = some (some (.builtin "BaseException.__getattribute__"))
 RO:findIn K (.ref D) "__getattr__" = some none
 RJ:mroIn K D (.type "BaseException") = some true
 cl:(clsIn K D).isSome = true
 ha:findIn K (.ref D) "__class__" = some (some (.builtin "object.__class__"))
 hn:specialIn K (.builtin "object.__class__") "__get__" = some (some (.builtin "getset_descriptor.__get__"))
 Hn:takesIn K (.builtin "object.__class__") = some true
 hm:mroIn K D (.type "object") = some true
end L2
end
section
namespace L2
open PySem PySem.Spec PySem.W PySem.Calls PyProof.Rows
def DG (B:Heap) (fr:List Addr) (h:Heap):Prop:=∀ b o,h.get? b = some o→b∉fr→∃ o',B.get? b = some o'
structure DE (P:Program) (w:World) (outer:List Env) (H:Hp) (s:Shared) (a:Addr) (cls:Value) (H':Hp) (s':Shared):Prop where
 os:s'.os = s.os
 bare:AllBare s'.gens
 un:Un (oI outer) [] H H' s.heap s'.heap
 bz:gc P w H' s'.heap
 RX:∃ B a0,Heap.FlyingW B outer a cls a0 s'.heap∧DG B (oI outer) s.heap∧∀ b o,H' b = some o→∃ ob,B.get? b = some ob
 new:H' a = none
 fresh:s.heap.get? a = none
def cQ (P:Program) (w:World):qx:=fun outer H s E e s'=>∃ a cls H',e = .ref a∧DE P w outer H s a cls H' s'∧E cls none H'
section
variable {X:Cx} {pins:List (Addr×Obj)} {σ : St} {H:Hp} {s:Shared}
structure Body (X:Cx):Prop where
 ex:X.ex = []
 pn:X.pn = []
 BN:X.stack = X.env :: X.outer
 fr:X.env.frame = some X.env.locals
end
theorem bP {P:Program} {w:World} {X:Cx}:Passes (cQ P w) X E0:=by
 rintro pins σ H1 s1 e s' I ⟨a,cls,H',rfl,F,q⟩
 exact q.elim
end L2
end
section
namespace L2
open PySem PySem.Spec PySem.W PySem.Calls PyProof.Rows
def Ff (Ex:XK) (C:Addr) (ta:TA):TS:=fun _ σ H=>ta σ H fun vs H1=>vs.length≤sizeLine∧Ex (.ref C) none H1
section
variable {X:Cx} {pins:List (Addr×Obj)} {σ : St} {H:Hp} {s:Shared}
def Cx.marked (X:Cx) (a:Addr):Cx:={ X with A:=X.A.mark (some (.ref a)),calm:=false,xe:=fun _ _=>False }
end
def EX (X:Cx) (pins:List (Addr×Obj)) (σ : St) (Ex:XK) (e:Value) (s':Shared):Prop:=
 ∃ a cls H' s0 H0,e = .ref a∧Inv X pins σ H0 s0∧DE X.prog X.w X.stack H0 s0 a cls H' s'∧Ex cls none H'
def Pm (K:Frag) (M:Addr) (jn:Nat) (ts:TS) (D:Ends) (σ : St):XK:=fun cls _ H'=>∃ C,cls = .ref C∧exmOne K (.ref C) (.ref M) = some true∧
 ∀ a,H' a = none→ts { nx:=fun σ' H2=>D.nx (σ'.set jn none) H2,rt:=D.rt,bk:=fun σ' H2=>D.bk (σ'.set jn none) H2,ct:=fun σ' H2=>D.ct (σ'.set jn none) H2 } (σ.set jn (some (.ref a))) (upd H' a (C0 C a))
def Fc (K:Frag) (sp:Sp) (ta:TA) (M:Addr) (jn:Nat) (ts:TS):TS:=fun D σ H=>ta σ H fun vs H1=>sp (vs ++ []) H1 (fun _ H2=>D.nx σ H2) (Pm K M jn ts D σ)
end L2
end
section
namespace L2
open PySem PySem.Spec PySem.W PySem.Calls PyProof.Rows
section
variable {P:Program} {w:World} {K:PySem.W.Frag} {mg:Str→Option Value} {base:Heap}
theorem Def.dY {x:Str} {st:Stmt} {N ps:List Str} {k:Nat} {sp:Sp} (D:Def K mg x st ps) (S:aZ N ps (aw st)) (len:∀ vs H Q E,sp vs H Q E→vs.length = ps.length)
  (oE:∀ (f:Addr) (dv:Value) (A:Around) (outer:List Env) (s:Shared) (H:Hp) (vs:List V) (Q:VK) (E:XK),dI k (A.deeper (envOfC x (aw st) s.heap.objs.size f dv))→sp vs H Q E→
   ∃ t,sf (oP (cQ P w) P w K mg base N x (aw st) f dv A outer s H E).Bc (aS st) t∧t { nx:=fun _ H'=>Q .bY H',rt:=Q } (start N vs) H):dE P w K mg base (cQ P w) x (k + 1) ps sp:=by
 obtain ⟨f,fd,F,hm,hb⟩:=D.ex
 have kp:=F.kp
 obtain ⟨oc,od,kV,doc,pm,an,dv,ct,wV,rfl,lk,sV⟩:=F.ex
 refine ⟨⟨f,_,yK lk sV S len fun A outer s H vs Q E hr o6=>?_,hm,kp,hb⟩⟩
 obtain ⟨t,h,q⟩:=oE f dv A outer s H vs Q E hr o6
 exact ⟨t,h.Bc,q⟩
theorem A8.okN {x:Str} {st:Stmt} {f:Addr} {fd:FuncData} {N ps:List Str} {k:Nat} {sp:Sp} (F:A8 K x x st f fd) (S:aZ N ps (aw st)) (len:∀ vs H Q E,sp vs H Q E→vs.length = ps.length)
  (oE:∀ (dv:Value) (A:Around) (outer:List Env) (s:Shared) (H:Hp) (vs:List V) (Q:VK) (E:XK),dI k (A.deeper (envOfC x (aw st) s.heap.objs.size f dv))→sp vs H Q E→
   ∃ t,sf (oP (cQ P w) P w K mg base N x (aw st) f dv A outer s H E).Bc (aS st) t∧t { nx:=fun _ H'=>Q .bY H',rt:=Q } (start N vs) H):kJ P w K mg base (cQ P w) (k + 1) f fd ps sp:=by
 obtain ⟨oc,od,kV,doc,pm,an,dv,ct,wV,rfl,lk,sV⟩:=F.ex
 refine yK lk sV S len fun A outer s H vs Q E hr o6=>?_
 obtain ⟨t,h,q⟩:=oE dv A outer s H vs Q E hr o6
 exact ⟨t,h.Bc,q⟩
end
theorem tq {P:Program} {w:World} {o:List Env} {H:Hp} {s:Shared} {e:Value} {s':Shared} (h:cQ P w o H s (fun _ _ _=>False) e s'):False:=by
 obtain ⟨_,_,_,_,_,z⟩:=h
 exact z
inductive EW (K:Frag) (H:Hp):V→Value→Prop where
 | bY:EW K H .bY (.type "NoneType")
 | exc {a C:Addr} (e:H a = some (C0 C a)) (c:DF K C):EW K H (.ref a) (.ref C)
def FT (K:Frag):List V→Hp→VK→Prop:=fun xs H Q=>∃ x c t u b,xs = [x,c]∧EW K H x t∧tO c u∧kitOne K t u = some b∧Q (.bl b) H
def FU (K:Frag):List V→Hp→VK→Prop:=fun xs H Q=>∃ x tp cs t us b,xs = [x,.ref tp]∧EW K H x t∧H tp = some (.tup cs)∧Paired tO cs us∧kitAny K t us = some b∧Q (.bl b) H
end L2
end
section
namespace L2
open PySem PySem.Spec PySem.W PySem.Calls PyProof.Rows
def B8 (K:Frag):R2:=fun x y H Q=>∃ p q a b c d,x = .ref p∧y = .ref q∧SqT K H p [.int a,.int b]∧SqT K H q [.int c,.int d]∧Q (.bl (!decide (a = c∧b = d))) H
theorem zI {X:Cx} (hu:X.A.units < cLine):iT X (compareOp .NotEq) (B8 X.K):=by
 intro pins s σ H x y v u Q I rx ry h
 obtain ⟨p,q,a,b,c,d,rfl,rfl,hp,hq,qq⟩:=h
 cases rx
 cases ry
 obtain ⟨aO,r1,p1,_⟩:=I.tuple hp
 obtain ⟨oA,r2,p2,_⟩:=I.tuple hq
 obtain ⟨u1,u2,rfl,⟨t1,rfl⟩,⟨t2,rfl⟩⟩:=vals2 r1
 obtain ⟨w1,w2,rfl,⟨t3,rfl⟩,⟨t4,rfl⟩⟩:=vals2 r2
 refine SeqAt.RcNeAt.tuples (e:=fun j=>if j = 0 then a == c else b == d) p1 p2 hu (fun j h1 h2=>?_) X.prog X.w X.xe _ (aY I qq ?_)
 ·have hj:j = 0∨j = 1:=by
   have:j < 2:=h1
   omega
  rcases hj with rfl | rfl
  ·exact SeqAt.EqAt.int_int a t1 c t3
  ·exact SeqAt.EqAt.int_int b t2 d t4
 ·show (!decide (a = c∧b = d)) = (!((List.range 2).all (fun j=>if j = 0 then a == c else b == d) && (2 == 2)))
  have e:(List.range 2).all (fun j=>if j = 0 then a == c else b == d) = ((a == c) && (b == d)):=by
   rw [show List.range 2 = [0,1] from rfl]
   simp
  rw [e]
  by_cases h1:a = c <;> by_cases h2:b = d <;> simp [h1,h2]
theorem B2 {K:Frag} {H:Hp} {Q:VK} {p q:Addr} {a b c d:Int} (hp:SqT K H p [.int a,.int b]) (hq:SqT K H q [.int c,.int d]) (k:Q (.bl (!decide (a = c∧b = d))) H):B8 K (.ref p) (.ref q) H Q:=⟨p,q,a,b,c,d,rfl,rfl,hp,hq,k⟩
theorem pG {σ : St} {H:Hp} {Q:VK} {ta:TE} (h:ta σ H fun x H1=>Q (.bl (!decide (x = .bY))) H1):x9 ta σ H Q:=h
theorem je {X:Cx} {k:Nat} (hr:dI k X.A):X.A.units < cLine:=hr.yV
end L2
end
section
namespace L2
open PySem PySem.Spec PySem.W PySem.Calls PyProof.Rows
def AllIn (cells:List (Str×Addr)):List (Str×Addr)→Prop
 | []=>True
 | p :: r=>cells.lookup p.1 = some p.2∧AllIn cells r
theorem AllIn.get {cells:List (Str×Addr)}:∀ {cl:List (Str×Addr)},AllIn cells cl→∀ {x c},cl.lookup x = some c→cells.lookup x = some c
 | [],_,x,c,e=>by cases e
 | (n,d) :: r,h,x,c,e=>by
  rw [List.lookup_cons] at e
  cases q:x == n with
  | true=>
   rw [q] at e; cases e
   have z:x = n:=by simpa using q
   subst z
   exact h.1
  | false=>rw [q] at e; exact AllIn.get h.2 e
def vR (X:Cx) (ifs:List Expr) (t:TT):Prop:=
 ∀ (pins:List (Addr×Obj)) (s:Shared) (σ : St) (H:Hp) (Q:Bool→Hp→Prop),Inv X pins σ H s→t σ H Q→
  wpAny (model X.prog X.w) X.A (forIn ifs true fun c r=>if r = true then do let ok ← isTrue c X.env (eval c X.env); pure (ForInStep.yield ok) else pure (ForInStep.yield r)) (TP X pins σ Q) X.xe s
def qy:TT:=fun _ H Q=>Q true H
theorem fB {X:Cx}:vR X [] qy:=fun _ _ _ H _ I h=>wpAny_tests_nil ⟨H,I,h⟩
theorem fz {X:Cx} {c:Expr} {t:TT} (h:PT X c t):vR X [c] t:=fun pins s σ H Q I hw=>wpAny_tests_one (h pins s σ H Q I hw)
section
variable {prog:Program} {w:World} {A:Around} {R:Result→Shared→Prop} {s:Shared}
theorem tD {elt target iter:Expr} {ifs:List Expr} {scope:Scope} {pos:Pos} {it acc:Value} {env:Env} (I:Nat→Shared→Prop)
  (turn:∀ n s,I n s→wpAny (model prog w) A (pyNext it) (fun r s₁=>match r with
   | none=>R (.ok .next) s₁
   | some v=>wpAny (model prog w) A (letOwnedTupleGo target it v) (fun _ s1=>wpAny (model prog w) A (assign target env v) (fun _ s₂=>
     wpAny (model prog w) A (forIn ifs true fun c r=>if r = true then do let ok ← isTrue c env (eval c env); pure (ForInStep.yield ok) else pure (ForInStep.yield r)) (fun ok s₃=>
      if ok = true then wpAny (model prog w) A (eval elt env) (fun x s₄=>wpAny (model prog w) A (call (.builtin "list.append") [acc,x]) (fun _ s₅=>∃ m,m < n∧I m s₅) (fun _ _=>False) s₄) (fun _ _=>False) s₃
      else ∃ m,m < n∧I m s₃) (fun _ _=>False) s₂) (fun _ _=>False) s1) (fun _ _=>False) s₁) (fun _ _=>False) s)
  (n:Nat) (h:I n s):codeAny (model prog w) A (.compLoop (.ListComp elt [⟨target,iter,ifs,0⟩] scope pos) 0 it acc env) R s:=by
 refine codeAny_loop rfl I (fun n s hI=>?_) n h
 show wpAny _ A ((compTurn (.ListComp elt [⟨target,iter,ifs,0⟩] scope pos) 0 it acc env).onRaise (fun x=>do noteFrame x env; theTreesLotGoes x)) _ _ s
 refine wpAny_noted ?_
 rw [compTurn_list]
 refine wpAny_bind (wpAny_standAt (wpAny_bind (wpAny_mono (turn n s hI) (fun r s₁ h₁=>?_) fun _ _ z=>False.elim z)))
 cases r with
 | none=>exact wpAny_pure h₁
 | some v=>
  refine wpAny_bind (wpAny_mono h₁ (fun _ s1 h1=>wpAny_bind (wpAny_mono h1 (fun _ s₂ h₂=>wpAny_bind (wpAny_mono h₂ (fun ok s₃ h₃=>?_) fun _ _ z=>False.elim z)) fun _ _ z=>False.elim z)) fun _ _ z=>False.elim z)
  cases ok with
  | false=>exact wpAny_pure ⟨rfl,h₃⟩
  | true=>
   exact wpAny_bind (wpAny_bind (wpAny_mono h₃ (fun x s₄ h₄=>wpAny_bind (wpAny_mono h₄ (fun _ s₅ h₅=>wpAny_pure (wpAny_pure ⟨rfl,h₅⟩)) fun _ _ z=>False.elim z)) fun _ _ z=>False.elim z))
end
def Cx.block (X:Cx) (scope:Scope) (cl:List (Str×Addr)) (C:Addr) (N:List Str) (fp:List Addr) (pins:List (Addr×Obj)) (s:Shared) (H:Hp):Cx:=
 { X with N:=N,s₀:=s,H₀:=H,env:=compEnvC scope cl C X.env,outer:=X.stack,ex:=fp,fn:=fun _=>false,pn:=X.pn ++ pins,xe:=fun _ _=>False }
def gb (n:Nat) (fr:List Nat) (σ : St):St:=List.replicate n none ++ fr.map fun i=>(σ[i]?).join
structure jd (X:Cx) (scope:Scope) (cl:List (Str×Addr)) (tg:List Str) (fr:List (Str×Nat)):Prop where
 kind:scope.kind = .function
 zN:∀ y∈scope.names,y.2≠.cell
 names:∀ y∈scope.names,y.2 = .local→scope.names.lookup y.1 = some .local
 Dd:closureFor scope X.env = pure cl
 yQ:AllIn X.env.cells cl
 has:((relabel scope X.env).names.all fun p=>!(p.2 == .cell || p.2 == .free) || (cl.lookup p.1).isSome) = true
 Pw:∀ p∈fr,X.N[p.2]? = some p.1∧EV X.env.scope p.1∧(cl.lookup p.1).isSome = true∧(relabel scope X.env).names.lookup p.1 = some .cell
 Px:∀ p∈fr,X.env.kindOf p.1 = some .cell
section
variable {X:Cx} {pins:List (Addr×Obj)} {σ : St} {H:Hp} {s:Shared} {scope:Scope} {cl:List (Str×Addr)} {tg:List Str} {fr:List (Str×Nat)}
theorem lookup_mem {κ α : Type} [BEq κ] [LawfulBEq κ]:∀ {l:List (κ×α)} {x : κ} {v : α},l.lookup x = some v→(x,v)∈l
 | [],_,_,e=>by cases e
 | (k,u) :: r,x,v,e=>by
  rw [List.lookup_cons] at e
  cases q:x == k with
  | true=>
   rw [q] at e; cases e
   have z:x = k:=by simpa using q
   subst z
   exact List.mem_cons_self
  | false=>rw [q] at e; exact List.mem_cons_of_mem _ (lookup_mem e)
theorem oT {C:Addr} {fp:List Addr} {h':Heap} {t':Nat} {m:Str→Option Value} (B:jd X scope cl tg fr) (I:Inv X pins σ H s) (hf:∀ b∈fp,kH X pins H b∧b < s.heap.objs.size) (hC:s.heap.objs.size≤C) (hn:h'.Ns C m) (k:∀ b o,s.heap.get? b = some o→h'.get? b = some o)
  {H2:Hp} (hu:Un (oI X.stack) fp H H2 s.heap h') (bz:gc X.prog X.w H2 h') (rP:H2 C = none) :
  Inv (X.block scope cl C (tg ++ fr.map (·.1)) fp pins s H) [] (gb tg.length (fr.map (·.2)) σ) H2 { s with heap:=h',toks:=t' }:=by
 have cells:∀ {x c},cl.lookup x = some c→X.env.cells.lookup x = some c:=fun e=>B.yQ.get e
 have cC:∀ x c,X.env.cells.lookup x = some c→c≠C:=fun x c e z=>by
  obtain ⟨v,o,ho,_⟩:=I.cell x c e
  exact absurd (Nat.lt_of_lt_of_le (Heap.lt_size ho) hC) (by rw [z]; exact Nat.lt_irrefl _)
 have cellK:∀ {c v},s.heap.IsCell c v→h'.IsCell c v:=fun {c v} ⟨o,e,d⟩=>⟨o,k c o e,d⟩
 have yN:∀ x c,X.env.cells.lookup x = some c→c∉fp∧H2 c = none:=fun x c e=>by
  have nf:c∉fp:=fun z=>(hf c z).1.2.2.2.2.1 x c e rfl
  obtain ⟨v,o,ho,_⟩:=I.cell x c e
  exact ⟨nf,hu.free c o ho (I.eu x c e) nf⟩
 have Ge:∀ p∈X.pn ++ pins,p.1∉fp∧H2 p.1 = none:=fun p hp=>by
  have nf:p.1∉fp:=fun z=>(hf p.1 z).1.2.2.2.2.2 p hp rfl
  obtain ⟨e,n,_⟩:=I.pin p hp
  exact ⟨nf,hu.free p.1 _ e n nf⟩
 have Mm:∀ b∈oI X.stack,b < s.heap.objs.size:=fun b hb=>by
  obtain ⟨_,o,ho,_⟩:=I.stack.mem hb
  exact Heap.lt_size ho
 refine ⟨⟨I.ok.mod,B.kind,I.ok.glob,I.ok.blt,hC,fun x y c h1 h2=>I.ok.inj x y c (cells h1) (cells h2),fun x hx=>?_,fun x c z=>absurd (show false = true from z) Bool.false_ne_true,I.ok.hd,I.ok.frames,.inl rfl,fun b hb=>?_,fun b o e=>⟨?_,?_⟩,?_,fun b o e z=>?_,fun b hb z=>?_,I.stack,I.qB⟩,
  rfl,I.bare,hu,⟨m,hn,fun i x v h1 h2 h3=>?_⟩,fun x c e=>?_,rP,fun x c e=>(yN x c (cells e)).2,fun p hp=>?_,bz,?_⟩
 ·have e:(relabel scope X.env).names.lookup x = some .cell∨(relabel scope X.env).names.lookup x = some .free:=hx
  have mem:∃ kk,(x,kk)∈(relabel scope X.env).names∧(kk == NameKind.cell || kk == NameKind.free) = true:=by
   rcases e with e | e
   ·exact ⟨_,lookup_mem e,rfl⟩
   ·exact ⟨_,lookup_mem e,rfl⟩
  obtain ⟨kk,mm,hk⟩:=mem
  have z:=List.all_eq_true.mp B.has _ mm
  simp only [hk,Bool.not_true,Bool.false_or] at z
  exact Option.isSome_iff_exists.mp z
 ·exact ⟨fun z=>absurd (Nat.lt_of_lt_of_le (hf b hb).2 hC) (by rw [z]; exact Nat.lt_irrefl _),fun x c e z=>(yN x c (cells e)).1 (z▸hb)⟩
 ·exact (I.bs b o e).1
 ·exact (I.bs b o e).2
 ·exact Nat.le_trans I.ok.AQ I.sz
 ·rcases (hf b z).1.2.2.2.1 with q | q
  ·exact I.ok.uS b o e q
  ·exact absurd (Nat.lt_of_lt_of_le (Heap.lt_size (I.ok.bs b o e).1) q) (Nat.lt_irrefl _)
 ·have z':b∈oI X.stack:=z
  rcases List.mem_cons.mp (I.jh b z') with q | q
  ·exact (hf b hb).1.2.1 q
  ·exact (hf b hb).1.2.2.1 q
 ·have hi:tg.length≤i:=by
   refine Nat.le_of_not_lt fun z=>?_
   unfold gb at h2
   rw [List.getElem?_append_left (by simpa using z),List.getElem?_replicate,if_pos z] at h2
   cases h2
  have yI:(fr.map (·.1))[i - tg.length]? = some x:=by
   have z:(tg ++ fr.map (·.1))[i]? = some x:=h1
   rw [List.getElem?_append_right hi] at z
   exact z
  have Bm:((fr.map (·.2)).map fun i=>(σ[i]?).join)[i - tg.length]? = some (some v):=by
   unfold gb at h2
   rw [List.getElem?_append_right (by simpa using hi)] at h2
   simpa using h2
  rw [List.getElem?_map] at yI
  rw [List.getElem?_map,List.getElem?_map] at Bm
  cases q:fr[i - tg.length]? with
  | none=>rw [q] at yI; cases yI
  | some p=>
   rw [q] at yI Bm
   have ex:p.1 = x:=Option.some.inj yI
   have ev:(σ[p.2]?).join = some v:=Option.some.inj Bm
   subst ex
   obtain ⟨f1,f2,f3,f4⟩:=B.Pw p (List.mem_of_getElem? q)
   have eσ : σ[p.2]? = some (some v):=by
    cases z : σ[p.2]? with
    | none=>rw [z] at ev; cases ev
    | some w'=>rw [z] at ev; exact congrArg some ev
   obtain ⟨m0,CG,OU⟩:=I.loc
   obtain ⟨u,r,l⟩:=OU p.2 p.1 v f1 eσ f2
   refine ⟨u,r,?_⟩
   obtain ⟨c,hc⟩:=Option.isSome_iff_exists.mp f3
   have hk:=B.Px p (List.mem_of_getElem? q)
   rcases l with ⟨kl,_⟩ | ⟨_,c',EA,z⟩
   ·rw [hk] at kl; cases kl
   ·have e':=cells hc
    rw [EA] at e'
    cases e'
    exact .inr ⟨.inl f4,c,hc,cellK z⟩
 ·obtain ⟨v,z⟩:=I.cell x c (cells e)
  exact ⟨v,cellK z⟩
 ·rw [List.append_nil] at hp
  obtain ⟨e,n,ne,nf,d⟩:=I.pin p hp
  refine ⟨k _ _ e,(Ge p hp).2,fun z=>absurd (Nat.lt_of_lt_of_le (Heap.lt_size e) hC) (by rw [z]; exact Nat.lt_irrefl _),fun z=>?_,d⟩
  rcases List.mem_cons.mp (I.jh _ z) with q | q
  ·exact ne q
  ·exact nf q
 ·unfold gb
  show _ = (tg ++ fr.map (·.1)).length
  simp
end
end L2
end
section
namespace L2
open PySem PySem.Spec PySem.W PySem.Calls PyProof.Rows
def kL (wi:TI) (g:TG) (tt:TT) (te:TE) (n:Nat) (fr:List Nat):TE:=fun σ H Q=>wi σ H fun J H1=>∀ acc,H1 acc = none→∃ W:Nat→Nat→St→List V→Hp→Prop,(∃ m,W 0 m (gb n fr σ) [] (upd H1 acc (.lst [])))∧
 ∀ i m σ' ys H2,W i m σ' ys H2→((J.stop i H2∧Q (.ref acc) H2)∨(J.go i H2∧∀ x H3,J.tV i H2 x H3→g x σ' H3 fun σ2 H4=>tt σ2 H4 fun b H5=>
  if b = true then te σ2 H5 fun y H6=>H6 acc = some (.lst ys)∧ys.length < sizeLine∧∃ m',m' < m∧W (i + 1) m' σ2 (ys ++ [y]) (upd H6 acc (.lst (ys ++ [y]))) else ∃ m',m' < m∧W (i + 1) m' σ2 ys H5))
section
variable {X:Cx} {scope:Scope} {cl:List (Str×Addr)} {tg:List Str} {fr:List (Str×Nat)} {elt target iter:Expr} {ifs:List Expr} {wi:TI} {g:TG} {tt:TT} {te:TE} {pos:Pos}
theorem lJ (B:jd X scope cl tg fr) (hc:X.calm = true) (hi:PI X target iter wi)
  (hg:∀ C fp pins s H,PG (X.block scope cl C (tg ++ fr.map (·.1)) fp pins s H) target g) (ht:∀ C fp pins s H,vR (X.block scope cl C (tg ++ fr.map (·.1)) fp pins s H) ifs tt) (he:∀ C fp pins s H,PE (X.block scope cl C (tg ++ fr.map (·.1)) fp pins s H) elt te)
  {pins:List (Addr×Obj)} {σ : St} {H:Hp} {s:Shared} {Q:VK} (I:Inv X pins σ H s) (hw:kL wi g tt te tg.length (fr.map (·.2)) σ H Q) {RR:Value→Addr→Result→Shared→Prop}
  (Ph:∀ D C s1 H5 m,Inv X pins σ H5 s1→s1.heap.Ns C m→H5 C = none→C≠X.env.locals→X.s₀.heap.objs.size≤C→(∀ x c,X.env.cells.lookup x = some c→c≠C)→(∀ p∈X.pn ++ pins,p.1≠C)→Q (.ref D) H5→RR (.ref D) C (.ok .next) s1) :
  wpAny (model X.prog X.w) X.A (eval iter X.env) (fun xv s1=>wpAny (model X.prog X.w) X.A (pyIter xv) (fun it s2=>wpAny (model X.prog X.w) X.A (newList []) (fun acc s3=>
   wpAny (model X.prog X.w) X.A (newFunctionEnv scope X.env.globals cl [] X.env.qual none .none (some X.env)) (fun Df s4=>
    codeAny (model X.prog X.w) X.A (.compStart (.ListComp elt [⟨target,iter,ifs,0⟩] scope pos) 0 it acc { Df with scope:=relabel scope X.env }) (RR acc Df.locals) s4) X.xe s3) X.xe s2) X.xe s1) X.xe s:=by
 refine wpAny_mono (hi pins s σ H _ I hw) (fun xv s1 h1=>wpAny_mono h1 (fun Hh s2 h2=>?_) fun _ _ z=>z) fun _ _ z=>z
 obtain ⟨it,fp,tn,J,H1,rfl,I2,T,E8,f2,Oi⟩:=h2
 have vw:∀ b∈fp,b < s2.heap.objs.size:=fun b hb=>by
  obtain ⟨o,e,_⟩:=T.obj _ _ E8 b hb
  exact Heap.lt_size e
 refine wpAny_newObj_type (wpAny_newFunctionEnv B.zN (by intro y hy; simp at hy) (fun h3 Bj Ep=>?_) B.kind)
 dsimp only at Bj Ep ⊢
 generalize hP:s2.heap.push { cls:=.type "list",dict:=none,data:=.seq ([]:List Value).toArray } = hp at Bj Ep ⊢
 have hC:hp.objs.size = s2.heap.objs.size + 1:=by rw [← hP,Heap.size_push]
 have dD:s2.heap.objs.size < hp.objs.size:=by rw [hC]; exact Nat.lt_succ_self _
 have k3:∀ b o,s2.heap.get? b = some o→h3.get? b = some o:=fun b o e=>by
  have l:=Heap.lt_size e
  refine Ep.extBut b o (Nat.ne_of_lt (Nat.lt_trans l dD)) (Heap.get?_push_of_some _ (hP▸Heap.get?_push_of_some _ e))
 have hD:H1 s2.heap.objs.size = none:=I2.bz.fresh (Nat.le_refl _)
 have bR:h3.get? s2.heap.objs.size = some { cls:=.type "list",dict:=none,data:=.seq ([]:List Value).toArray }:=Ep.extBut _ _ (Nat.ne_of_lt dD) (Heap.get?_push_of_some _ (hP▸Heap.get?_push_size _ rfl))
 obtain ⟨W,⟨m0,w0⟩,turn⟩:=Oi _ hD
 have LU:Un (oI X.stack) fp H1 (upd H1 s2.heap.objs.size (.lst [])) s2.heap h3:=Un.laid k3 (Nat.le_refl _) hD
 have Nd:gc X.prog X.w (upd H1 s2.heap.objs.size (.lst [])) h3:=I2.bz.laid k3 (Nat.le_refl _) ⟨Nat.zero_le _,[],0,.nil,bR⟩
 have fC:upd H1 s2.heap.objs.size (.lst []) hp.objs.size = none:=by rw [ak (Nat.ne_of_gt dD)]; exact I2.bz.fresh (Nat.le_of_lt dD)
 have NR:=I2.lt
 have nL:hp.objs.size≠X.env.locals:=Nat.ne_of_gt (Nat.lt_trans NR dD)
 have MF:X.s₀.heap.objs.size≤hp.objs.size:=Nat.le_trans I2.sz (Nat.le_of_lt dD)
 have cC:∀ x c,X.env.cells.lookup x = some c→c≠hp.objs.size:=fun x c e z=>by
  obtain ⟨v,o,ho,_⟩:=I2.cell x c e
  exact absurd (Nat.lt_trans (Heap.lt_size ho) dD) (by rw [z]; exact Nat.lt_irrefl _)
 have pC:∀ p∈X.pn ++ pins,p.1≠hp.objs.size:=fun p yE z=>by
  exact absurd (Nat.lt_trans (Heap.lt_size (I2.pin p yE).1) dD) (by rw [z]; exact Nat.lt_irrefl _)
 have J0:=oT (t':=s2.toks + ([]:List (Str×Value)).length) B I2 (fun b hb=>⟨f2 b hb,vw b hb⟩) (Nat.le_of_lt dD) Bj k3 LU Nd fC
 have Il:∀ {H':Hp} {pl:List (Addr×Obj)},(∀ b∈fp,H' b = none)→(∀ p∈pl,p.1∉fp)→∀ b∈fp,kH (X.block scope cl hp.objs.size (tg ++ fr.map (·.1)) fp pins s2 H1) pl H' b:=fun hn vW b hb=>by
  obtain ⟨g0,g1,g2,g3,g4,g5⟩:=f2 b hb
  refine ⟨hn b hb,fun z=>?_,fun z=>?_,.inl hb,fun x c e=>g4 x c (B.yQ.get e),fun p yE z=>?_⟩
  ·have z':b = hp.objs.size:=z
   exact absurd (Nat.lt_trans (vw b hb) dD) (by rw [z']; exact Nat.lt_irrefl _)
  ·rcases List.mem_cons.mp (I2.jh b z) with q | q
   ·exact g1 q
   ·exact g2 q
  ·rcases List.mem_append.mp yE with q | q
   ·exact g5 p q z
   ·exact vW p q (z▸hb)
 have loop:∀ s3:Shared,s3 = { s2 with heap:=h3,toks:=s2.toks + ([]:List (Str×Value)).length }→
   codeAny (model X.prog X.w) X.A (.compLoop (.ListComp elt [⟨target,iter,ifs,0⟩] scope pos) 0 (.ref it) (.ref s2.heap.objs.size) (compEnvC scope cl hp.objs.size X.env)) (RR (.ref s2.heap.objs.size) hp.objs.size) s3:=by
  rintro s3 rfl
  refine tD (fun n s'=>∃ i σ' ys H5,Inv (X.block scope cl hp.objs.size (tg ++ fr.map (·.1)) fp pins s2 H1) [] σ' H5 s'∧tn i s'.heap∧(∀ b∈fp,H5 b = none)∧W i n σ' ys H5) ?_ m0
   ⟨0,_,[],_,J0,T.keep _ _ _ E8 fun b hb o e=>k3 b o e,fun b hb=>?_,w0⟩
  ·rintro n s' ⟨i,σ',ys,H5,J5,t5,f5,w5⟩
   rcases turn i n σ' ys H5 w5 with ⟨stop,q⟩ | ⟨go,step⟩
   ·refine wpAny_mono (T.done (X.block scope cl hp.objs.size (tg ++ fr.map (·.1)) fp pins s2 H1) rfl rfl rfl hc i [] s' σ' H5 (fun _ _=>False) J5 (Il f5 (by simp)) t5 stop) (fun r s6 ⟨hr,J6⟩=>?_) fun _ _ z=>z
    subst hr
    obtain ⟨m6,ON,_⟩:=J6.loc
    exact Ph _ _ _ H5 m6 (I2.Dv (ch:=fp) J6.os J6.base J6.bz J6.bare fun b hb=>by obtain ⟨g0,g1,g2,g3,g4,g5⟩:=f2 b hb; exact ⟨g3,g1,g4,g5⟩) ON J6.free nL MF cC pC q
   ·refine wpAny_mono (T.item (X.block scope cl hp.objs.size (tg ++ fr.map (·.1)) fp pins s2 H1) rfl rfl rfl hc i [] s' σ' H5 (fun _ _=>False) J5 (Il f5 (by simp)) t5 go) (fun r s6 ⟨u,hr,h6⟩=>?_) fun _ _ z=>z
    subst hr
    refine wpAny_mono h6 (fun _ s7 ⟨x,H7,J7,r7,y7,t7,f7⟩=>?_) fun _ _ z=>z
    have QH:=J7.pinned (Il f7 (by simp)) (T.obj _ _ t7)
    have again:∀ {σ8:St} {H8:Hp} {s8:Shared} {E2:List V},Inv (X.block scope cl hp.objs.size (tg ++ fr.map (·.1)) fp pins s2 H1) ([] ++ jw fp s7.heap) σ8 H8 s8→(∃ m',m' < n∧W (i + 1) m' σ8 E2 H8)→
      ∃ m',m' < n∧∃ i σ' ys H5,Inv (X.block scope cl hp.objs.size (tg ++ fr.map (·.1)) fp pins s2 H1) [] σ' H5 s8∧tn i s8.heap∧(∀ b∈fp,H5 b = none)∧W i m' σ' ys H5:=fun {σ8 H8 s8 E2} J8 ⟨m',hm,w8⟩=>by
     refine ⟨m',hm,i + 1,σ8,E2,H8,J8.gL,T.keep _ _ _ t7 fun b hb o e=>(J8.pin (b,o) (List.mem_append_right _ (List.mem_append_right _ (eT hb e)))).1,fun b hb=>?_,w8⟩
     obtain ⟨o,e,d⟩:=T.obj _ _ t7 b hb
     exact (J8.pin (b,o) (List.mem_append_right _ (List.mem_append_right _ (eT hb e)))).2.1
    refine wpAny_mono (hg _ _ _ _ _ _ s7 σ' H7 x u _ QH r7 (step x H7 y7)) (fun _ s8 ⟨σ8,H8,J8,q8⟩=>?_) fun _ _ z=>z
    refine wpAny_mono (ht _ _ _ _ _ _ s8 σ8 H8 _ J8 q8) (fun b s9 ⟨H9,J9,q9⟩=>?_) fun _ _ z=>z
    cases b with
    | false=>
     rw [if_neg Bool.false_ne_true] at q9 ⊢
     exact again J9 q9
    | true=>
     rw [if_pos rfl] at q9 ⊢
     refine wpAny_mono (he _ _ _ _ _ _ s9 σ8 H9 _ J9 q9) (fun y ME ⟨v,QS,QJ,MV,Ie,HM,MX⟩=>?_) fun _ _ z=>z
     refine wpAny_mono (cO (X:=X.block scope cl hp.objs.size (tg ++ fr.map (·.1)) fp pins s2 H1) _ ME σ8 QS (.ref s2.heap.objs.size) [v] (.ref s2.heap.objs.size) [y] (fun _ LL=>∃ m',m' < n∧W (i + 1) m' σ8 (ys ++ [v]) LL) QJ rfl (.cons MV .nil) ⟨_,ys,v,rfl,rfl,Ie,HM,MX⟩) (fun _ Rk ⟨_,LL,QI,_,MW⟩=>?_) fun _ _ z=>z
     exact again QI MW
  ·have l:=vw b hb
   rw [ak (Nat.ne_of_lt l)]; exact (f2 b hb).1
 exact codeAny_compStart_list (loop _ rfl) (T.self X.A 0 _ _ _ (T.keep _ _ _ E8 fun b hb o e=>k3 b o e) (loop _ rfl))
theorem fX (B:jd X scope cl tg fr) (hc:X.calm = true) (hi:PI X target iter wi)
  (hg:∀ C fp pins s H,PG (X.block scope cl C (tg ++ fr.map (·.1)) fp pins s H) target g) (ht:∀ C fp pins s H,vR (X.block scope cl C (tg ++ fr.map (·.1)) fp pins s H) ifs tt) (he:∀ C fp pins s H,PE (X.block scope cl C (tg ++ fr.map (·.1)) fp pins s H) elt te)
  (hs:∀ x,foldedSetIterable iter X.env x = pure x:=by intro _; rfl):PE X (.ListComp elt [⟨target,iter,ifs,0⟩] scope pos) (kL wi g tt te tg.length (fr.map (·.2))):=by
 intro pins s σ H Q I hw
 rw [eval_ListComp]
 refine wpAny_comprehension_free (use:=none) rfl hs B.Dd B.kind B.names (lJ B hc hi hg ht he I hw (RR:=fun acc C=>compPost (model X.prog X.w) X.A X.xe none (EP X pins σ Q) acc C) fun D C s1 H5 m J hn f0 f1 f2 f3 f4 q=>?_)
 refine ⟨m,hn,fun h' sb=>⟨.ref D,H5,?_,rfl,q⟩⟩
 exact J.turned (t':=s1.toks) (fun b o hb e=>(sb.2 b hb).trans e) f0 f1 (.inr f2) f3 f4
theorem iX {i:Nat} {y:Str} {py BO:Pos} (hN:X.N.Nodup) (hy:X.N[i]? = some y) (hl:Loc X.env.scope y) (B:jd X scope cl tg fr) (hc:X.calm = true) (hi:PI X target iter wi)
  (hg:∀ C fp pins s H,PG (X.block scope cl C (tg ++ fr.map (·.1)) fp pins s H) target g) (ht:∀ C fp pins s H,vR (X.block scope cl C (tg ++ fr.map (·.1)) fp pins s H) ifs tt) (he:∀ C fp pins s H,PE (X.block scope cl C (tg ++ fr.map (·.1)) fp pins s H) elt te)
  (hs:∀ x,foldedSetIterable iter X.env x = pure x:=by intro _; rfl) (Oo:swapsWith (.ListComp elt [⟨target,iter,ifs,0⟩] scope pos) (some (.Name y py)) BO.line X.env = pure true:=by rfl)
  (hf:X.fn y = true∨X.env.scope.names.lookup y = some .local:=by first | exact .inl rfl | exact .inr rfl | assumption) :
  PS X (.Assign [.Name y py] (.ListComp elt [⟨target,iter,ifs,0⟩] scope pos) BO) (y8 (kL wi g tt te tg.length (fr.map (·.2))) (lA i)):=by
 intro pins s σ H D I hw
 rw [exec_Assign_Name_used _ _ _ _ Oo]
 refine wpAny_bind (wpAny_standAt (wpAny_bind ?_))
 show wpAny _ _ (do let _ ← comprehension (.ListComp elt [⟨target,iter,ifs,0⟩] scope pos) scope X.env _ (newList []) false (eval iter X.env) (some (assign (.Name y py) X.env))) _ _ s
 refine wpAny_bind (wpAny_mono (wpAny_comprehension_free (use:=some (assign (.Name y py) X.env)) (Q:=fun _ s'=>SP X pins D .next s') rfl hs B.Dd B.kind B.names
  (lJ B hc hi hg ht he I hw (RR:=fun acc C=>compPost (model X.prog X.w) X.A X.xe (some (assign (.Name y py) X.env)) (fun _ s'=>SP X pins D .next s') acc C) fun R C s1 H5 m J hn f0 f1 f2 f3 f4 q=>?_)) (fun _ s' hq=>wpAny_pure (wpAny_pure hq)) fun _ _ z=>z)
 show wpAny _ _ (assign (.Name y py) X.env (.ref R)) _ _ _
 refine wpAny_assign_Name (kM (v:=.ref R) J hN hy hl rfl (fun s2 J2 ⟨a,sb,ha⟩=>?_) hf)
 have na:C≠a:=by
  rcases ha with z | z
  ·rw [z]; exact f1
  ·exact Ne.symm (f3 y a z)
 refine ⟨m,hn.sameBut sb na,fun h' MB=>⟨_,H5,?_,q⟩⟩
 exact J2.turned (t':=s2.toks) (fun b o hb e=>(MB.2 b hb).trans e) f0 f1 (.inr f2) f3 f4
end
end L2
end
section
namespace L2
open PySem PySem.Spec PySem.W PySem.Calls PyProof.Rows
section
variable {X:Cx}
def qW:V→List V→Hp→VK→Prop:=fun x vs H Q=>∃ l xs y,∃ k:Nat,x = .ref l∧vs = [.int k,y]∧H l = some (.lst xs)∧k≤xs.length∧xs.length < sizeLine∧Q .bY (upd H l (.lst (xs.take k ++ y :: xs.drop k)))
theorem ef:Br X "list.insert" qW:=by
 intro pins s σ H x vs v us Q I rx rv h
 obtain ⟨l,xs,y,k,rfl,rfl,hH,hk,hz,q⟩:=h
 cases rx
 obtain ⟨u1,u2,rfl,⟨t,rfl⟩,ru⟩:=vals2 rv
 obtain ⟨z,aO,n,r,hl,e⟩:=I.mO hH
 have Pn:=jE
 have fit:¬ (!Builtin.List.listFitsIndex (k:Int)) = true:=by
  have:Builtin.List.listFitsIndex (k:Int) = true:=by
   unfold Builtin.List.listFitsIndex
   simp only [Bool.and_eq_true,decide_eq_true_eq]
   constructor <;> omega
  rw [this]; decide
 have ek:(if (k:Int) < 0 then ((k:Int) + (aO.toArray.size:Int)).toNat else min (k:Int).toNat aO.toArray.size) = k:=by
  rw [if_neg (by omega),Int.toNat_natCast,List.size_toArray]
  omega
 have ee:(aO.toArray.extract 0 k).push u2 ++ aO.toArray.extract k = (aO.take k ++ u2 :: aO.drop k).toArray:=by
  apply Array.ext'
  simp
  rw [List.take_of_length_le (by rw [List.length_drop]; omega)]
 have rr:Vals (xs.take k ++ y :: xs.drop k) (aO.take k ++ u2 :: aO.drop k):=Vals.append (Vals.take k r) (.cons ru (Vals.drop k r))
 have En:(xs.take k ++ y :: xs.drop k).length≤sizeLine:=by
  rw [List.length_append,List.length_cons,List.length_take,List.length_drop]
  omega
 have sz:aO.toArray.size≤sizeLine:=by rw [List.size_toArray]; omega
 have fin:∀ f:Array Value→Array Value,f aO.toArray = (aO.take k ++ u2 :: aO.drop k).toArray→EP X pins σ Q Value.none { s with heap:=s.heap.update l (Obj.mapSeq f),toks:=s.toks }:=fun f hf=>
  ⟨.bY,_,I.u6 (its':=aO.take k ++ u2 :: aO.drop k) (ys:=xs.take k ++ y :: xs.drop k) hH e hf rr En,rfl,q⟩
 have fin2:EP X pins σ Q Value.none { s with heap:=s.heap.update l (Obj.mapSeq fun xs=>have kk:=if (k:Int) < 0 then ((k:Int) + (xs.size:Int)).toNat else min (k:Int).toNat xs.size; (xs.extract 0 kk).push u2 ++ xs.extract kk),toks:=s.toks }:=by
  refine fin _ ?_
  dsimp only
  rw [ek]
  exact ee
 clear fin ek ee rr En q
 generalize (k:Int) = x at fit fin2 ⊢
 generalize aO.toArray = items at e sz
 exact call_meets F.slot_list_insert ⟨_,e,rfl⟩ F.entry_list_insert (F.args_list_insert_3 _ _ _) (AutoSeq1.list_insert_list_int_val_1 l items n x t u2 fit sz) ⟨e,fin2⟩
def wD (K:Frag):List V→Hp→VK→Prop:=fun vs H Q=>∃ (a:Addr) (ns:List Int),vs = [.ref a]∧aG K H a (ns.map V.int)∧ns.length < 64∧∀ (ff:List Int) p,ff.Perm ns→ff.Pairwise (·≤·)→H p = none→Q (.ref p) (upd H p (.lst (ff.map V.int)))
end
section
variable {X:Cx}
theorem oS:eE X (.builtin "sorted") (wD X.K):=by
 intro pins s σ H xs us Q I r h
 obtain ⟨a,ns,rfl,ha,hl,q⟩:=h
 obtain ⟨u,rfl,ru⟩:=vals1 r
 cases ru
 obtain ⟨aO,rv,pl,hz⟩:=I.list ha
 have hI:IntsAre aO ns:=intsAre_of rv
 have len:=rv.length
 rw [List.length_map] at len
 refine sorted_ints pl.isList hI (by omega) fun out ff h1 h2 h3=>?_
 have lo:=h1.length
 obtain ⟨ep,k1⟩:=sortedAll_at s.heap aO out
 have CK:=h2.length_eq
 have En:(ff.map V.int).length≤sizeLine:=by rw [List.length_map,PySem.sizeLine_eq]; omega
 have new:bh X.prog X.w (upd H (s.heap.objs.size + 1) (.lst (ff.map V.int))) (sortedAll s.heap aO out) (s.heap.objs.size + 1) (.lst (ff.map V.int)):=⟨En,out.toList,ep,fQ h1,by simpa [seqObj] using k1⟩
 exact ⟨.ref (s.heap.objs.size + 1),_,I.laid (t':=s.toks) (fun b o e=>sortedAll_old e) (Nat.le_succ _) new,rfl,q ff _ h2 h3 (I.bz.fresh (Nat.le_succ _))⟩
end
mutual
inductive qt (H:Hp):V→PyData→Prop where
 | int (i:Int):qt H (.int i) (.int i)
 | lst {a:Addr} {vs:List V} {ds:List PyData}:H a = some (.lst vs)→dz H vs ds→qt H (.ref a) (.list ds)
 | tup {a:Addr} {vs:List V} {ds:List PyData}:H a = some (.tup vs)→dz H vs ds→qt H (.ref a) (.tuple ds)
inductive dz (H:Hp):List V→List PyData→Prop where
 | nil:dz H [] []
 | cons {v:V} {vs:List V} {d:PyData} {ds:List PyData}:qt H v d→dz H vs ds→dz H (v :: vs) (d :: ds)
end
section
variable {X:Cx} {pins:List (Addr×Obj)} {σ : St} {H:Hp} {s:Shared}
mutual
theorem qt.reads (I:Inv X pins σ H s):∀ {v:V} {d:PyData} {u:Value},qt H v d→RelV v u→∃ as,Reads s.heap u d as
 | _,_,u,.int i,r=>by
  obtain ⟨t,rfl⟩:=r
  exact ⟨_,.int i t⟩
 | _,_,u,.lst (a:=a) (vs:=vs) e h,r=>by
  cases (show u = Value.ref a from r)
  obtain ⟨_,aO,n,rv,g⟩:=(show bh X.prog X.w H s.heap a (.lst vs) from I.bz a _ e)
  obtain ⟨as,ra⟩:=dz.reads I h rv
  exact ⟨_,.list g rfl rfl (by simpa using ra)⟩
 | _,_,u,.tup (a:=a) (vs:=vs) e h,r=>by
  cases (show u = Value.ref a from r)
  obtain ⟨_,aO,rv,o,g,hc,n,hd⟩:=(show bh X.prog X.w H s.heap a (.tup vs) from I.bz a _ e)
  obtain ⟨as,ra⟩:=dz.reads I h rv
  exact ⟨_,.tuple g hc hd (by simpa using ra)⟩
theorem dz.reads (I:Inv X pins σ H s):∀ {vs:List V} {ds:List PyData} {us:List Value},dz H vs ds→Vals vs us→∃ as,ReadsAll s.heap us ds as
 | _,_,_,.nil,.nil=>⟨_,.nil⟩
 | _,_,_,.cons h t,.cons r q=>by
  obtain ⟨as,ra⟩:=qt.reads I h r
  obtain ⟨bs,rb⟩:=dz.reads I t q
  exact ⟨_,.cons ra rb⟩
end
end
def B9 (neg:Bool):R2:=fun x y H Q=>∃ da db,qt H x da∧qt H y db∧SeqAt.shaped da = true∧SeqAt.shaped db = true∧Q (.bl (if neg then !PyData.eqv da db else PyData.eqv da db)) H
theorem zJ {X:Cx} (hu:X.A.units + 64 < cLine):iT X (compareOp .Eq) (B9 false):=by
 intro pins s σ H x y v u Q I rx ry h
 obtain ⟨da,db,ra,rb,ha,hb,q⟩:=h
 obtain ⟨as,r1⟩:=qt.reads I ra rx
 obtain ⟨bs,r2⟩:=qt.reads I rb ry
 exact SeqAt.compareEq_shaped r1 r2 ha hb hu (aY I q rfl)
theorem pR {X:Cx} (hu:X.A.units + 64 < cLine):iT X (compareOp .NotEq) (B9 true):=by
 intro pins s σ H x y v u Q I rx ry h
 obtain ⟨da,db,ra,rb,ha,hb,q⟩:=h
 obtain ⟨as,r1⟩:=qt.reads I ra rx
 obtain ⟨bs,r2⟩:=qt.reads I rb ry
 exact SeqAt.compareNe_shaped r1 r2 ha hb hu (aY I q rfl)
def b9 (l:List Int):PyData:=.list (l.map .int)
def eB (L:List (List Int)):PyData:=.list (L.map b9)
def C9 (p:Int×Int):PyData:=.tuple [.int p.1,.int p.2]
def IJ (L:List (Int×Int)):PyData:=.list (L.map C9)
theorem lay_ints:∀ l:List Int,PyData.canLayAll0 (l.map .int) = true∧PyData.depthAll (l.map .int) = 0
 | []=>⟨by simp [PyData.canLayAll0],by simp [PyData.depthAll]⟩
 | i :: l=>by
  obtain ⟨h1,h2⟩:=lay_ints l
  simp [PyData.canLayAll0,PyData.depthAll,PyData.canLay0,PyData.depth,h1,h2]
theorem ox:∀ L:List (List Int),PyData.canLayAll0 (L.map b9) = true∧PyData.depthAll (L.map b9)≤1
 | []=>⟨by simp [PyData.canLayAll0],by simp [PyData.depthAll]⟩
 | l :: L=>by
  obtain ⟨h1,h2⟩:=ox L
  obtain ⟨h3,h4⟩:=lay_ints l
  simp [PyData.canLayAll0,PyData.depthAll,PyData.canLay0,PyData.depth,b9,h1,h3,h4]
  omega
theorem dO (L:List (List Int)):SeqAt.shaped (eB L) = true:=by
 obtain ⟨h1,h2⟩:=ox L
 unfold SeqAt.shaped eB
 simp [PyData.canLay0,PyData.depth,h1]
 omega
theorem jX:∀ l m:List Int,PyData.eqvAll (l.map .int) (m.map .int) = decide (l = m)
 | [],[]=>by simp [PyData.eqvAll]
 | [],_ :: _=>by simp [PyData.eqvAll]
 | _ :: _,[]=>by simp [PyData.eqvAll]
 | i :: l,j :: m=>by
  simp only [List.map_cons,PyData.eqvAll,PyData.eqv,jX l m]
  by_cases h1:i = j <;> by_cases h2:l = m <;> simp [h1,h2]
theorem lE:∀ L M:List (List Int),PyData.eqvAll (L.map b9) (M.map b9) = decide (L = M)
 | [],[]=>by simp [PyData.eqvAll]
 | [],_ :: _=>by simp [PyData.eqvAll]
 | _ :: _,[]=>by simp [PyData.eqvAll]
 | i :: l,j :: m=>by
  rw [List.map_cons,List.map_cons,PyData.eqvAll,lE l m]
  have e:PyData.eqv (b9 i) (b9 j) = decide (i = j):=by unfold b9; rw [PyData.eqv]; exact jX i j
  rw [e]
  by_cases h1:i = j <;> by_cases h2:l = m <;> simp [h1,h2]
theorem oK (L M:List (List Int)):PyData.eqv (eB L) (eB M) = decide (L = M):=by
 unfold eB; rw [PyData.eqv]; exact lE L M
end L2
end
section
namespace L2
open PySem PySem.Spec PySem.W PySem.Calls PyProof.Rows
theorem qj:bootBuiltins "min" = some (.builtin "min"):=by decide +kernel
theorem tK:bootBuiltins "sorted" = some (.builtin "sorted"):=by decide +kernel
theorem ni {i j:Int} (h1:0 < j) (h2:j < 2 ^ 250):JD i j:=⟨h1,Sz.mono (m:=250) (by unfold Sz; omega) (by decide)⟩
theorem mL {ns:List Int} {k:Int} (h0:0≤k) (h1:k < ns.length):∃ n,j3 (ns.map V.int) k = some (V.int n):=by
 obtain ⟨j,rfl⟩:=Int.eq_ofNat_of_zero_le h0
 have hj:j < ns.length:=by omega
 exact ⟨ns[j],jc (by simp [hj])⟩
end L2
end
section
namespace L2
open PySem PySem.Spec PySem.W PySem.Calls PyProof.Rows
theorem aD {α : Type} {p : α→Prop}:∀ x∈([]:List α),p x:=fun _ h=>by cases h
theorem ai {α : Type} {p : α→Prop} {a : α} {l:List α} (h:p a) (t:∀ x∈l,p x):∀ x∈a :: l,p x:=List.forall_mem_cons.mpr ⟨h,t⟩
end L2
namespace L2
open PySem PySem.Spec PySem.W PySem.Calls PyProof.Rows
section
variable {σ : St} {H:Hp} {Q:VK} {D:Ends} {K:Frag}
theorem zu {T:String} {r:V→List V→Hp→VK→Prop} {to:TE} {t:TA} (h:to σ H fun x H1=>DK K T x H1∧t σ H1 fun xs H2=>r x xs H2 Q):JS K T r to t σ H Q:=h
theorem mw {R:Bool→Hp→Prop} (h:R true H):qy σ H R:=h
theorem dF {l:Addr} {xs:List V} {y:V} (h:H l = some (.lst xs)) (hl:xs.length < sizeLine) (q:Q .bY (upd H l (.lst (xs ++ [y])))):qY (.ref l) [y] H Q:=⟨l,xs,y,rfl,rfl,h,hl,q⟩
theorem ft {l:Addr} {xs:List V} {y:V} {i:Int} {k:Nat} (hi:i = k) (h:H l = some (.lst xs)) (hk:k≤xs.length) (hl:xs.length < sizeLine) (q:Q .bY (upd H l (.lst (xs.take k ++ y :: xs.drop k)))):qW (.ref l) [.int i,y] H Q:=⟨l,xs,y,k,rfl,by rw [hi],h,hk,hl,q⟩
theorem nV {l b:Addr} {xs zs:List V} (h:H l = some (.lst xs)) (hb:H b = some (.lst zs)) (hl:xs.length + zs.length≤sizeLine) (q:Q .bY (upd H l (.lst (xs ++ zs)))):qX (.ref l) [.ref b] H Q:=⟨l,b,xs,zs,rfl,rfl,h,hb,hl,q⟩
theorem ir {p:Addr} {x:Int} {ns:List Int} {neg:Bool} (h:aG K H p (ns.map V.int)) (q:Q (.bl (if neg then !decide (x∈ns) else decide (x∈ns))) H):DX K neg (.int x) (.ref p) H Q:=by
 have e:El (.int x) (ns.map V.int) = decide (x∈ns):=by
  unfold El
  rw [List.any_map]
  have:(fun y=>xC y (V.int x)) ∘ V.int = fun y=>y == x:=by funext y; rfl
  rw [this]
  clear this q h
  induction ns with
  | nil=>simp
  | cons a l ih=>
   rw [List.any_cons,ih]
   by_cases h1:a = x
   ·subst h1; simp
   ·have h2:¬ x = a:=fun z=>h1 z.symm
    simp [h1,h2]
 refine ⟨p,_,rfl,.inl h,rfl,?_,by rw [e]; exact q⟩
 rw [List.all_map]
 simp [hU]
theorem dH {n i:Nat} {A:Prop} (hi:i < n) (h:A):∃ m',m' < n - i∧(m' = n - (i + 1)∧i + 1≤n∧A):=⟨_,by omega,rfl,hi,h⟩
theorem jZ {R:Hp→Prop} {acc:Addr} {lo:Int} {n:Nat} {g:TG} {tt:TT} {te:TE} (Pv:Nat→St→List V→Hp→Prop) (h0:Pv 0 σ [] H)
  (hs:∀ i σ ys H,i < n→Pv i σ ys H→g (.int (lo + i)) σ H fun σ2 H4=>tt σ2 H4 fun b H5=>if b = true then te σ2 H5 fun y H6=>H6 acc = some (.lst ys)∧ys.length < sizeLine∧∃ m',m' < n - i∧(m' = n - (i + 1)∧i + 1≤n∧Pv (i + 1) σ2 (ys ++ [y]) (upd H6 acc (.lst (ys ++ [y])))) else ∃ m',m' < n - i∧(m' = n - (i + 1)∧i + 1≤n∧Pv (i + 1) σ2 ys H5))
  (hd:∀ σ ys H,Pv n σ ys H→R H) :
  ∃ W:Nat→Nat→St→List V→Hp→Prop,(∃ m,W 0 m σ [] H)∧∀ i m σ' ys H2,W i m σ' ys H2→(((we lo n).stop i H2∧R H2)∨((we lo n).go i H2∧∀ x H3,(we lo n).tV i H2 x H3→g x σ' H3 fun σ2 H4=>tt σ2 H4 fun b H5=>
   if b = true then te σ2 H5 fun y H6=>H6 acc = some (.lst ys)∧ys.length < sizeLine∧∃ m',m' < m∧W (i + 1) m' σ2 (ys ++ [y]) (upd H6 acc (.lst (ys ++ [y]))) else ∃ m',m' < m∧W (i + 1) m' σ2 ys H5)):=by
 refine ⟨fun i m σ ys H=>m = n - i∧i≤n∧Pv i σ ys H,⟨n,by simp,Nat.zero_le _,h0⟩,?_⟩
 rintro i m σ ys H ⟨rfl,hi,p⟩
 by_cases dD:i < n
 ·refine .inr ⟨dD,fun x H' y=>?_⟩
  obtain ⟨e,y⟩:=y
  subst e y
  exact hs i σ ys _ dD p
 ·have e:i = n:=by omega
  subst e
  exact .inl ⟨Nat.le_refl _,hd σ ys H p⟩
theorem cU {R:Hp→Prop} {acc a:Addr} {xs:List V} {g:TG} {tt:TT} {te:TE} (Pv:Nat→St→List V→Hp→Prop) (h0:Pv 0 σ [] H) (hl:∀ i σ ys H,i≤xs.length→Pv i σ ys H→aG K H a xs)
  (hs:∀ i x σ ys H,xs[i]? = some x→i < xs.length→Pv i σ ys H→g x σ H fun σ2 H4=>tt σ2 H4 fun b H5=>if b = true then te σ2 H5 fun y H6=>H6 acc = some (.lst ys)∧ys.length < sizeLine∧∃ m',m' < xs.length - i∧(m' = xs.length - (i + 1)∧i + 1≤xs.length∧Pv (i + 1) σ2 (ys ++ [y]) (upd H6 acc (.lst (ys ++ [y])))) else ∃ m',m' < xs.length - i∧(m' = xs.length - (i + 1)∧i + 1≤xs.length∧Pv (i + 1) σ2 ys H5))
  (hd:∀ σ ys H,Pv xs.length σ ys H→R H) :
  ∃ W:Nat→Nat→St→List V→Hp→Prop,(∃ m,W 0 m σ [] H)∧∀ i m σ' ys H2,W i m σ' ys H2→(((xT K a).stop i H2∧R H2)∨((xT K a).go i H2∧∀ x H3,(xT K a).tV i H2 x H3→g x σ' H3 fun σ2 H4=>tt σ2 H4 fun b H5=>
   if b = true then te σ2 H5 fun y H6=>H6 acc = some (.lst ys)∧ys.length < sizeLine∧∃ m',m' < m∧W (i + 1) m' σ2 (ys ++ [y]) (upd H6 acc (.lst (ys ++ [y]))) else ∃ m',m' < m∧W (i + 1) m' σ2 ys H5)):=by
 refine ⟨fun i m σ ys H=>m = xs.length - i∧i≤xs.length∧Pv i σ ys H,⟨xs.length,by simp,Nat.zero_le _,h0⟩,?_⟩
 rintro i m σ ys H ⟨rfl,hi,p⟩
 have q:=hl i σ ys H hi p
 by_cases dD:i < xs.length
 ·refine .inr ⟨⟨xs,xs[i],q,by simp [dD]⟩,fun x H' y=>?_⟩
  obtain ⟨e,y⟩:=y
  subst e
  exact hs i x σ ys _ (y xs q) dD p
 ·have e:i = xs.length:=by omega
  subst e
  exact .inl ⟨⟨xs,q,Nat.le_refl _⟩,hd σ ys H p⟩
theorem eN {wi:TI} {g:TG} {tt:TT} {te:TE} {n:Nat} {fr:List Nat} (h:wi σ H fun J H1=>∀ acc,H1 acc = none→∃ W:Nat→Nat→St→List V→Hp→Prop,(∃ m,W 0 m (gb n fr σ) [] (upd H1 acc (.lst [])))∧
 ∀ i m σ' ys H2,W i m σ' ys H2→((J.stop i H2∧Q (.ref acc) H2)∨(J.go i H2∧∀ x H3,J.tV i H2 x H3→g x σ' H3 fun σ2 H4=>tt σ2 H4 fun b H5=>
  if b = true then te σ2 H5 fun y H6=>H6 acc = some (.lst ys)∧ys.length < sizeLine∧∃ m',m' < m∧W (i + 1) m' σ2 (ys ++ [y]) (upd H6 acc (.lst (ys ++ [y]))) else ∃ m',m' < m∧W (i + 1) m' σ2 ys H5))):kL wi g tt te n fr σ H Q:=h
end
end L2
end
section
namespace Gm
open PySem L2
def put (l:List Int) (k:Nat) (x:Int):List Int:=l.take k ++ x :: l.drop k
theorem d8 (l:List Int) (k:Nat) (x:Int):(put l k x).Perm (x :: l):=by
 unfold put
 refine List.perm_middle.trans ?_
 rw [List.take_append_drop]
theorem cm {l:List Int} {k:Nat} {x y:Int}:y∈put l k x↔y = x∨y∈l:=by rw [(d8 l k x).mem_iff,List.mem_cons]
theorem kX {l:List Int} {k:Nat} {x:Int} (h:x∉l) (n:l.Nodup):(put l k x).Nodup:=(d8 l k x).nodup_iff.mpr (List.nodup_cons.mpr ⟨h,n⟩)
theorem map_put {l:List Int} {k:Nat} {x:Int}:(l.map V.int).take k ++ V.int x :: (l.map V.int).drop k = (put l k x).map V.int:=by simp [put,List.map_take,List.map_drop]
structure aI (L:List (List Int)):Prop where
 nd:∀ (i:Nat) (l:List Int),L[i]? = some l→l.Nodup
 rg:∀ (i:Nat) (l:List Int),L[i]? = some l→∀ x∈l,0≤x∧x < L.length∧x≠i
 sy:∀ (i:Nat) (l:List Int),L[i]? = some l→∀ x∈l,∀ j:Nat,x = j→∀ m,L[j]? = some m→(i:Int)∈m
structure Made (n one other:Nat) (L:List (List Int)):Prop where
 len:L.length = n
 map:aI L
 bd:∀ (i:Nat) (l:List Int),L[i]? = some l→∀ x∈l,(i < one∧x < one)∨(i = one∧x < other)∨(x = one∧i < other)
theorem Made.skip {n one other:Nat} {L:List (List Int)} (h:Made n one other L):Made n one (other + 1) L:=
 ⟨h.len,h.map,fun i l e x hx=>by have:=h.bd i l e x hx; omega⟩
theorem Made.next {n one:Nat} {L:List (List Int)} (h:Made n one one L):Made n (one + 1) 0 L:=
 ⟨h.len,h.map,fun i l e x hx=>by have:=h.bd i l e x hx; omega⟩
theorem Made.start {n:Nat} {L:List (List Int)} (h:L.length = n) (e:∀ (i:Nat) (l:List Int),L[i]? = some l→l = []):Made n 0 0 L:=by
 refine ⟨h,⟨fun i l q=>by rw [e i l q]; exact List.nodup_nil,fun i l q x hx=>?_,fun i l q x hx=>?_⟩,fun i l q x hx=>?_⟩ <;> (rw [e i l q] at hx; cases hx)
theorem pj {L:List (List Int)} {a b i:Nat} {x y l:List Int} (h:((L.set a x).set b y)[i]? = some l):(i = b∧l = y)∨(i≠b∧i = a∧l = x)∨(i≠b∧i≠a∧L[i]? = some l):=by
 by_cases hb:i = b
 ·subst hb
  rw [List.getElem?_set] at h
  rw [if_pos rfl] at h
  split at h
  ·exact .inl ⟨rfl,(Option.some.inj h).symm⟩
  ·cases h
 ·rw [List.getElem?_set_ne (fun z=>hb z.symm)] at h
  by_cases ha:i = a
  ·subst ha
   rw [List.getElem?_set,if_pos rfl] at h
   split at h
   ·exact .inr (.inl ⟨hb,rfl,(Option.some.inj h).symm⟩)
   ·cases h
  ·rw [List.getElem?_set_ne (fun z=>ha z.symm)] at h
   exact .inr (.inr ⟨hb,ha,h⟩)
theorem Made.step {n one other k1 k2:Nat} {L:List (List Int)} {l1 l2:List Int} (h:Made n one other L) (ho:other < one) (hn:one < n) (e1:L[one]? = some l1) (e2:L[other]? = some l2) :
  Made n one (other + 1) ((L.set one (put l1 k1 other)).set other (put l2 k2 one)):=by
 have n1:(other:Int)∉l1:=fun z=>by have:=h.bd _ _ e1 _ z; omega
 have n2:(one:Int)∉l2:=fun z=>by have:=h.bd _ _ e2 _ z; omega
 have hl:=h.len
 refine ⟨by rw [List.length_set,List.length_set]; exact hl,⟨fun i l e=>?_,fun i l e x hx=>?_,fun i l e x hx j hj m em=>?_⟩,fun i l e x hx=>?_⟩
 ·rcases pj e with ⟨_,rfl⟩ | ⟨_,_,rfl⟩ | ⟨_,_,q⟩
  ·exact kX n2 (h.map.nd _ _ e2)
  ·exact kX n1 (h.map.nd _ _ e1)
  ·exact h.map.nd _ _ q
 ·rw [List.length_set,List.length_set]
  rcases pj e with ⟨rfl,rfl⟩ | ⟨_,rfl,rfl⟩ | ⟨_,_,q⟩
  ·rcases cm.mp hx with z | z
   ·omega
   ·exact h.map.rg _ _ e2 _ z
  ·rcases cm.mp hx with z | z
   ·omega
   ·exact h.map.rg _ _ e1 _ z
  ·exact h.map.rg _ _ q _ hx
 ·rcases pj e with ⟨rfl,rfl⟩ | ⟨hb,rfl,rfl⟩ | ⟨hb,ha,q⟩
  ·rcases pj em with ⟨rfl,rfl⟩ | ⟨jb,rfl,rfl⟩ | ⟨jb,ja,qm⟩
   ·rcases cm.mp hx with z | z
    ·omega
    ·have:=h.map.rg _ _ e2 _ z; omega
   ·exact cm.mpr (.inl rfl)
   ·rcases cm.mp hx with z | z
    ·omega
    ·exact h.map.sy _ _ e2 _ z _ hj _ qm
  ·rcases pj em with ⟨rfl,rfl⟩ | ⟨jb,rfl,rfl⟩ | ⟨jb,ja,qm⟩
   ·exact cm.mpr (.inl rfl)
   ·rcases cm.mp hx with z | z
    ·omega
    ·have:=h.map.rg _ _ e1 _ z; omega
   ·rcases cm.mp hx with z | z
    ·omega
    ·exact h.map.sy _ _ e1 _ z _ hj _ qm
  ·rcases pj em with ⟨rfl,rfl⟩ | ⟨jb,rfl,rfl⟩ | ⟨jb,ja,qm⟩
   ·exact cm.mpr (.inr (h.map.sy _ _ q _ hx _ hj _ e2))
   ·exact cm.mpr (.inr (h.map.sy _ _ q _ hx _ hj _ e1))
   ·exact h.map.sy _ _ q _ hx _ hj _ qm
 ·rcases pj e with ⟨rfl,rfl⟩ | ⟨_,rfl,rfl⟩ | ⟨_,_,q⟩
  ·rcases cm.mp hx with z | z
   ·omega
   ·have:=h.bd _ _ e2 _ z; omega
  ·rcases cm.mp hx with z | z
   ·omega
   ·have:=h.bd _ _ e1 _ z; omega
  ·have:=h.bd _ _ q _ hx; omega
structure aV (H:Hp) (p:Addr) (as:List Addr) (L:List (List Int)):Prop where
 top:H p = some (.lst (as.map V.ref))
 len:as.length = L.length
 row:∀ (i:Nat) (a:Addr) (l:List Int),as[i]? = some a→L[i]? = some l→H a = some (.lst (l.map V.int))
section
variable {H H':Hp} {p:Addr} {as:List Addr} {L:List (List Int)}
theorem aV.at (g:aV H p as L) {i:Nat} (hi:i < L.length):∃ a l,as[i]? = some a∧L[i]? = some l∧H a = some (.lst (l.map V.int)):=by
 have h2:i < as.length:=by rw [g.len]; exact hi
 exact ⟨as[i],L[i],by simp [h2],by simp [hi],g.row i _ _ (by simp [h2]) (by simp [hi])⟩
theorem aV.same (g:aV H p as L) (e:aj H H'):aV H' p as L:=⟨e _ _ g.top,g.len,fun i a l h1 h2=>e _ _ (g.row i a l h1 h2)⟩
theorem aV.set (g:aV H p as L) (nd:(p :: as).Nodup) {i:Nat} {a:Addr} {l':List Int} (hi:as[i]? = some a):aV (upd H a (.lst (l'.map V.int))) p as (L.set i l'):=by
 have hp:p≠a:=fun z=>(List.nodup_cons.mp nd).1 (z▸List.mem_of_getElem? hi)
 refine ⟨by rw [ak hp]; exact g.top,by rw [List.length_set]; exact g.len,fun j b l h1 h2=>?_⟩
 by_cases hj:j = i
 ·subst hj
  rw [hi] at h1
  cases h1
  rw [List.getElem?_set,if_pos rfl] at h2
  split at h2
  ·cases h2; exact ae
  ·cases h2
 ·rw [List.getElem?_set_ne (fun z=>hj z.symm)] at h2
  have hb:b≠a:=fun z=>by
   subst z
   obtain ⟨q1,w1⟩:=List.getElem?_eq_some_iff.mp h1
   obtain ⟨q2,w2⟩:=List.getElem?_eq_some_iff.mp hi
   exact hj ((List.getElem_inj (List.nodup_cons.mp nd).2).mp (w1.trans w2.symm))
  rw [ak hb]
  exact g.row j b l h1 h2
theorem aV.ix (g:aV H p as L) {i:Nat} {a:Addr} (hi:as[i]? = some a):j3 (as.map V.ref) (i:Int) = some (V.ref a):=jc (by rw [List.getElem?_map,hi]; rfl)
theorem nT {H:Hp}:∀ l:List Int,dz H (l.map V.int) (l.map PyData.int)
 | []=>.nil
 | i :: l=>.cons (.int i) (nT l)
theorem eJ {a:Addr} {l:List Int} (h:H a = some (.lst (l.map V.int))):qt H (.ref a) (b9 l):=.lst h (nT l)
theorem nR:∀ {as:List Addr} {L:List (List Int)},as.length = L.length→(∀ (i:Nat) (a:Addr) (l:List Int),as[i]? = some a→L[i]? = some l→H a = some (.lst (l.map V.int)))→dz H (as.map V.ref) (L.map b9)
 | [],[],_,_=>.nil
 | [],_ :: _,h,_=>by simp at h
 | _ :: _,[],h,_=>by simp at h
 | a :: as,l :: L,h,r=>.cons (eJ (r 0 a l rfl rfl)) (nR (by simpa using h) fun i b m h1 h2=>r (i + 1) b m (by simpa using h1) (by simpa using h2))
theorem aV.DU (g:aV H p as L):qt H (.ref p) (eB L):=.lst g.top (nR g.len g.row)
end
theorem aj.fresh {H H':Hp} {a:Addr} {o:HO} (e:aj H H') (h:H a = none):aj H (upd H' a o):=fun b u q=>by rw [ak (fun z=>by rw [z,h] at q; cases q)]; exact e b u q
inductive Reach (L:List (List Int)) (s:Int):Int→Prop where
 | here:Reach L s s
 | step {i:Nat} {l:List Int} {x:Int}:Reach L s i→L[i]? = some l→x∈l→Reach L s x
theorem fI {α : Type} [BEq α] [LawfulBEq α]:∀ {l r:List α},l.Nodup→(∀ x∈l,x∈r)→l.length≤r.length
 | [],_,_,_=>Nat.zero_le _
 | x :: l,r,n,h=>by
  have hx:x∈r:=h x List.mem_cons_self
  have n2:=List.nodup_cons.mp n
  have ih:=fI (r:=r.erase x) n2.2 fun y hy=>by
   have ne:y≠x:=fun z=>n2.1 (z▸hy)
   exact (List.mem_erase_of_ne ne).mpr (h y (List.mem_cons_of_mem _ hy))
  rw [List.length_erase_of_mem hx] at ih
  have:=List.length_pos_of_mem hx
  rw [List.length_cons]; omega
theorem cn {n:Nat} {l:List Int} (h:l.Nodup) (r:∀ x∈l,0≤x∧x < n):l.length≤n:=by
 have:=fI (r:=(List.range n).map fun i:Nat=>(i:Int)) h fun x hx=>by
  have:=r x hx
  exact List.mem_map.mpr ⟨x.toNat,List.mem_range.mpr (by omega),by omega⟩
 simpa using this
theorem len_eq {α : Type} [BEq α] [LawfulBEq α] {l r:List α} (h1:l.Nodup) (h2:r.Nodup) (h:∀ x,x∈l↔x∈r):l.length = r.length:=
 Nat.le_antisymm (fI h1 fun x=>(h x).mp) (fI h2 fun x=>(h x).mpr)
end Gm
namespace Gm
open PySem L2
theorem Made.small {n i j:Nat} {L:List (List Int)} (m:Made n i j L) {k:Nat} {l:List Int} (h:L[k]? = some l):l.length≤n:=
 cn (m.map.nd _ _ h) fun x hx=>by have:=m.map.rg _ _ h _ hx; have:=m.len; omega
theorem az {n:Nat} (h:n≤1000):n < sizeLine:=by rw [PySem.sizeLine_eq]; omega
end Gm
end
section
namespace Gm
open PySem L2
def ki (i:Nat) (l:List Int):Nat→List Int
 | 0=>[]
 | j + 1=>ki i l j ++ (if ((i + 1 + j:Nat):Int)∈l then [((i + 1 + j:Nat):Int)] else [])
def dq (L:List (List Int)):Nat→List (Int×Int)
 | 0=>[]
 | k + 1=>dq L k ++ (ki k (L.getD k []) (L.length - (k + 1))).map fun x=>((k:Int),x)
theorem fE {i:Nat} {l:List Int}:∀ {j:Nat} {x:Int},x∈ki i l j↔(i:Int) < x∧x < (i + 1 + j:Nat)∧x∈l
 | 0,x=>by simp only [ki,List.not_mem_nil,false_iff]; intro h; omega
 | j + 1,x=>by
  rw [ki,List.mem_append,fE]
  by_cases h:((i + 1 + j:Nat):Int)∈l
  ·rw [if_pos h,List.mem_singleton]
   constructor
   ·rintro (⟨h1,h2,h3⟩ | rfl)
    ·exact ⟨h1,by omega,h3⟩
    ·exact ⟨by omega,by omega,h⟩
   ·rintro ⟨h1,h2,h3⟩
    by_cases e:x = ((i + 1 + j:Nat):Int)
    ·exact .inr e
    ·exact .inl ⟨h1,by omega,h3⟩
  ·rw [if_neg h]
   simp only [List.not_mem_nil,or_false]
   constructor
   ·rintro ⟨h1,h2,h3⟩
    exact ⟨h1,by omega,h3⟩
   ·rintro ⟨h1,h2,h3⟩
    have:x≠((i + 1 + j:Nat):Int):=fun z=>h (z▸h3)
    exact ⟨h1,by omega,h3⟩
theorem fk {i:Nat} {l:List Int}:∀ j,(ki i l j).Pairwise (· < ·)
 | 0=>.nil
 | j + 1=>by
  rw [ki,List.pairwise_append]
  refine ⟨fk j,by split <;> simp,fun a ha b hb=>?_⟩
  have:=fE.mp ha
  split at hb
  ·rw [List.mem_singleton] at hb; omega
  ·cases hb
theorem jm:∀ {l r:List Int},l.Pairwise (· < ·)→r.Pairwise (· < ·)→(∀ x,x∈l↔x∈r)→l = r
 | [],[],_,_,_=>rfl
 | [],b :: r,_,_,h=>absurd ((h b).mpr List.mem_cons_self) (by simp)
 | a :: l,[],_,_,h=>absurd ((h a).mp List.mem_cons_self) (by simp)
 | a :: l,b :: r,hl,hr,h=>by
  obtain ⟨l1,l2⟩:=List.pairwise_cons.mp hl
  obtain ⟨r1,r2⟩:=List.pairwise_cons.mp hr
  have e:a = b:=by
   rcases List.mem_cons.mp ((h a).mp List.mem_cons_self) with z | z
   ·exact z
   ·rcases List.mem_cons.mp ((h b).mpr List.mem_cons_self) with y | y
    ·exact y.symm
    ·have:=r1 a z; have:=l1 b y; omega
  subst e
  rw [jm l2 r2 fun x=>?_]
  constructor
  ·intro z
   rcases List.mem_cons.mp ((h x).mp (List.mem_cons_of_mem _ z)) with y | y
   ·have:=l1 x z; omega
   ·exact y
  ·intro z
   rcases List.mem_cons.mp ((h x).mpr (List.mem_cons_of_mem _ z)) with y | y
   ·have:=r1 x z; omega
   ·exact y
theorem strict {l:List Int} (h:l.Pairwise (·≤·)) (n:l.Nodup):l.Pairwise (· < ·):=by
 have:=h.and n
 exact this.imp fun ⟨x,y⟩=>by omega
theorem zg {i n:Nat} {l s:List Int} (p:s.Perm l) (h:s.Pairwise (·≤·)) (n1:l.Nodup) (r:∀ x∈l,x < n) (hi:i < n):s.filter (fun x=>decide ((i:Int) < x)) = ki i l (n - (i + 1)):=by
 refine jm ((strict h (p.nodup_iff.mpr n1)).filter _) (fk _) fun x=>?_
 rw [List.mem_filter,fE,p.mem_iff]
 simp only [decide_eq_true_eq]
 constructor
 ·rintro ⟨h1,h2⟩
  have:=r x h1
  exact ⟨h2,by omega,h1⟩
 ·rintro ⟨h1,h2,h3⟩
  exact ⟨h3,h1⟩
theorem oq {i:Nat} {l:List Int}:∀ j,(ki i l j).length≤j
 | 0=>Nat.le_refl _
 | j + 1=>by
  rw [ki,List.length_append]
  have:=oq (i:=i) (l:=l) j
  split <;> simp <;> omega
theorem ou {L:List (List Int)}:∀ k,(dq L k).length≤k * L.length
 | 0=>Nat.zero_le _
 | k + 1=>by
  rw [dq,List.length_append,List.length_map]
  have:=ou (L:=L) k
  have:=oq (i:=k) (l:=L.getD k []) (L.length - (k + 1))
  rw [Nat.succ_mul]; omega
abbrev PR (H:Hp):List Addr→List (Int×Int)→Prop:=Paired fun a x=>H a = some (.tup [.int x.1,.int x.2])
theorem PR.lst {H:Hp} {t:Addr} {xs zs:List V} {ps:List Addr} {T:List (Int×Int)} (h:PR H ps T) (ht:H t = some (.lst xs)):PR (upd H t (.lst zs)) ps T:=
 Paired.sL h fun a x e=>by
  rw [ak (fun z=>by rw [z,ht] at e; cases e)]; exact e
theorem PR.same {H H':Hp} {ps:List Addr} {T:List (Int×Int)} (h:PR H ps T) (e:aj H H'):PR H' ps T:=Paired.sL h fun a x q=>e _ _ q
theorem PR.app {H:Hp}:∀ {ps qs:List Addr} {T U:List (Int×Int)},PR H ps T→PR H qs U→PR H (ps ++ qs) (T ++ U)
 | _,_,_,_,.nil,h=>h
 | _,_,_,_,.cons r t,h=>.cons r (PR.app t h)
theorem PR.len {H:Hp} {ps:List Addr} {T:List (Int×Int)} (h:PR H ps T):ps.length = T.length:=Paired.length h
end Gm
end
section
namespace Gm
open PySem L2
structure Fl (L:List (List Int)) (s:Int) (ks ws:List Int):Prop where
 nd:ks.Nodup
 nw:ws.Nodup
 st:s∈ks
 re:∀ x∈ks,Reach L s x
 sub:∀ x∈ws,x∈ks
 cl:∀ (i:Nat) (l:List Int),(i:Int)∈ks→(i:Int)∉ws→L[i]? = some l→∀ x∈l,x∈ks
structure Fi (L:List (List Int)) (s:Int) (ks ws:List Int) (pl:Nat) (l:List Int) (k:Nat):Prop where
 nd:ks.Nodup
 nw:ws.Nodup
 st:s∈ks
 re:∀ x∈ks,Reach L s x
 sub:∀ x∈ws,x∈ks
 pk:(pl:Int)∈ks
 cl:∀ (i:Nat) (m:List Int),(i:Int)∈ks→(i:Int)∉ws→i≠pl→L[i]? = some m→∀ x∈m,x∈ks
 tk:∀ x∈l.take k,x∈ks
section
variable {L:List (List Int)} {s:Int} {ks ws:List Int} {pl k:Nat} {l:List Int} {x:Int}
theorem qJ {l:List Int} {x:Int}:(l ++ [x]).Nodup↔x∉l∧l.Nodup:=by
 rw [(List.perm_append_singleton x l).nodup_iff,List.nodup_cons]
end
def LN (L:List (List Int)) (fs:List Int):Prop:=∀ (i:Nat) (l:List Int),L[i]? = some l→(∃ x,x∈l∧x∈fs)→(i:Int)∈fs
structure Pa (L:List (List Int)) (fs:List Int) (k:Nat):Prop where
 nd:fs.Nodup
 st:(0:Int)∈fs
 re:∀ x∈fs,Reach L 0 x
 gr:LN L fs∨k + 1≤fs.length
structure Pi (L:List (List Int)) (m5 fs:List Int) (j:Nat):Prop where
 nd:fs.Nodup
 st:(0:Int)∈fs
 re:∀ x∈fs,Reach L 0 x
 kp:LN L m5→fs = m5
 gr:m5.length < fs.length∨(fs = m5∧∀ (i:Nat) (l:List Int),i < j→L[i]? = some l→(∃ x,x∈l∧x∈fs)→(i:Int)∈fs)
end Gm
namespace Gm
open PySem L2
theorem shaped_ints (l:List Int):SeqAt.shaped (b9 l) = true:=by
 obtain ⟨h1,h2⟩:=lay_ints l
 unfold SeqAt.shaped b9
 simp [PyData.canLay0,PyData.depth,h1,h2]
theorem m7 (l m:List Int):PyData.eqv (b9 l) (b9 m) = decide (l = m):=by unfold b9; rw [PyData.eqv]; exact jX l m
end Gm
end
section
namespace L2
open PySem PySem.Spec PySem.W PySem.Calls PyProof.Rows
section
variable {X:Cx} {K:Frag}
theorem pU (h:X.K = K):iT X (compareOp .In) (DX K false):=h▸cR
theorem vf (h:X.K = K):E1 X (wG K):=h▸aA
theorem tI (h:X.K = K):eE X (.builtin "len") (fun xs H Q=>∃ x n,xs = [x]∧DC K x H n∧Q (.int n) H):=by subst h; exact aH
theorem gh (h:X.K = K):eE X (.type "list") (fun xs H Q=>∃ p ys,xs = [.ref p]∧(aG K H p ys∨SqT K H p ys)∧∀ l,H l = none→Q (.ref l) (upd H l (.lst ys))):=by subst h; exact nj
end
end L2
end
section
namespace L2
open PySem PySem.Spec PySem.W PySem.Calls PyProof.Rows HT
section
open PySem.SeqAt
open PySem.AutoSeq1 (wpAny_loadPart')
open PySem.MeetsSeq PySem.MeetsSeq2 PySem.MeetsSeq3
theorem rG {vs:List Value} {ns:List Int} (h:IntsAre vs ns) {i:Nat} (hi:i < ns.length):∃ t,vs[i]? = some (.int ns[i] t):=by
 induction h generalizing i with
 | nil=>simp at hi
 | cons a t r ih=>
  cases i with
  | zero=>exact ⟨t,rfl⟩
  | succ i=>
   obtain ⟨u,hu⟩:=ih (i:=i) (by simpa using hi)
   exact ⟨u,by simpa using hu⟩
end
end L2
end
section
namespace L2
open PySem PySem.Spec PySem.W PySem.Calls PyProof.Rows HT
def MN (K:Frag):R2:=fun x y H Q=>∃ (a b:Addr) (ns ms:List Int),x = .ref a∧y = .ref b∧aG K H a (ns.map V.int)∧aG K H b (ms.map V.int)∧Q (.bl (lexLt ns ms)) H
def Le (a b:List Int):Prop:=lexLt b a = false
end L2
end
section
namespace L2
open PySem PySem.Spec PySem.W PySem.Calls PyProof.Rows
section
variable {cmp:Nat→Nat→(Bool→Shared→Prop)→Shared→Prop} {n:Nat} {f:Nat→List Int} {s:Shared}
def Ra (cmp:Nat→Nat→(Bool→Shared→Prop)→Shared→Prop) (n:Nat) (f:Nat→List Int) (s:Shared):Prop:=∀ i j C,i < n→j < n→C (HT.lexLt (f i) (f j)) s→cmp i j C s
structure Arr (n:Nat) (p:Array Nat):Prop where
 size:p.size = n
 perm:p.Perm (List.toArray (List.range n))
def kf (f:Nat→List Int) (p:Array Nat) (i:Nat):List Int:=f (p.getD i 0)
def Up (f:Nat→List Int) (p:Array Nat) (m:Nat):Prop:=∀ i,i + 1 < m→Le (kf f p i) (kf f p (i + 1))
def Dn (f:Nat→List Int) (p:Array Nat) (m:Nat):Prop:=∀ i,i + 1 < m→Le (kf f p (i + 1)) (kf f p i)
def Flt (f:Nat→List Int) (p:Array Nat) (m q:Nat):Prop:=∀ i,m - (q + 1)≤i→i < m→kf f p i = kf f p (m - 1)
end
end L2
end
section
namespace L2
open PySem PySem.Spec PySem.W PySem.Calls PyProof.Rows
def Jx (h:Heap) (vs:List Value) (f:Nat→List Int):Prop:=∀ i,i < vs.length→∃ b us,vs[i]? = some (.ref b)∧h.IsList b us∧IntsAre us.toList (f i)
def Kb (vs:List Value) (p:Array Nat):Array Value:=List.toArray (p.toList.map fun i=>vs.getD i Value.none)
def NP (h:Heap) (a:Addr) (vs:List Value):Heap:=((h.update a (Obj.mapSeq fun _=>#[])).push (seqObj "tuple" vs.toArray 0)).push (seqObj "list" #[] 0)
end L2
end
section
namespace L2
open PySem PySem.Spec PySem.W PySem.Calls PyProof.Rows
section
variable {prog:Program} {w:World} {A:Around} {R:Result→Shared→Prop} {I:Addr} {fp wr:List Addr} {n:Nat} {P:Nat→Value→Prop} {St:Nat→Heap→Prop} {Kp:Heap→Prop} {bt:Nat→Nat→Bool} {S:Addr}
def LM (prog:Program) (w:World) (A:Around) (P:Nat→Value→Prop) (Kp:Heap→Prop) (bt:Nat→Nat→Bool):Prop:=
 ∀ (i j:Nat) (x y:Value) (t:Shared) (Q E:Value→Shared→Prop),P i x→P j y→Kp t.heap→Q (.bool (bt i j)) t→wpAny (model prog w) A (richCompare .Lt x y) Q E t
end
theorem iz:∀ (l:List Int) (y:Int) (m:Nat) (h:m < l.length),m < l.idxOf y→l[m]≠y
 | [],_,m,h,_=>by simp at h
 | z :: l,y,m,h,hm=>by
  rw [List.idxOf_cons] at hm
  by_cases e:z = y
  ·rw [e] at hm; simp at hm
  ·have e2:(z == y) = false:=beq_false_of_ne e
   rw [e2] at hm
   cases m with
   | zero=>exact e
   | succ m=>
    have h2:m < l.length:=by simpa using h
    have h3:m < l.idxOf y:=by simpa using hm
    exact iz l y m h2 h3
section
variable {X:Cx}
def pick {α : Type} (d : α) (L:List α) (p:Array Nat):List α:=p.toList.map fun i=>L.getD i d
def B3 (K:Frag):List V→Hp→VK→Prop:=fun vs H Q=>∃ (a:Addr) (as:List Addr) (L:List (List Int)),vs = [.ref a]∧aG K H a (as.map V.ref)∧as.length = L.length∧(∀ (i:Nat) (b:Addr) (l:List Int),as[i]? = some b→L[i]? = some l→aG K H b (l.map V.int))∧as.length < 64∧
 ∀ (p:Array Nat) (q:Addr),Arr L.length p→Up (fun i=>L.getD i []) p L.length→H q = none→Q (.ref q) (upd H q (.lst ((pick 0 as p).map V.ref)))
def J3 (K:Frag):List V→Hp→VK→Prop:=fun vs H Q=>∃ (a:Addr) (as:List Addr) (L:List (List Int)),vs = [.ref a]∧aG K H a (as.map V.ref)∧as.length = L.length∧(∀ (i:Nat) (b:Addr) (l:List Int),as[i]? = some b→L[i]? = some l→aG K H b (l.map V.int))∧0 < as.length∧
 ∀ (i:Nat) (b:Addr) (l:List Int),as[i]? = some b→L[i]? = some l→(∀ m∈L,Le l m)→Q (.ref b) H
def J4 (K:Frag):List V→Hp→VK→Prop:=fun vs H Q=>∃ (a:Addr) (ns:List Int),vs = [.ref a]∧aG K H a (ns.map V.int)∧ns≠[]∧∀ m,m∈ns→(∀ x∈ns,m≤x)→Q (.int m) H
def MH (K:Frag):List V→Hp→VK→Prop:=fun vs H Q=>∃ (a:Addr) (ns:List Int),vs = [.ref a]∧aG K H a (ns.map V.int)∧ns.length≤1000∧(∀ x∈ns,0≤x∧x≤100000)∧Q (.int ns.sum) H
def zy (K:Frag):V→List V→Hp→VK→Prop:=fun x vs H Q=>∃ (l:Addr) (ns:List Int) (y:Int),x = .ref l∧vs = [.int y]∧H l = some (.lst (ns.map V.int))∧y∈ns∧Q (.int (ns.idxOf y:Nat)) H
theorem gY:Br X "list.index" (zy X.K):=by
 intro pins s σ H x vs v us Q I rx rv h
 obtain ⟨l,ns,y,rfl,rfl,hH,hy,q⟩:=h
 cases rx
 obtain ⟨u,rfl,t,rfl⟩:=rv.one
 obtain ⟨z,aO,n,r,hl,e⟩:=I.mO hH
 have hi:IntsAre aO ns:=intsAre_of r
 have zl:=hi.length
 have Pn:=jE
 have hj:ns.idxOf y < ns.length:=List.idxOf_lt_length_of_mem hy
 rw [List.length_map] at z
 let ev:Value→Bool:=fun v=>match v with | .int i _=>i == y | _=>false
 have at_:∀ m (hm:m < ns.length),∃ t,aO[m]? = some (.int ns[m] t):=fun m hm=>rG hi hm
 refine call_meets F.slot_list_index ⟨_,e,rfl⟩ F.entry_list_index (F.args_list_index_2 _ _) (SeqAt.list_indexAt l aO.toArray n none #[] (.int y t) ev (ns.idxOf y) (by rw [List.size_toArray]; omega) (by omega) ?_ ?_) ⟨e,?_,?_⟩
 ·obtain ⟨t1,e1⟩:=at_ _ hj
  have:aO.toArray[ns.idxOf y]'(by rw [List.size_toArray]; omega) = .int ns[ns.idxOf y] t1:=by
   have:=(List.getElem?_eq_some_iff.mp e1).2
   simpa using this
  rw [this]
  show (ns[ns.idxOf y] == y) = true
  rw [List.getElem_idxOf hj]
  simp
 ·intro m hm dD
  obtain ⟨t1,e1⟩:=at_ m (by omega)
  have:aO.toArray[m] = .int (ns[m]'(by omega)) t1:=by
   have:=(List.getElem?_eq_some_iff.mp e1).2
   simpa using this
  rw [this]
  show (ns[m]'(by omega) == y) = false
  exact beq_false_of_ne (iz ns y m (by omega) dD)
 ·intro w hw
  have Hm:w∈aO:=by simpa using hw
  obtain ⟨m,hm,rfl⟩:=List.mem_iff_getElem.mp Hm
  obtain ⟨t1,e1⟩:=at_ m (by omega)
  rw [(List.getElem?_eq_some_iff.mp e1).2]
  exact SeqAt.EqAt.int_int _ _ _ _
 ·exact ⟨.int (ns.idxOf y:Nat),H,I.tok _,⟨_,rfl⟩,q⟩
end
end L2
end
section
namespace Gm
open PySem L2
def cy (r:List Int) (j:Nat):Int:=r.getD (j % r.length) 0
theorem qh {r:List Int} {i j:Nat} (h:i % r.length = j % r.length):cy r i = cy r j:=by unfold cy; rw [h]
theorem yM {r:List Int} {j:Nat} (h:j < r.length):cy r j = r[j]:=by unfold cy; rw [Nat.mod_eq_of_lt h]; simp [h]
theorem AJ {r:List Int} {j:Nat} (h:0 < r.length):cy r j∈r:=by
 have hm:=Nat.mod_lt j h
 have:cy r j = r[j % r.length]:=by unfold cy; simp [hm]
 rw [this]; exact List.getElem_mem _
theorem eY {r:List Int} {i:Int} {j:Nat} (h1 : -(r.length:Int)≤i) (h2:i < r.length) (e:(j:Int) = i∨(j:Int) = i + r.length):j3 (r.map V.int) i = some (V.int (cy r j)):=by
 unfold j3 vV
 rw [List.length_map]
 by_cases h0:0≤i
 ·rw [if_pos h0,if_pos h2]
  have hi:i.toNat < r.length:=by omega
  have em:j % r.length = i.toNat:=by
   rcases e with e | e
   ·rw [Nat.mod_eq_of_lt (by omega)]; omega
   ·have:j = i.toNat + r.length:=by omega
    rw [this,Nat.add_mod_right,Nat.mod_eq_of_lt hi]
  show (r.map V.int)[i.toNat]? = _
  unfold cy
  rw [em]
  simp [hi]
 ·rw [if_neg h0,if_pos h1]
  have hj:(i + (r.length:Int)).toNat = j:=by omega
  have hl:j < r.length:=by omega
  show (r.map V.int)[(i + (r.length:Int)).toNat]? = _
  rw [hj,yM hl]
  simp [hl]
def DT (r:List Int) (k:Nat):List Int:=r.drop k ++ r.take k
abbrev ay:=Int×Int
def rowOf (L:List (List Int)) (a:Int):List Int:=L.getD a.toNat []
def pre (l:List Int) (x:Int):Int:=cy l (l.idxOf x + l.length - 1)
structure Dt (L:List (List Int)) (d:ay):Prop where
 lo:0≤d.1
 hi:d.1 < L.length
 mem:d.2∈rowOf L d.1
def nx (L:List (List Int)) (d:ay):ay:=(d.2,pre (rowOf L d.2) d.1)
theorem aE {L:List (List Int)} {a:Int} (h0:0≤a) (h1:a < L.length):L[a.toNat]? = some (rowOf L a):=by
 unfold rowOf
 have:a.toNat < L.length:=by omega
 simp [this]
theorem wI {l:List Int} {x:Int} (h:x∈l):pre l x∈l:=AJ (List.length_pos_of_mem h)
theorem md {i n:Nat} (h:i < n):(i + n - 1) % n = if i = 0 then n - 1 else i - 1:=by
 by_cases e:i = 0
 ·rw [if_pos e,e,Nat.zero_add,Nat.mod_eq_of_lt (by omega)]
 ·rw [if_neg e]
  have:i + n - 1 = (i - 1) + n:=by omega
  rw [this,Nat.add_mod_right,Nat.mod_eq_of_lt (by omega)]
theorem wJ {l:List Int} {x y:Int} (n:l.Nodup) (hx:x∈l) (hy:y∈l) (h:pre l x = pre l y):x = y:=by
 have ix:=List.idxOf_lt_length_of_mem hx
 have iy:=List.idxOf_lt_length_of_mem hy
 have p0:0 < l.length:=by omega
 unfold pre cy at h
 have mx:=Nat.mod_lt (l.idxOf x + l.length - 1) p0
 have my:=Nat.mod_lt (l.idxOf y + l.length - 1) p0
 have e1:l.getD ((l.idxOf x + l.length - 1) % l.length) 0 = l[(l.idxOf x + l.length - 1) % l.length]:=by simp [mx]
 have e2:l.getD ((l.idxOf y + l.length - 1) % l.length) 0 = l[(l.idxOf y + l.length - 1) % l.length]:=by simp [my]
 rw [e1,e2] at h
 have e:=(List.getElem_inj n).mp h
 rw [md ix,md iy] at e
 have ei:l.idxOf x = l.idxOf y:=by split at e <;> split at e <;> omega
 have g1:=List.getElem_idxOf ix
 have g2:=List.getElem_idxOf iy
 rw [← g1,← g2]
 congr 1
theorem xK {l:List Int} {x:Int} (h:x∈l):j3 (l.map V.int) ((l.idxOf x:Int) - 1) = some (V.int (pre l x)):=by
 have ix:=List.idxOf_lt_length_of_mem h
 exact eY (by omega) (by omega) (.inr (by omega))
section
variable {L:List (List Int)} {d e:ay}
theorem Dt.back (h:Dt L d) (m:aI L):0≤d.2∧d.2 < L.length∧d.2≠d.1∧d.1∈rowOf L d.2:=by
 have r:=aE h.lo h.hi
 have g:=m.rg _ _ r _ h.mem
 have e1:((d.1.toNat:Nat):Int) = d.1:=Int.toNat_of_nonneg h.lo
 refine ⟨g.1,g.2.1,by rw [e1] at g; exact g.2.2,?_⟩
 have:=m.sy _ _ r _ h.mem d.2.toNat (by omega) _ (aE g.1 g.2.1)
 rwa [e1] at this
theorem Dt.nx (h:Dt L d) (m:aI L):Dt L (nx L d):=by
 obtain ⟨a,b,c,f⟩:=h.back m
 exact ⟨a,b,wI f⟩
theorem dX (m:aI L) (h1:Dt L d) (h2:Dt L e) (h:Gm.nx L d = Gm.nx L e):d = e:=by
 obtain ⟨a,b,c,f⟩:=h1.back m
 obtain ⟨a',b',c',f'⟩:=h2.back m
 unfold Gm.nx at h
 have e2:d.2 = e.2:=congrArg Prod.fst h
 have e3:pre (rowOf L d.2) d.1 = pre (rowOf L e.2) e.1:=congrArg Prod.snd h
 rw [← e2] at e3 f'
 exact Prod.ext (wJ (m.nd _ _ (aE a b)) f f' e3) e2
def fe (L:List (List Int)):Nat→List ay
 | 0=>[]
 | k + 1=>fe L k ++ (rowOf L k).map fun x=>((k:Int),x)
theorem iZ:∀ {k:Nat},d∈fe L k↔0≤d.1∧d.1 < k∧d.2∈rowOf L d.1
 | 0=>by simp only [fe,List.not_mem_nil,false_iff]; intro h; omega
 | k + 1=>by
  rw [fe,List.mem_append,iZ,List.mem_map]
  constructor
  ·rintro (⟨h1,h2,h3⟩ | ⟨x,hx,rfl⟩)
   ·exact ⟨h1,by omega,h3⟩
   ·exact ⟨by simp,by simp; omega,hx⟩
  ·rintro ⟨h1,h2,h3⟩
   by_cases e:d.1 = k
   ·right
    rw [e] at h3
    exact ⟨d.2,h3,Prod.ext e.symm rfl⟩
   ·left; exact ⟨h1,by omega,h3⟩
theorem cS (m:aI L):∀ {k:Nat},k≤L.length→(fe L k).Nodup
 | 0,_=>.nil
 | k + 1,h=>by
  rw [fe,List.nodup_append]
  refine ⟨cS m (by omega),?_,fun a ha b hb z=>?_⟩
  ·have n:=m.nd _ _ (aE (L:=L) (a:=(k:Int)) (by omega) (by omega))
   exact List.Pairwise.map _ (fun x y rK z=>rK (congrArg Prod.snd z)) n
  ·have:=(iZ.mp ha).2.1
   obtain ⟨x,_,rfl⟩:=List.mem_map.mp hb
   rw [z] at this
   simp at this
theorem Dt.all (h:Dt L d):d∈fe L L.length:=iZ.mpr ⟨h.lo,h.hi,h.mem⟩
theorem Dt.of (h:d∈fe L L.length):Dt L d:=by have:=iZ.mp h; exact ⟨this.1,this.2.1,this.2.2⟩
def it (L:List (List Int)) (d:ay):Nat→ay
 | 0=>d
 | k + 1=>Gm.nx L (it L d k)
theorem jK (m:aI L) (h:Dt L d):∀ k,Dt L (it L d k)
 | 0=>h
 | k + 1=>(jK m h k).nx m
theorem mR (i:Nat):∀ k,it L d (i + k) = it L (it L d i) k
 | 0=>rfl
 | k + 1=>by show Gm.nx L (it L d (i + k)) = Gm.nx L (it L (it L d i) k); rw [mR i k]
theorem rF (m:aI L) (h:Dt L d) {k:Nat}:∀ i,it L d i = it L d (i + k)→it L d k = d
 | 0,e=>by rw [Nat.zero_add] at e; exact e.symm
 | i + 1,e=>by
  rw [Nat.add_right_comm] at e
  exact rF m h i (dX m (jK m h _) (jK m h _) e)
def lQ (L:List (List Int)) (d:ay) (k:Nat):Prop:=∀ i,0 < i→i < k→it L d i≠d
def tr (L:List (List Int)) (d:ay) (k:Nat):List ay:=(List.range k).map (it L d)
theorem jf (m:aI L) (h:Dt L d) {k:Nat} (n:lQ L d k):(tr L d k).Nodup:=by
 unfold tr
 refine List.Pairwise.map _ (R:=fun a b=>a < b∧a < k∧b < k) (fun a b K7 z=>?_) ?_
 ·obtain ⟨j,rfl⟩:∃ j,b = a + j:=⟨b - a,by omega⟩
  exact n j (by omega) (by omega) (rF m h a z)
 ·have:=List.pairwise_lt_range (n:=k)
  refine List.Pairwise.imp_of_mem (fun ha hb K7=>⟨K7,List.mem_range.mp ha,List.mem_range.mp hb⟩) this
theorem uX (m:aI L) (h:Dt L d) {k:Nat} (n:lQ L d k):k≤(fe L L.length).length:=by
 have:=fI (jf m h n) (r:=fe L L.length) fun x hx=>by
  obtain ⟨i,_,rfl⟩:=List.mem_map.mp hx
  exact (jK m h i).all
 simpa [tr] using this
def dj (r:List Int) (j:Nat):ay:=(cy r j,cy r (j + 1))
structure Good (L:List (List Int)) (r:List Int):Prop where
 two:2≤r.length
 dt:∀ j,Dt L (dj r j)
 st:∀ j,Gm.nx L (dj r j) = dj r (j + 1)
def sh (s:Nat) (r:List Int):List ay:=(List.range r.length).map fun j=>dj r (j + s)
theorem jY {r:List Int} {i j:Nat} (h:i % r.length = j % r.length):dj r i = dj r j:=by
 unfold dj
 rw [qh h,qh (show (i + 1) % r.length = (j + 1) % r.length by rw [Nat.add_mod,h,← Nat.add_mod])]
def bg (L:List (List Int)) (d:ay) (k:Nat):List Int:=(List.range k).map fun i=>(it L d i).1
theorem Ab {k:Nat} (e:it L d k = d) (j:Nat):it L d (j + k) = it L d j:=by rw [Nat.add_comm,mR,e]
theorem vh {k:Nat} (e:it L d k = d) (j:Nat):it L d (j % k) = it L d j:=by
 have go:∀ q,it L d (j % k + k * q) = it L d (j % k):=by
  intro q
  induction q with
  | zero=>rfl
  | succ q ih=>rw [Nat.mul_succ,← Nat.add_assoc,Ab e,ih]
 rw [← go (j / k),Nat.mod_add_div]
theorem rT {k:Nat} (hk:0 < k) (e:it L d k = d) (j:Nat):cy (bg L d k) j = (it L d j).1:=by
 have hl:(bg L d k).length = k:=by unfold bg; simp
 have hm:=Nat.mod_lt j hk
 unfold cy
 rw [hl]
 unfold bg
 rw [List.getD_eq_getElem?_getD,List.getElem?_map,List.getElem?_range hm]
 show (it L d (j % k)).1 = _
 rw [vh e]
theorem i6 {k:Nat} (hk:0 < k) (e:it L d k = d) (j:Nat):dj (bg L d k) j = it L d j:=by
 unfold dj
 rw [rT hk e,rT hk e]
 rfl
theorem sD (m:aI L) (h:Dt L d) {k:Nat} (hk:0 < k) (e:it L d k = d):Good L (bg L d k):=by
 refine ⟨?_,fun j=>by rw [i6 hk e]; exact jK m h j,fun j=>by rw [i6 hk e,i6 hk e]; rfl⟩
 have hl:(bg L d k).length = k:=by unfold bg; simp
 rw [hl]
 by_cases z:k = 1
 ·subst z
  have:=(h.back m).2.2.1
  exact absurd (congrArg Prod.fst e) this
 ·omega
def vS (r:List Int):Prop:=∀ k,k < r.length→Le r (DT r k)
structure LK (L R:List (List Int)):Prop where
 good:∀ r∈R,Good L r
 least:∀ r∈R,vS r
 sorted:R.Pairwise (fun a b=>HT.lexLt a b = true)
 nd:(R.flatMap (sh 0)).Nodup
 all:∀ d,Dt L d→d∈R.flatMap (sh 0)
structure Lp (L R:List (List Int)) (ks:List ay):Prop where
 good:∀ r∈R,Good L r
 least:∀ r∈R,vS r
 nd:ks.Nodup
 pm:ks.Perm (R.flatMap (sh 0))
 two:2 * R.length≤ks.length
end
end Gm
end
section
namespace Gm
open PySem L2
theorem range_getD {α : Type} {d : α} (L:List α):((List.range L.length).map fun i=>L.getD i d) = L:=by
 apply List.ext_getElem?
 intro i
 rw [List.getElem?_map]
 by_cases h:i < L.length
 ·simp [h]
 ·simp [h]
theorem fW {α : Type} {d : α} {L:List α} {p:Array Nat} (h:Arr L.length p):(pick d L p).Perm L:=by
 have e:=range_getD (d:=d) L
 have:p.toList.Perm (List.range L.length):=by have:=h.perm; rw [Array.perm_iff_toList_perm] at this; simpa using this
 have q:=this.map fun i=>L.getD i d
 rw [e] at q
 exact q
def iu (d:ay):List Key:=[.inl d.1,.inl d.2]
def kD (ks:List ay):List (List Key×V):=ks.map fun d=>(iu d,V.bl true)
theorem vd {d e:ay} (h:iu d = iu e):d = e:=by
 unfold iu at h
 simp only [List.cons.injEq,Sum.inl.injEq,and_true] at h
 exact Prod.ext h.1 h.2
theorem fR:∀ (ks:List ay) (d:ay),(dZ (kD ks) (iu d)).isSome = decide (d∈ks)
 | [],d=>rfl
 | e :: ks,d=>by
  unfold kD
  rw [List.map_cons]
  by_cases z:e = d
  ·subst z
   rw [fh rfl]
   simp
  ·rw [fi (fun y=>z (vd y))]
   have:=fR ks d
   unfold kD at this
   rw [this]
   have z2:¬ d = e:=fun y=>z y.symm
   simp [z2]
theorem uH {ks:List ay} {d:ay} (h:d∉ks):putK (kD ks) (iu d) (.bl true) = kD (ks ++ [d]):=by
 rw [nW]
 ·unfold kD; rw [List.map_append]; rfl
 ·have:=fR ks d
  rw [decide_eq_false h] at this
  exact Option.isNone_iff_eq_none.mp (by rw [← Option.not_isSome,this]; rfl)
theorem zY (ks:List ay):(kD ks).length = ks.length:=by unfold kD; simp
theorem vD {r:List Int} {k:Nat} (h:k≤r.length):ng (r.map V.int) none (some (k:Int)) = (r.take k).map V.int:=by
 unfold ng HT.mq
 rw [List.length_map]
 dsimp only
 rw [if_neg (by omega),show min ((k:Int).toNat) r.length = k by omega,List.drop_zero,Nat.sub_zero,List.map_take]
section
variable {σ : St} {H:Hp} {Q:VK} {K:PySem.W.Frag}
theorem ju {ty td:TE} (h:ty σ H fun y H1=>td σ H1 fun x H2=>∃ a o,x = .ref a∧cW H2 a y o∧Q (.bl (!o.isSome)) H2):qA ty td σ H Q:=h
theorem uF {ty td:TE} (h:ty σ H fun y H1=>td σ H1 fun x H2=>∃ a o,x = .ref a∧cW H2 a y o∧Q (.bl o.isSome) H2):BL ty td σ H Q:=h
theorem pK {td ty tv:TE} {D:Ends} (h:tv σ H fun v H1=>td σ H1 fun x H2=>ty σ H2 fun y H3=>∃ a H4,x = .ref a∧iJ H3 a y v H4∧D.nx σ H4):yh td ty tv D σ H:=h
theorem qU {a:Addr} {i k n:Nat} {r:List Int} (h1 : σ[i]? = some (some (.ref a))) (h2 : σ[k]? = some (some (.int (n:Int)))) (hs:aG K H a (r.map V.int)) (hn:n≤r.length) (q:∀ p,H p = none→Q (.ref p) (upd H p (.lst ((r.take n).map V.int)))) :
  Fe (B4 K) (jg i) qz (x6 (jg k)) σ H Q:=⟨_,h1,⟨_,h2,⟨_,rfl,⟨a,_,rfl,hs,fun p hp=>by rw [vD hn]; exact q p hp⟩⟩⟩⟩
end
theorem aV.snoc {H:Hp} {t b:Addr} {bs:List Addr} {R:List (List Int)} {l:List Int} (g:aV H t bs R) (nt:t∉bs) (nb:b≠t) (hb:H b = some (.lst (l.map V.int))):aV (upd H t (.lst (bs.map V.ref ++ [.ref b]))) t (bs ++ [b]) (R ++ [l]):=by
 refine ⟨by rw [List.map_append]; exact ae,by rw [List.length_append,List.length_append,g.len]; rfl,fun i a m h1 h2=>?_⟩
 rcases Nat.lt_or_ge i bs.length with hi | hi
 ·rw [List.getElem?_append_left hi] at h1
  rw [List.getElem?_append_left (by rw [← g.len]; exact hi)] at h2
  have am:=List.mem_of_getElem? h1
  have ne:a≠t:=fun z=>nt (by rw [← z]; exact am)
  rw [ak ne]
  exact g.row i a m h1 h2
 ·rw [List.getElem?_append_right hi] at h1
  rw [List.getElem?_append_right (by rw [← g.len]; exact hi),← g.len] at h2
  have:i - bs.length = 0:=by
   have:=(List.getElem?_eq_some_iff.mp h1).1
   rw [List.length_singleton] at this
   omega
  rw [this] at h1 h2
  simp at h1 h2
  subst h1 h2
  rw [ak nb]
  exact hb
theorem aV.other {H:Hp} {t g:Addr} {bs:List Addr} {R:List (List Int)} {au:List (List Key×V)} {o:HO} (h:aV H t bs R) (hg:H g = some (.dT au)):aV (upd H g o) t bs R:=by
 refine ⟨?_,h.len,fun i a l h1 h2=>?_⟩
 ·rw [ak (fun z=>by have:=h.top; rw [z,hg] at this; cases this)]; exact h.top
 ·have:=h.row i a l h1 h2
  rw [ak (fun z=>by rw [z,hg] at this; cases this)]; exact this
theorem aV.kW {H:Hp} {t b:Addr} {bs:List Addr} {R:List (List Int)} (g:aV H t bs R) (hb:H b = none):b∉t :: bs:=fun z=>by
 rcases List.mem_cons.mp z with z | z
 ·rw [z,g.top] at hb; cases hb
 ·obtain ⟨k,hk,OW⟩:=List.mem_iff_getElem.mp z
  have kl:k < R.length:=by rw [← g.len]; exact hk
  have:=g.row k b _ (by rw [List.getElem?_eq_getElem hk,OW]) (List.getElem?_eq_getElem kl)
  rw [hb] at this; cases this
theorem gX {α : Type} {A B:List α} {x : α} {j:Nat} (h:(A ++ B).Nodup) (e:B[j]? = some x):x∉A ++ B.take j:=by
 obtain ⟨h1,h2,h3⟩:=List.nodup_append.mp h
 intro z
 rcases List.mem_append.mp z with z | z
 ·exact h3 x z x (List.mem_of_getElem? e) rfl
 ·obtain ⟨hj,ex⟩:=List.getElem?_eq_some_iff.mp e
  obtain ⟨i,hi,ei⟩:=List.mem_iff_getElem.mp z
  rw [List.getElem_take] at ei
  rw [List.length_take] at hi
  have:=(List.getElem_inj h2).mp (ei.trans ex.symm)
  omega
theorem mh (s:Nat) (r:List Int):(sh s r).length = r.length:=by unfold sh; simp
theorem BS {s:Nat} {r:List Int} {j:Nat} (h:j < r.length):(sh s r)[j]? = some (dj r (j + s)):=by unfold sh; simp [h]
theorem take_snoc {α : Type} {l:List α} {j:Nat} {x : α} (h:l[j]? = some x):l.take (j + 1) = l.take j ++ [x]:=by rw [List.take_succ,h]; rfl
theorem jo {l:List Addr} {x:Addr}:(l ++ [x]).Nodup↔x∉l∧l.Nodup:=by rw [(List.perm_append_singleton x l).nodup_iff,List.nodup_cons]
def Sn (g:Addr) (H H':Hp):Prop:=∀ b o,b≠g→H b = some o→H' b = some o
def fl (R:List (List Int)) (k:Nat):List ay:=(R.take k).flatMap fun r=>sh (r.length - 2) r
theorem vy {L:List (List Int)} (m:aI L):∀ {k:Nat},k≤L.length→(fe L k).length≤k * (L.length - 1)
 | 0,_=>Nat.zero_le _
 | k + 1,h=>by
  have i:=vy m (k:=k) (by omega)
  have e:=aE (L:=L) (a:=(k:Int)) (by omega) (by omega)
  have n:(rowOf L (k:Int)).length≤L.length - 1:=by
   have n1:((k:Int) :: rowOf L (k:Int)).Nodup:=List.nodup_cons.mpr ⟨fun z=>by have:=m.rg _ _ e _ z; rw [Int.toNat_natCast] at this; exact this.2.2 rfl,m.nd _ _ e⟩
   have:=cn (n:=L.length) n1 fun x hx=>by
    rcases List.mem_cons.mp hx with z | z
    ·omega
    ·have:=m.rg _ _ e _ z; exact ⟨this.1,this.2.1⟩
   rw [List.length_cons] at this
   omega
  rw [fe,List.length_append,List.length_map,Nat.succ_mul]
  omega
theorem tf {L:List (List Int)} (m:aI L) (h:L.length≤11):(fe L L.length).length < 128:=by
 have h1:=vy m (Nat.le_refl L.length)
 have h2:L.length * (L.length - 1)≤11 * 10:=Nat.mul_le_mul h (by omega)
 omega
end Gm
end
section
namespace Gm
open PySem L2
def cY:Int→List Int→Int→Int
 | p,[],_=>p
 | p,h :: t,x=>if h = x then p else cY h t x
def lst (l:List Int):Int:=l.getD (l.length - 1) 0
theorem jD (h:Int) {t:List Int} (n:t≠[]):lst (h :: t) = lst t:=by
 unfold lst
 cases t with
 | nil=>exact absurd rfl n
 | cons a t=>simp
theorem eU (u:List Int) {v:List Int} (n:v≠[]):lst (u ++ v) = lst v:=by
 induction u with
 | nil=>rfl
 | cons h t ih=>rw [List.cons_append,jD h (by simp [n]),ih]
theorem xf {l:List Int} (n:l≠[]):lst l∈l:=by
 unfold lst
 have:l.length - 1 < l.length:=by have:=List.length_pos_iff.mpr n; omega
 simp [this]
theorem ro:∀ {l:List Int} {p x:Int},x∈l→cY p l x = if l.idxOf x = 0 then p else l.getD (l.idxOf x - 1) 0
 | [],_,_,h=>by cases h
 | h :: t,p,x,hx=>by
  unfold cY
  rw [List.idxOf_cons]
  by_cases e:h = x
  ·rw [if_pos e,e]; simp
  ·rw [if_neg e]
   have e2:(h == x) = false:=beq_false_of_ne e
   rw [e2]
   have Af:x∈t:=(List.mem_cons.mp hx).resolve_left (fun z=>e z.symm)
   rw [ro Af]
   simp only [cond_false]
   rw [if_neg (Nat.succ_ne_zero _)]
   cases q:t.idxOf x with
   | zero=>simp
   | succ k=>simp
theorem gS {l:List Int} {x:Int} (h:x∈l):pre l x = cY (lst l) l x:=by
 have ix:=List.idxOf_lt_length_of_mem h
 rw [ro h]
 unfold pre cy lst
 rw [md ix]
 split <;> rfl
theorem mE:∀ (l:List Int) (p x:Int),cY p l x = p∨cY p l x∈l
 | [],p,x=>.inl rfl
 | h :: t,p,x=>by
  unfold cY
  by_cases e:h = x
  ·rw [if_pos e]; exact .inl rfl
  ·rw [if_neg e]
   rcases mE t h x with z | z
   ·rw [z]; exact .inr List.mem_cons_self
   ·exact .inr (List.mem_cons_of_mem _ z)
theorem kT:∀ {l:List Int} {p x y:Int},l.Nodup→p≠y→x∈l→x≠y→cY p (l.erase y) x = if cY p l x = y then cY p l y else cY p l x
 | [],_,_,_,_,_,h,_=>by cases h
 | h :: t,p,x,y,n,hp,hx,rK=>by
  obtain ⟨n1,n2⟩:=List.nodup_cons.mp n
  by_cases e:h = y
  ·subst e
   rw [List.erase_cons_head]
   have Af:x∈t:=(List.mem_cons.mp hx).resolve_left rK
   have a1:cY p (h :: t) x = cY h t x:=by show (if h = x then p else cY h t x) = _; rw [if_neg (fun z=>rK z.symm)]
   have a2:cY p (h :: t) h = p:=by show (if h = h then p else cY h t h) = _; rw [if_pos rfl]
   rw [a1,a2]
   cases t with
   | nil=>cases Af
   | cons k s=>
    by_cases e2:k = x
    ·have b1:cY p (k :: s) x = p:=by show (if k = x then p else cY k s x) = _; rw [if_pos e2]
     have b2:cY h (k :: s) x = h:=by show (if k = x then h else cY k s x) = _; rw [if_pos e2]
     rw [b1,b2,if_pos rfl]
    ·have b1:cY p (k :: s) x = cY k s x:=by show (if k = x then p else cY k s x) = _; rw [if_neg e2]
     have b2:cY h (k :: s) x = cY k s x:=by show (if k = x then h else cY k s x) = _; rw [if_neg e2]
     rw [b1,b2,if_neg]
     intro z
     rcases mE s k x with y | y
     ·rw [y] at z; exact n1 (by rw [← z]; exact List.mem_cons_self)
     ·rw [z] at y; exact n1 (List.mem_cons_of_mem _ y)
  ·rw [List.erase_cons_tail (by simpa using e)]
   by_cases e2:h = x
   ·have b1:∀ s,cY p (h :: s) x = p:=fun s=>by show (if h = x then p else cY h s x) = _; rw [if_pos e2]
    rw [b1,b1,if_neg hp]
   ·have Af:x∈t:=(List.mem_cons.mp hx).resolve_left (fun z=>e2 z.symm)
    have b1:∀ s,cY p (h :: s) x = cY h s x:=fun s=>by show (if h = x then p else cY h s x) = _; rw [if_neg e2]
    have b2:cY p (h :: t) y = cY h t y:=by show (if h = y then p else cY h t y) = _; rw [if_neg e]
    rw [b1,b1,b2]
    exact kT n2 e Af rK
theorem nZ:∀ {u:List Int} {w:List Int} {p x:Int},x∈u→cY p (u ++ w) x = cY p u x
 | [],_,_,_,h=>by cases h
 | h :: t,w,p,x,hx=>by
  show (if h = x then p else cY h (t ++ w) x) = if h = x then p else cY h t x
  by_cases e:h = x
  ·rw [if_pos e,if_pos e]
  ·rw [if_neg e,if_neg e]
   exact nZ ((List.mem_cons.mp hx).resolve_left (fun z=>e z.symm))
theorem rq:∀ {u:List Int} {p y:Int},y∉u→cY p (u ++ [y]) y = if u = [] then p else lst u
 | [],p,y,_=>by show (if y = y then p else cY y [] y) = _; rw [if_pos rfl,if_pos rfl]
 | h :: t,p,y,n=>by
  have e:h≠y:=fun z=>n (by rw [z]; exact List.mem_cons_self)
  show (if h = y then p else cY h (t ++ [y]) y) = _
  rw [if_neg e,if_neg (by simp),rq (fun z=>n (List.mem_cons_of_mem _ z))]
  by_cases q:t = []
  ·subst q; rw [if_pos rfl]; rfl
  ·rw [if_neg q,jD h q]
theorem kS {l:List Int} {x y:Int} (n:l.Nodup) (hx:x∈l) (hy:y∈l) (rK:x≠y):pre (l.erase y) x = if pre l x = y then pre l y else pre l x:=by
 have Oh:x∈l.erase y:=(List.mem_erase_of_ne rK).mpr hx
 rw [gS Oh,gS hx,gS hy]
 obtain ⟨u,v,rfl⟩:=List.append_of_mem hy
 obtain ⟨n1,n2,n3⟩:=List.nodup_append.mp n
 obtain ⟨n4,n5⟩:=List.nodup_cons.mp n2
 have yu:y∉u:=fun z=>n3 y z y List.mem_cons_self rfl
 have ee:(u ++ y :: v).erase y = u ++ v:=by rw [List.erase_append_right _ yu,List.erase_cons_head]
 by_cases q:v = []
 ·subst q
  rw [ee,List.append_nil]
  have xu:x∈u:=by
   rcases List.mem_append.mp hx with z | z
   ·exact z
   ·exact absurd (List.mem_singleton.mp z) rK
  have u0:u≠[]:=fun z=>by rw [z] at xu; cases xu
  rw [eU u (v:=[y]) (by simp),nZ xu,rq yu,if_neg u0]
  show cY (lst u) u x = if cY y u x = y then lst u else cY y u x
  cases u with
  | nil=>cases xu
  | cons h t=>
   by_cases e:h = x
   ·have b:∀ q,cY q (h :: t) x = q:=fun q=>by show (if h = x then q else cY h t x) = _; rw [if_pos e]
    rw [b,b,if_pos rfl]
   ·have b:∀ q,cY q (h :: t) x = cY h t x:=fun q=>by show (if h = x then q else cY h t x) = _; rw [if_neg e]
    rw [b,b,if_neg]
    intro z
    rcases mE t h x with w | w
    ·rw [w] at z; exact yu (by rw [← z]; exact List.mem_cons_self)
    ·rw [z] at w; exact yu (List.mem_cons_of_mem _ w)
 ·have e1:lst (u ++ y :: v) = lst v:=by rw [eU u (by simp),jD y q]
  have e2:lst ((u ++ y :: v).erase y) = lst v:=by rw [ee,eU u q]
  rw [e1,e2]
  exact kT n (fun z=>n4 (by rw [← z]; exact xf q)) hx rK
theorem jv {l:List Int} {x:Int} (n:l.Nodup) (hx:x∈l) (h:pre l x = x):l = [x]:=by
 have ix:=List.idxOf_lt_length_of_mem hx
 unfold pre cy at h
 have mx:=Nat.mod_lt (l.idxOf x + l.length - 1) (show 0 < l.length by omega)
 have e1:l.getD ((l.idxOf x + l.length - 1) % l.length) 0 = l[(l.idxOf x + l.length - 1) % l.length]:=by simp [mx]
 rw [e1] at h
 have g:=List.getElem_idxOf ix
 have e:=(List.getElem_inj n).mp (h.trans g.symm)
 rw [md ix] at e
 have l1:l.length = 1:=by split at e <;> omega
 match l,l1,hx with
 | [z],_,hx=>rw [List.mem_singleton.mp hx]
theorem gZ {L:List (List Int)} (h:∀ x:Int,0≤x→x < L.length→(rowOf L x).Nodup∧∀ y∈rowOf L x,0≤y∧y < L.length∧y≠x∧x∈rowOf L y):aI L:=by
 have at_:∀ (i:Nat) (l:List Int),L[i]? = some l→rowOf L (i:Int) = l∧(i:Int) < L.length:=fun i l e=>by
  have hi:=(List.getElem?_eq_some_iff.mp e).1
  have:=aE (L:=L) (a:=(i:Int)) (by omega) (by omega)
  rw [Int.toNat_natCast,e] at this
  exact ⟨(Option.some.inj this).symm,by omega⟩
 refine ⟨fun i l e=>?_,fun i l e x hx=>?_,fun i l e x hx j hj m em=>?_⟩
 ·obtain ⟨e1,e2⟩:=at_ i l e
  rw [← e1]; exact (h i (by omega) e2).1
 ·obtain ⟨e1,e2⟩:=at_ i l e
  rw [← e1] at hx
  have:=(h i (by omega) e2).2 x hx
  exact ⟨this.1,this.2.1,this.2.2.1⟩
 ·obtain ⟨e1,e2⟩:=at_ i l e
  obtain ⟨e3,e4⟩:=at_ j m em
  rw [← e1] at hx
  have:=((h i (by omega) e2).2 x hx).2.2.2
  rw [hj,e3] at this
  exact this
def rem (L:List (List Int)) (a b:Int):List (List Int):=(L.set a.toNat ((rowOf L a).erase b)).set b.toNat ((rowOf L b).erase a)
section
variable {L:List (List Int)} {a b:Int}
theorem eI:(rem L a b).length = L.length:=by unfold rem; simp
theorem mr (m:aI L) (h:Dt L (a,b)) {x:Int} (hx:0≤x):rowOf (rem L a b) x = if x = b then (rowOf L b).erase a else if x = a then (rowOf L a).erase b else rowOf L x:=by
 obtain ⟨b0,b1,b2,b3⟩:=h.back m
 have a0:=h.lo
 have a1:=h.hi
 dsimp only at a0 a1 b0 b1 b2 b3
 show (rem L a b).getD x.toNat [] = _
 unfold rem
 rw [List.getD_eq_getElem?_getD,List.getElem?_set]
 by_cases e:x = b
 ·subst e
  rw [if_pos rfl,if_pos rfl,if_pos (by rw [List.length_set]; omega)]
  rfl
 ·rw [if_neg (by omega),if_neg e,List.getElem?_set]
  by_cases e2:x = a
  ·subst e2
   rw [if_pos rfl,if_pos rfl,if_pos (by omega)]
   rfl
  ·rw [if_neg (by omega),if_neg e2,← List.getD_eq_getElem?_getD]
   rfl
theorem gQ (m:aI L) (h:Dt L (a,b)) {x y:Int} (hx:0≤x) (KD:x < L.length):y∈rowOf (rem L a b) x↔y∈rowOf L x∧¬ (x = a∧y = b)∧¬ (x = b∧y = a):=by
 obtain ⟨b0,b1,b2,b3⟩:=h.back m
 have a0:=h.lo
 have a1:=h.hi
 dsimp only at a0 a1 b0 b1 b2 b3
 rw [mr m h hx]
 by_cases e:x = b
 ·subst e
  rw [if_pos rfl,(m.nd _ _ (aE hx KD)).mem_erase_iff]
  constructor
  ·rintro ⟨h1,h2⟩; exact ⟨h2,fun z=>b2 z.1,fun z=>h1 z.2⟩
  ·rintro ⟨h1,h2,h3⟩; exact ⟨fun z=>h3 ⟨rfl,z⟩,h1⟩
 ·rw [if_neg e]
  by_cases e2:x = a
  ·subst e2
   rw [if_pos rfl,(m.nd _ _ (aE hx KD)).mem_erase_iff]
   constructor
   ·rintro ⟨h1,h2⟩; exact ⟨h2,fun z=>h1 z.2,fun z=>e z.1⟩
   ·rintro ⟨h1,h2,h3⟩; exact ⟨fun z=>h2 ⟨rfl,z⟩,h1⟩
  ·rw [if_neg e2]
   exact ⟨fun z=>⟨z,fun y=>e2 y.1,fun y=>e y.1⟩,fun z=>z.1⟩
theorem cu (m:aI L) (h:Dt L (a,b)) {d:ay}:Dt (rem L a b) d↔Dt L d∧d≠(a,b)∧d≠(b,a):=by
 constructor
 ·intro q
  have hi:=q.hi
  rw [eI] at hi
  have:=(gQ m h q.lo hi).mp q.mem
  exact ⟨⟨q.lo,hi,this.1⟩,fun z=>this.2.1 ⟨congrArg Prod.fst z,congrArg Prod.snd z⟩,fun z=>this.2.2 ⟨congrArg Prod.fst z,congrArg Prod.snd z⟩⟩
 ·rintro ⟨q,h1,h2⟩
  refine ⟨q.lo,by rw [eI]; exact q.hi,(gQ m h q.lo q.hi).mpr ⟨q.mem,fun z=>h1 (Prod.ext z.1 z.2),fun z=>h2 (Prod.ext z.1 z.2)⟩⟩
theorem qO (m:aI L) (h:Dt L (a,b)):aI (rem L a b):=by
 refine gZ fun x x0 x1=>?_
 rw [eI] at x1
 have n:=m.nd _ _ (aE x0 x1)
 refine ⟨?_,fun y hy=>?_⟩
 ·rw [mr m h x0]
  split
  ·rename_i e; rw [← e]; exact n.erase _
  ·split
   ·rename_i e; rw [← e]; exact n.erase _
   ·exact n
 ·have q:=(gQ m h x0 x1).mp hy
  obtain ⟨c0,c1,c2,c3⟩:=Dt.back (d:=(x,y)) ⟨x0,x1,q.1⟩ m
  rw [eI]
  refine ⟨c0,c1,c2,(gQ m h c0 c1).mpr ⟨c3,fun z=>q.2.2 ⟨z.2,z.1⟩,fun z=>q.2.1 ⟨z.2,z.1⟩⟩⟩
theorem js (m:aI L) (h:Dt L (a,b)) {d:ay} (hd:Dt (rem L a b) d) :
  nx (rem L a b) d = if nx L d = (b,a) then nx L (a,b) else if nx L d = (a,b) then nx L (b,a) else nx L d:=by
 obtain ⟨q,h1,h2⟩:=(cu m h).mp hd
 obtain ⟨b0,b1,b2,b3⟩:=h.back m
 obtain ⟨c0,c1,c2,c3⟩:=q.back m
 obtain ⟨x,y⟩:=d
 dsimp only at b0 b1 b2 b3 c0 c1 c2 c3
 have fK:=h.mem
 dsimp only at fK
 unfold nx
 dsimp only
 rw [mr m h c0]
 by_cases e:y = b
 ·subst e
  have xa:x≠a:=fun z=>h1 (by rw [z])
  rw [if_pos rfl,kS (m.nd _ _ (aE c0 c1)) c3 b3 xa]
  by_cases z:pre (rowOf L y) x = a
  ·rw [if_pos z,z,if_pos rfl]
  ·rw [if_neg z,if_neg (fun w=>z (congrArg Prod.snd w)),if_neg (fun w=>b2 (congrArg Prod.fst w))]
 ·rw [if_neg e]
  by_cases e2:y = a
  ·subst e2
   have xb:x≠b:=fun z=>h2 (by rw [z])
   rw [if_pos rfl,kS (m.nd _ _ (aE c0 c1)) c3 fK xb]
   rw [if_neg (fun w=>e (congrArg Prod.fst w))]
   by_cases z:pre (rowOf L y) x = b
   ·rw [if_pos z,z,if_pos rfl]
   ·rw [if_neg z,if_neg (fun w=>z (congrArg Prod.snd w))]
  ·rw [if_neg e2,if_neg (fun w=>e (congrArg Prod.fst w)),if_neg (fun w=>e2 (congrArg Prod.fst w))]
end
end Gm
end
section
namespace Gm
open PySem L2
inductive Wk (f:ay→ay):ay→List ay→ay→Prop where
 | nil (x:ay):Wk f x [] x
 | cons {x y:ay} {l:List ay}:Wk f (f x) l y→Wk f x (x :: l) y
section
variable {f g:ay→ay} {x y z w d:ay} {l m:List ay}
theorem Wk.append (h:Wk f x l y) (k:Wk f y m z):Wk f x (l ++ m) z:=by
 induction h with
 | nil _=>exact k
 | cons _ ih=>exact .cons (ih k)
theorem Wk.split:∀ {l:List ay} {x:ay},Wk f x (l ++ m) z→∃ y,Wk f x l y∧Wk f y m z
 | [],x,h=>⟨x,.nil x,h⟩
 | a :: l,x,h=>by
  cases h with
  | cons h=>
   obtain ⟨y,h1,h2⟩:=Wk.split h
   exact ⟨y,.cons h1,h2⟩
theorem Wk.nil_eq (h:Wk f x [] y):x = y:=by cases h; rfl
theorem Wk.hd (h:Wk f x (d :: l) y):d = x:=by cases h; rfl
theorem Wk.tl (h:Wk f x (d :: l) y):Wk f (f x) l y:=by cases h; assumption
theorem Wk.on (h:Wk f x l y):∀ d∈l,f d∈l∨f d = y:=by
 induction h with
 | nil _=>intro d hd; cases hd
 | @cons x y l h ih=>
  intro d hd
  rcases List.mem_cons.mp hd with e | e
  ·subst e
   cases h with
   | nil _=>exact .inr rfl
   | cons h=>exact .inl (List.mem_cons_of_mem _ List.mem_cons_self)
  ·rcases ih d e with q | q
   ·exact .inl (List.mem_cons_of_mem _ q)
   ·exact .inr q
theorem Wk.new (h:Wk f x l y) (n:l≠[]) (hy:y∉l) (h1:∀ d∈l,f d = y→g d = w) (h2:∀ d∈l,f d≠y→g d = f d):Wk g x l w:=by
 induction h with
 | nil _=>exact absurd rfl n
 | @cons x y l h ih=>
  cases h with
  | nil _=>
   have:g x = w:=h1 x List.mem_cons_self rfl
   rw [← this]
   exact .cons (.nil _)
  | @cons _ _ l2 h=>
   have ne:f x≠y:=fun q=>hy (by rw [← q]; exact List.mem_cons_of_mem _ List.mem_cons_self)
   have e:=h2 x List.mem_cons_self ne
   refine .cons ?_
   rw [e]
   exact ih (by simp) (fun q=>hy (List.mem_cons_of_mem _ q)) (fun d hd=>h1 d (List.mem_cons_of_mem _ hd)) fun d hd=>h2 d (List.mem_cons_of_mem _ hd)
theorem Wk.congr (h:Wk f x l y) (e:∀ d∈l,g d = f d):Wk g x l y:=by
 induction h with
 | nil _=>exact .nil _
 | @cons x y l h ih=>
  refine .cons ?_
  rw [e x List.mem_cons_self]
  exact ih fun d hd=>e d (List.mem_cons_of_mem _ hd)
end
def qw (f:ay→ay) (c:List ay):Prop:=∃ x l,c = x :: l∧Wk f x c x
section
variable {f:ay→ay} {c:List ay} {d:ay}
theorem qw.ne (h:qw f c):c≠[]:=by obtain ⟨x,l,rfl,_⟩:=h; simp
theorem qw.on (h:qw f c) (hd:d∈c):f d∈c:=by
 obtain ⟨x,l,rfl,k⟩:=h
 rcases k.on d hd with q | q
 ·exact q
 ·rw [q]; exact List.mem_cons_self
theorem qw.turn (h:qw f c) (hd:d∈c):∃ v,(d :: v).Perm c∧Wk f (f d) v d:=by
 obtain ⟨x,l,e,k⟩:=h
 obtain ⟨u,v,rfl⟩:=List.append_of_mem hd
 obtain ⟨y,k1,k2⟩:=k.split
 have:=k2.hd
 subst this
 exact ⟨v ++ u,by rw [← List.cons_append]; exact List.perm_append_comm,k2.tl.append k1⟩
end
structure Dec (L:List (List Int)) (R:List (List ay)):Prop where
 ka:∀ c∈R,qw (nx L) c
 nd:R.flatten.Nodup
 mem:∀ d,d∈R.flatten↔Dt L d
theorem jx {α : Type} {x : α} {l:List α} (h:x∈l):∃ r,l.Perm (x :: r):=by
 obtain ⟨u,v,rfl⟩:=List.append_of_mem h
 exact ⟨u ++ v,List.perm_middle⟩
theorem Dec.perm {L:List (List Int)} {R S:List (List ay)} (h:Dec L R) (p:R.Perm S):Dec L S:=
 ⟨fun c hc=>h.ka c (p.mem_iff.mpr hc),(p.flatten.nodup_iff).mp h.nd,fun d=>by rw [← p.flatten.mem_iff]; exact h.mem d⟩
theorem Dec.swap {L:List (List Int)} {R:List (List ay)} {c e:List ay} (h:Dec L (c :: R)) (p:e.Perm c) (k:qw (nx L) e):Dec L (e :: R):=by
 have q:(e :: R).flatten.Perm (c :: R).flatten:=by rw [List.flatten_cons,List.flatten_cons]; exact p.append_right _
 refine ⟨fun s hs=>?_,q.nodup_iff.mpr h.nd,fun d=>by rw [q.mem_iff]; exact h.mem d⟩
 rcases List.mem_cons.mp hs with z | z
 ·rw [z]; exact k
 ·exact h.ka s (List.mem_cons_of_mem _ z)
theorem Dec.front {L:List (List Int)} {R:List (List ay)} {d:ay} (h:Dec L R) (hd:Dt L d):∃ v S,Dec L ((d :: v) :: S)∧R.length = S.length + 1∧Wk (nx L) (nx L d) v d∧(∀ c∈S,c∈R):=by
 obtain ⟨c,hc,O4⟩:=List.mem_flatten.mp ((h.mem d).mpr hd)
 obtain ⟨S,p⟩:=jx hc
 obtain ⟨v,pv,k⟩:=(h.ka c hc).turn O4
 exact ⟨v,S,(h.perm p).swap pv ⟨d,v,rfl,.cons k⟩,p.length_eq,k,fun s hs=>p.mem_iff.mpr (List.mem_cons_of_mem _ hs)⟩
section
variable {L:List (List Int)} {a b:Int}
theorem nQ (m:aI L) (h:Dt L (a,b)):(fe L L.length).Perm ((a,b) :: (b,a) :: fe (rem L a b) (rem L a b).length)∧(fe L L.length).length = (fe (rem L a b) (rem L a b).length).length + 2:=by
 obtain ⟨b0,b1,b2,b3⟩:=h.back m
 have hb:Dt L (b,a):=⟨b0,b1,b3⟩
 have n2:((a,b) :: (b,a) :: fe (rem L a b) (rem L a b).length).Nodup:=by
  refine List.nodup_cons.mpr ⟨fun z=>?_,List.nodup_cons.mpr ⟨fun z=>?_,cS (qO m h) (Nat.le_refl _)⟩⟩
  ·rcases List.mem_cons.mp z with z | z
   ·exact b2 (congrArg Prod.fst z).symm
   ·exact ((cu m h).mp (Dt.of z)).2.1 rfl
  ·exact ((cu m h).mp (Dt.of z)).2.2 rfl
 have e:∀ x,x∈fe L L.length↔x∈(a,b) :: (b,a) :: fe (rem L a b) (rem L a b).length:=fun x=>by
  constructor
  ·intro z
   by_cases e1:x = (a,b)
   ·rw [e1]; exact List.mem_cons_self
   ·by_cases e2:x = (b,a)
    ·rw [e2]; exact List.mem_cons_of_mem _ List.mem_cons_self
    ·exact List.mem_cons_of_mem _ (List.mem_cons_of_mem _ ((cu m h).mpr ⟨Dt.of z,e1,e2⟩).all)
  ·intro z
   rcases List.mem_cons.mp z with z | z
   ·rw [z]; exact h.all
   ·rcases List.mem_cons.mp z with z | z
    ·rw [z]; exact hb.all
    ·exact ((cu m h).mp (Dt.of z)).1.all
 have n1:=cS m (Nat.le_refl L.length)
 have l:=len_eq n1 n2 e
 refine ⟨?_,by rw [l]; rfl⟩
 exact (List.perm_iff_count.mpr fun x=>by
  have c:∀ {l:List ay},l.Nodup→l.count x = if x∈l then 1 else 0:=fun {l} hn=>by
   by_cases hx:x∈l
   ·rw [if_pos hx]
    have h1:=List.nodup_iff_count.mp hn x
    have h2:=List.count_pos_iff.mpr hx
    omega
   ·rw [if_neg hx,List.count_eq_zero.mpr hx]
  rw [c n1,c n2]
  by_cases hx:x∈fe L L.length
  ·rw [if_pos hx,if_pos ((e x).mp hx)]
  ·rw [if_neg hx,if_neg (fun z=>hx ((e x).mpr z))])
theorem qQ {R:List (List ay)} (m:aI L) (h:Dt L (a,b)) (D:Dec L R) :
  (∃ A B S,Dec (rem L a b) ((if A = [] then [] else [A]) ++ (if B = [] then [] else [B]) ++ S)∧R.length = S.length + 1∧Wk (nx L) (nx L (a,b)) A (b,a)∧Wk (nx L) (nx L (b,a)) B (a,b))∨
  (∃ A B S,Dec (rem L a b) ((A ++ B) :: S)∧R.length = S.length + 2∧A≠[]∧B≠[]∧Wk (nx (rem L a b)) (nx L (a,b)) A (nx L (b,a))∧Wk (nx (rem L a b)) (nx L (b,a)) B (nx L (a,b))∧(∀ d∈A ++ B,Dt (rem L a b) d)):=by
 obtain ⟨b0,b1,b2,b3⟩:=h.back m
 have hb:Dt L (b,a):=⟨b0,b1,b3⟩
 have ne:(a,b)≠(b,a):=fun z=>b2 (congrArg Prod.fst z).symm
 have spec:∀ d,Dt L d→d≠(a,b)→d≠(b,a)→nx (rem L a b) d = if nx L d = (b,a) then nx L (a,b) else if nx L d = (a,b) then nx L (b,a) else nx L d:=fun d h0 h1 h2=>js m h ((cu m h).mpr ⟨h0,h1,h2⟩)
 obtain ⟨v,S,D1,Cq,kv,_⟩:=D.front h
 have rz:=D1.nd
 rw [List.flatten_cons,List.cons_append,List.nodup_cons,List.mem_append] at rz
 obtain ⟨p5,wZ⟩:=rz
 obtain ⟨NJ,NK,NI⟩:=List.nodup_append.mp wZ
 have C5:∀ d∈v,Dt L d:=fun d hd=>(D1.mem d).mp (by rw [List.flatten_cons]; exact List.mem_append_left _ (List.mem_cons_of_mem _ hd))
 by_cases q:(b,a)∈v
 ·left
  obtain ⟨A,B,rfl⟩:=List.append_of_mem q
  obtain ⟨y,kA,kB⟩:=kv.split
  have:=kB.hd
  subst this
  have kB:=kB.tl
  obtain ⟨nA,nB,nX⟩:=List.nodup_append.mp NJ
  obtain ⟨GU,Rv⟩:=List.nodup_cons.mp nB
  have Ja:(b,a)∉A:=fun z=>nX _ z _ List.mem_cons_self rfl
  have Jt:(a,b)∉A:=fun z=>p5 (.inl (List.mem_append_left _ z))
  have Js:(a,b)∉B:=fun z=>p5 (.inl (List.mem_append_right _ (List.mem_cons_of_mem _ z)))
  refine ⟨A,B,S,⟨fun c hc=>?_,?_,fun d=>?_⟩,Cq,kA,kB⟩
  ·rcases List.mem_append.mp hc with hc | hc
   ·rcases List.mem_append.mp hc with hc | hc
    ·by_cases z:A = []
     ·rw [if_pos z] at hc; cases hc
     ·rw [if_neg z] at hc
      rw [List.mem_singleton.mp hc]
      have k2:Wk (nx (rem L a b)) (nx L (a,b)) A (nx L (a,b)):=kA.new z Ja (fun d hd e=>by rw [spec d (C5 d (List.mem_append_left _ hd)) (fun y=>Jt (y▸hd)) (fun y=>Ja (y▸hd)),if_pos e]) fun d hd e=>by
       rw [spec d (C5 d (List.mem_append_left _ hd)) (fun y=>Jt (y▸hd)) (fun y=>Ja (y▸hd)),if_neg e,if_neg]
       intro y
       rcases kA.on d hd with w | w
       ·exact Jt (y▸w)
       ·exact e w
      cases A with
      | nil=>exact absurd rfl z
      | cons p A=>have:=k2.hd; subst this; exact ⟨_,_,rfl,k2⟩
    ·by_cases z:B = []
     ·rw [if_pos z] at hc; cases hc
     ·rw [if_neg z] at hc
      rw [List.mem_singleton.mp hc]
      have dB:∀ d∈B,Dt L d:=fun d hd=>C5 d (List.mem_append_right _ (List.mem_cons_of_mem _ hd))
      have k2:Wk (nx (rem L a b)) (nx L (b,a)) B (nx L (b,a)):=kB.new z Js (fun d hd e=>by rw [spec d (dB d hd) (fun y=>Js (y▸hd)) (fun y=>GU (y▸hd)),e,if_neg ne,if_pos rfl]) fun d hd e=>by
       rw [spec d (dB d hd) (fun y=>Js (y▸hd)) (fun y=>GU (y▸hd)),if_neg,if_neg e]
       intro y
       rcases kB.on d hd with w | w
       ·exact GU (y▸w)
       ·exact e w
      cases B with
      | nil=>exact absurd rfl z
      | cons p B=>have:=k2.hd; subst this; exact ⟨_,_,rfl,k2⟩
   ·have cy:=D1.ka c (List.mem_cons_of_mem _ hc)
    have Hj:∀ d∈c,d∈S.flatten:=fun d hd=>List.mem_flatten.mpr ⟨c,hc,hd⟩
    have Ck:(a,b)∉c:=fun z=>p5 (.inr (Hj _ z))
    have yz:(b,a)∉c:=fun z=>NI _ q _ (Hj _ z) rfl
    obtain ⟨p,r,rfl,k⟩:=id cy
    refine ⟨p,r,rfl,k.congr fun d hd=>?_⟩
    have dd:Dt L d:=(D1.mem d).mp (by rw [List.flatten_cons]; exact List.mem_append_right _ (Hj d hd))
    have on:=cy.on hd
    have o1:nx L d≠(b,a):=fun y=>yz (by rw [← y]; exact on)
    have o2:nx L d≠(a,b):=fun y=>Ck (by rw [← y]; exact on)
    rw [spec d dd (fun y=>Ck (y▸hd)) (fun y=>yz (y▸hd)),if_neg o1,if_neg o2]
  ·have fA:∀ A:List ay,(if A = [] then ([]:List (List ay)) else [A]).flatten = A:=fun A=>by
    by_cases z:A = []
    ·rw [if_pos z,z]; rfl
    ·rw [if_neg z]; simp
   rw [List.flatten_append,List.flatten_append,fA,fA,List.append_assoc]
   have:(A ++ (B ++ S.flatten)).Perm (A ++ (B ++ S.flatten)):=List.Perm.refl _
   have e:((A ++ (b,a) :: B) ++ S.flatten).Perm ((b,a) :: (A ++ (B ++ S.flatten))):=by
    rw [List.append_assoc,List.cons_append]
    exact List.perm_middle
   exact (List.nodup_cons.mp (e.nodup_iff.mp wZ)).2
  ·have fA:∀ A:List ay,(if A = [] then ([]:List (List ay)) else [A]).flatten = A:=fun A=>by
    by_cases z:A = []
    ·rw [if_pos z,z]; rfl
    ·rw [if_neg z]; simp
   rw [List.flatten_append,List.flatten_append,fA,fA,List.append_assoc,cu m h,← D1.mem]
   have e:((A ++ (b,a) :: B) ++ S.flatten).Perm ((b,a) :: (A ++ (B ++ S.flatten))):=by
    rw [List.append_assoc,List.cons_append]
    exact List.perm_middle
   have e2:=List.nodup_cons.mp (e.nodup_iff.mp wZ)
   rw [List.flatten_cons,List.cons_append]
   have e3:(a,b)∉A ++ (B ++ S.flatten):=fun z=>p5 (List.mem_append.mp (e.mem_iff.mpr (List.mem_cons_of_mem _ z)))
   constructor
   ·intro z
    exact ⟨List.mem_cons_of_mem _ (e.mem_iff.mpr (List.mem_cons_of_mem _ z)),fun y=>e3 (y▸z),fun y=>e2.1 (y▸z)⟩
   ·rintro ⟨z,z1,z2⟩
    rcases List.mem_cons.mp z with z | z
    ·exact absurd z z1
    ·rcases List.mem_cons.mp (e.mem_iff.mp z) with z | z
     ·exact absurd z z2
     ·exact z
 ·right
  have q2:(b,a)∈S.flatten:=by
   have:=(D1.mem (b,a)).mpr hb
   rw [List.flatten_cons,List.cons_append] at this
   rcases List.mem_cons.mp this with z | z
   ·exact absurd z.symm ne
   ·rcases List.mem_append.mp z with z | z
    ·exact absurd z q
    ·exact z
  obtain ⟨c,hc,O9⟩:=List.mem_flatten.mp q2
  obtain ⟨T,pT⟩:=jx hc
  obtain ⟨w,pw,kw⟩:=(D1.ka c (List.mem_cons_of_mem _ hc)).turn O9
  have pS:S.flatten.Perm (((b,a) :: w) ++ T.flatten):=by
   refine pT.flatten.trans ?_
   rw [List.flatten_cons]
   exact pw.symm.append_right _
  have nS:=pS.nodup_iff.mp NK
  rw [List.cons_append,List.nodup_cons,List.mem_append] at nS
  obtain ⟨NM,Ru⟩:=nS
  have Qx:(a,b)∉S.flatten:=fun z=>p5 (.inr z)
  have Jp:(a,b)∉w:=fun z=>Qx (pS.mem_iff.mpr (List.mem_append_left _ (List.mem_cons_of_mem _ z)))
  have I9:(b,a)∉w:=fun z=>NM (.inl z)
  have Jq:(a,b)∉v:=fun z=>p5 (.inl z)
  have Lm:∀ d∈w,Dt L d:=fun d hd=>(D1.mem d).mp (by rw [List.flatten_cons]; exact List.mem_append_right _ (pS.mem_iff.mpr (List.mem_append_left _ (List.mem_cons_of_mem _ hd))))
  have v0:v≠[]:=fun z=>by
   rw [z] at kv
   have:nx L (a,b) = (a,b):=kv.nil_eq
   exact b2 (congrArg Prod.fst this)
  have w0:w≠[]:=fun z=>by
   rw [z] at kw
   have:nx L (b,a) = (b,a):=kw.nil_eq
   exact b2 (congrArg Prod.fst this).symm
  have k1:Wk (nx (rem L a b)) (nx L (a,b)) v (nx L (b,a)):=kv.new v0 Jq (fun d hd e=>by rw [spec d (C5 d hd) (fun y=>Jq (y▸hd)) (fun y=>q (y▸hd)),e,if_neg ne,if_pos rfl]) fun d hd e=>by
   rw [spec d (C5 d hd) (fun y=>Jq (y▸hd)) (fun y=>q (y▸hd)),if_neg,if_neg e]
   intro y
   rcases kv.on d hd with u | u
   ·exact q (y▸u)
   ·exact e u
  have k2:Wk (nx (rem L a b)) (nx L (b,a)) w (nx L (a,b)):=kw.new w0 I9 (fun d hd e=>by rw [spec d (Lm d hd) (fun y=>Jp (y▸hd)) (fun y=>I9 (y▸hd)),if_pos e]) fun d hd e=>by
   rw [spec d (Lm d hd) (fun y=>Jp (y▸hd)) (fun y=>I9 (y▸hd)),if_neg e,if_neg]
   intro y
   rcases kw.on d hd with u | u
   ·exact Jp (y▸u)
   ·exact e u
  have pe:((a,b) :: (v ++ S.flatten)).Perm ((a,b) :: (b,a) :: ((v ++ w) ++ T.flatten)):=by
   refine List.Perm.cons _ ?_
   rw [List.append_assoc]
   exact (pS.append_left v).trans (by rw [List.cons_append]; exact List.perm_middle)
  have nA:((a,b) :: (b,a) :: ((v ++ w) ++ T.flatten)).Nodup:=pe.nodup_iff.mp (List.nodup_cons.mpr ⟨fun z=>p5 (List.mem_append.mp z),wZ⟩)
  obtain ⟨Kr,NO⟩:=List.nodup_cons.mp nA
  obtain ⟨Kq,NN⟩:=List.nodup_cons.mp NO
  have mm:∀ d,d∈(v ++ w) ++ T.flatten↔Dt (rem L a b) d:=fun d=>by
   rw [cu m h,← D1.mem,List.flatten_cons,List.cons_append,pe.mem_iff]
   constructor
   ·intro z
    exact ⟨List.mem_cons_of_mem _ (List.mem_cons_of_mem _ z),fun y=>Kr (List.mem_cons_of_mem _ (y▸z)),fun y=>Kq (y▸z)⟩
   ·rintro ⟨z,z1,z2⟩
    rcases List.mem_cons.mp z with z | z
    ·exact absurd z z1
    ·rcases List.mem_cons.mp z with z | z
     ·exact absurd z z2
     ·exact z
  refine ⟨v,w,T,⟨fun s hs=>?_,by rw [List.flatten_cons]; exact NN,fun d=>by rw [List.flatten_cons]; exact mm d⟩,by rw [Cq,pT.length_eq]; rfl,v0,w0,k1,k2,fun d hd=>(mm d).mp (List.mem_append_left _ hd)⟩
  rcases List.mem_cons.mp hs with z | z
  ·rw [z]
   have k:=k1.append k2
   cases v with
   | nil=>exact absurd rfl v0
   | cons p v=>have:=k1.hd; subst this; exact ⟨_,_,rfl,k⟩
  ·have Ow:s∈S:=pT.mem_iff.mpr (List.mem_cons_of_mem _ z)
   have cy:=D1.ka s (List.mem_cons_of_mem _ Ow)
   have Hi:∀ d∈s,d∈T.flatten:=fun d hd=>List.mem_flatten.mpr ⟨s,z,hd⟩
   have Ck:(a,b)∉s:=fun y=>Kr (List.mem_cons_of_mem _ (List.mem_append_right _ (Hi _ y)))
   have yz:(b,a)∉s:=fun y=>Kq (List.mem_append_right _ (Hi _ y))
   obtain ⟨p,r,rfl,k⟩:=id cy
   refine ⟨p,r,rfl,k.congr fun d hd=>?_⟩
   have dd:Dt L d:=((cu m h).mp ((mm d).mp (List.mem_append_right _ (Hi d hd)))).1
   have on:=cy.on hd
   have o1:nx L d≠(b,a):=fun y=>yz (by rw [← y]; exact on)
   have o2:nx L d≠(a,b):=fun y=>Ck (by rw [← y]; exact on)
   rw [spec d dd (fun y=>Ck (y▸hd)) (fun y=>yz (y▸hd)),if_neg o1,if_neg o2]
end
end Gm
end
section
namespace Gm
open PySem L2
def iso (L:List (List Int)):Nat:=L.countP (·.isEmpty)
def yT (L:List (List Int)) (S:List Int):Prop:=∀ x:Int,0≤x→x < L.length→∃ s∈S,Reach L s x
theorem Reach.one {L:List (List Int)} {s:Int} {d:ay} (h:Reach L s d.1) (q:Dt L d):Reach L s d.2:=by
 have e:((d.1.toNat:Nat):Int) = d.1:=Int.toNat_of_nonneg q.lo
 exact .step (i:=d.1.toNat) (by rw [e]; exact h) (aE q.lo q.hi) q.mem
theorem Reach.AG {L:List (List Int)} {i:Nat} {l:List Int} {x:Int} (e:L[i]? = some l) (hx:x∈l):Dt L ((i:Int),x):=by
 have hi:=(List.getElem?_eq_some_iff.mp e).1
 have:=aE (L:=L) (a:=(i:Int)) (by omega) (by omega)
 rw [Int.toNat_natCast,e] at this
 exact ⟨by simp,by simpa using hi,by rw [← Option.some.inj this]; exact hx⟩
section
variable {L:List (List Int)} {a b:Int}
theorem qP (m:aI L) (h:Dt L (a,b)):iso (rem L a b) = iso L + (if (rowOf L b).erase a = [] then 1 else 0) + (if (rowOf L a).erase b = [] then 1 else 0):=by
 obtain ⟨b0,b1,b2,b3⟩:=h.back m
 have a0:=h.lo
 have a1:=h.hi
 have hm:=h.mem
 dsimp only at a0 a1 b0 b1 b2 b3 hm
 have la:a.toNat < L.length:=by omega
 have lb:b.toNat < L.length:=by omega
 have ea:L[a.toNat] = rowOf L a:=by have:=aE a0 a1; rw [List.getElem?_eq_getElem la] at this; exact Option.some.inj this
 have eb:L[b.toNat] = rowOf L b:=by have:=aE b0 b1; rw [List.getElem?_eq_getElem lb] at this; exact Option.some.inj this
 have na:(rowOf L a).isEmpty = false:=by cases q:rowOf L a with | nil=>rw [q] at hm; cases hm | cons _ _=>rfl
 have nb:(rowOf L b).isEmpty = false:=by cases q:rowOf L b with | nil=>rw [q] at b3; cases b3 | cons _ _=>rfl
 have iE:∀ l:List Int,(if l.isEmpty = true then 1 else 0) = (if l = [] then 1 else 0):=fun l=>by cases l <;> simp
 unfold iso rem
 have hJ:¬ a.toNat = b.toNat:=by omega
 have e1:(L.set a.toNat ((rowOf L a).erase b))[b.toNat]'(by rw [List.length_set]; exact lb) = rowOf L b:=by rw [List.getElem_set,if_neg hJ,eb]
 rw [List.countP_set (by rw [List.length_set]; exact lb),List.countP_set la,e1,ea,na,nb,iE,iE]
 simp only [Bool.false_eq_true,if_false,Nat.sub_zero]
 omega
theorem fU (m:aI L) (h:Dt L (a,b)):(rowOf L b).erase a = []↔nx L (a,b) = (b,a):=by
 obtain ⟨b0,b1,b2,b3⟩:=h.back m
 dsimp only at b0 b1 b2 b3
 have n:=m.nd _ _ (aE b0 b1)
 constructor
 ·intro z
  have:rowOf L b = [a]:=by
   obtain ⟨u,v,e⟩:=List.append_of_mem b3
   rw [e] at z n ⊢
   have yu:a∉u:=fun y=>(List.nodup_append.mp n).2.2 a y a List.mem_cons_self rfl
   rw [List.erase_append_right _ yu,List.erase_cons_head] at z
   obtain ⟨z1,z2⟩:=List.append_eq_nil_iff.mp z
   rw [z1,z2]; rfl
  unfold nx
  rw [this]
  refine Prod.ext rfl ?_
  show pre [a] a = a
  unfold pre cy
  simp [Nat.mod_one]
 ·intro z
  have e:pre (rowOf L b) a = a:=congrArg Prod.snd z
  rw [jv n b3 e]
  simp
end
end Gm
end
section
namespace Gm
open PySem L2
theorem Wk.all {f:ay→ay} {x y:ay} {l:List ay} {P:ay→Prop} (h:Wk f x l y) (hx:P x) (s:∀ d∈l,P d→P (f d)):∀ d∈l,P d:=by
 induction h with
 | nil _=>intro d hd; cases hd
 | @cons x y l _ ih=>
  intro d hd
  rcases List.mem_cons.mp hd with e | e
  ·rw [e]; exact hx
  ·exact ih (s x List.mem_cons_self hx) (fun d hd=>s d (List.mem_cons_of_mem _ hd)) d e
theorem qw.conn {f:ay→ay} {c:List ay} {x y:ay} {P:ay→Prop} (h:qw f c) (hx:x∈c) (hy:y∈c) (px:P x) (s:∀ d∈c,P d→P (f d)):P y:=by
 obtain ⟨v,p,k⟩:=h.turn hx
 have k2:Wk f x (x :: v) x:=.cons k
 exact k2.all px (fun d hd=>s d (p.mem_iff.mp hd)) y (p.mem_iff.mpr hy)
theorem sY {R:List (List ay)} (n:R.flatten.Nodup) {c e:List ay} {d:ay} (hc:c∈R) (he:e∈R) (h1:d∈c) (h2:d∈e):c = e:=by
 have p:=(List.pairwise_flatten.mp n).2
 obtain ⟨i,hi,rfl⟩:=List.mem_iff_getElem.mp hc
 obtain ⟨j,hj,rfl⟩:=List.mem_iff_getElem.mp he
 have q:=List.pairwise_iff_getElem.mp p
 rcases Nat.lt_trichotomy i j with z | z | z
 ·exact absurd rfl (q i j hi hj z d h1 d h2)
 ·subst z; rfl
 ·exact absurd rfl (q j i hj hi z d h2 d h1)
def Ar (c:List ay):ay:=c.headD (0,0)
def rep (R:List (List ay)) (d:ay):ay:=((R.find? fun c=>decide (d∈c)).map Ar).getD (0,0)
theorem pD {R:List (List ay)} {d:ay} (h:d∈R.flatten):∃ c∈R,d∈c∧rep R d = Ar c:=by
 obtain ⟨c,hc,hd⟩:=List.mem_flatten.mp h
 unfold rep
 cases q:R.find? fun c=>decide (d∈c) with
 | none=>have:=List.find?_eq_none.mp q c hc; simp [hd] at this
 | some e=>
  have h1:=List.find?_some q
  exact ⟨e,List.mem_of_find?_eq_some q,by simpa using h1,rfl⟩
theorem jM {c:List ay} (h:c≠[]):Ar c∈c:=by cases c with | nil=>exact absurd rfl h | cons a l=>exact List.mem_cons_self
theorem Dec.le {L:List (List Int)} {R S:List (List ay)} (h:Dec L R) (k:Dec L S):R.length≤S.length:=by
 have hm:∀ c∈R,Ar c∈S.flatten:=fun c hc=>(k.mem _).mpr ((h.mem _).mp (List.mem_flatten.mpr ⟨c,hc,jM (h.ka c hc).ne⟩))
 have n:(R.map fun c=>rep S (Ar c)).Nodup:=by
  have p:=(List.pairwise_flatten.mp h.nd).2
  refine List.Pairwise.map _ (fun x y rK=>rK) (List.Pairwise.imp_of_mem (fun {c e} hc he O6 z=>?_) p)
  obtain ⟨c',h1,h2,h3⟩:=pD (hm c hc)
  obtain ⟨e',g1,g2,g3⟩:=pD (hm e he)
  rw [h3,g3] at z
  have ee:c' = e':=sY k.nd h1 g1 (jM (k.ka c' h1).ne) (by rw [z]; exact jM (k.ka e' g1).ne)
  subst ee
  have:Ar e∈c:=(k.ka c' h1).conn (P:=fun d=>d∈c) h2 g2 (jM (h.ka c hc).ne) fun d _ hd=>(h.ka c hc).on hd
  exact O6 _ this _ (jM (h.ka e he).ne) rfl
 have:=fI n (r:=S.map Ar) fun x hx=>by
  obtain ⟨c,hc,rfl⟩:=List.mem_map.mp hx
  obtain ⟨c',h1,h2,h3⟩:=pD (hm c hc)
  rw [h3]
  exact List.mem_map.mpr ⟨c',h1,rfl⟩
 simpa using this
theorem Dec.count {L:List (List Int)} {R S:List (List ay)} (h:Dec L R) (k:Dec L S):R.length = S.length:=Nat.le_antisymm (h.le k) (k.le h)
theorem dc {L:List (List Int)}:∀ {k:Nat} {d:ay},k≤L.length→(d∈dq L k↔0≤d.1∧d.1 < k∧d.1 < d.2∧d.2 < L.length∧d.2∈rowOf L d.1)
 | 0,d,_=>by simp only [dq,List.not_mem_nil,false_iff]; intro h; omega
 | k + 1,d,hk=>by
  rw [dq,List.mem_append,dc (by omega),List.mem_map]
  have er:L.getD k [] = rowOf L (k:Int):=rfl
  rw [er]
  constructor
  ·rintro (⟨h1,h2,h3⟩ | ⟨x,hx,rfl⟩)
   ·exact ⟨h1,by omega,h3⟩
   ·have:=fE.mp hx
    exact ⟨by simp,by simp; omega,this.1,by have:=this.2.1; dsimp only; omega,this.2.2⟩
  ·rintro ⟨h1,h2,h3,h4,h5⟩
   by_cases e:d.1 = k
   ·right
    rw [e] at h5 h3
    exact ⟨d.2,fE.mpr ⟨h3,by omega,h5⟩,Prod.ext e.symm rfl⟩
   ·left; exact ⟨h1,by omega,h3,h4,h5⟩
theorem jA {L:List (List Int)}:∀ {k:Nat},k≤L.length→(dq L k).Nodup
 | 0,_=>.nil
 | k + 1,hk=>by
  rw [dq,List.nodup_append]
  refine ⟨jA (by omega),?_,fun a ha b hb z=>?_⟩
  ·exact List.Pairwise.map _ (fun x y rK z=>by have:=congrArg Prod.snd z; dsimp only at this; omega) (fk (i:=k) (l:=L.getD k []) (L.length - (k + 1)))
  ·have:=((dc (by omega)).mp ha).2.1
   obtain ⟨x,_,rfl⟩:=List.mem_map.mp hb
   rw [z] at this
   simp at this
theorem oJ:∀ (l:List ay) (p:ay→Bool),l.length = (l.filter p).length + (l.filter fun d=>!p d).length
 | [],_=>rfl
 | x :: l,p=>by
  have:=oJ l p
  cases q:p x with
  | true=>rw [List.filter_cons_of_pos q,List.filter_cons_of_neg (by simp [q]),List.length_cons,List.length_cons]; omega
  | false=>rw [List.filter_cons_of_neg (by simp [q]),List.filter_cons_of_pos (by simp [q]),List.length_cons,List.length_cons]; omega
theorem fN {L:List (List Int)} (m:aI L):(fe L L.length).length = 2 * (dq L L.length).length:=by
 have n:=cS m (Nat.le_refl L.length)
 have nd:=jA (L:=L) (Nat.le_refl L.length)
 have s:=oJ (fe L L.length) (fun d:ay=>decide (d.1 < d.2))
 have e1:((fe L L.length).filter fun d=>decide (d.1 < d.2)).length = (dq L L.length).length:=by
  refine len_eq (n.filter _) nd fun d=>?_
  rw [List.mem_filter,dc (Nat.le_refl _)]
  constructor
  ·rintro ⟨h1,h2⟩
   have q:=Dt.of h1
   exact ⟨q.lo,q.hi,by simpa using h2,(q.back m).2.1,q.mem⟩
  ·rintro ⟨h1,h2,h3,h4,h5⟩
   exact ⟨Dt.all ⟨h1,h2,h5⟩,by simpa using h3⟩
 have e2:((fe L L.length).filter fun d=>!decide (d.1 < d.2)).length = ((dq L L.length).map fun d=>(d.2,d.1)).length:=by
  have Co:((dq L L.length).map fun d=>(d.2,d.1)).Nodup:=List.Pairwise.map _ (fun x y rK z=>rK (Prod.ext (congrArg Prod.snd z) (congrArg Prod.fst z))) nd
  refine len_eq (n.filter _) Co fun d=>?_
  ·rw [List.mem_filter,List.mem_map]
   constructor
   ·rintro ⟨h1,h2⟩
    have q:=Dt.of h1
    obtain ⟨b0,b1,b2,b3⟩:=q.back m
    refine ⟨(d.2,d.1),(dc (Nat.le_refl _)).mpr ⟨b0,b1,?_,q.hi,b3⟩,rfl⟩
    have:¬ d.1 < d.2:=by simpa using h2
    dsimp only
    omega
   ·rintro ⟨e,he,rfl⟩
    obtain ⟨h1,h2,h3,h4,h5⟩:=(dc (Nat.le_refl _)).mp he
    obtain ⟨b0,b1,b2,b3⟩:=Dt.back (d:=e) ⟨h1,h2,h5⟩ m
    refine ⟨Dt.all ⟨b0,b1,b3⟩,?_⟩
    have:¬ e.2 < e.1:=by omega
    simpa using this
 rw [List.length_map] at e2
 omega
theorem xX {L:List (List Int)} {d:ay}:∀ k,Wk (nx L) d (tr L d k) (it L d k)
 | 0=>.nil _
 | k + 1=>by
  have e:tr L d (k + 1) = tr L d k ++ [it L d k]:=by unfold tr; rw [List.range_succ,List.map_append]; rfl
  rw [e]
  exact (xX k).append (.cons (.nil _))
theorem yX {L:List (List Int)} {d:ay} {k:Nat} (hk:0 < k) (e:it L d k = d):qw (nx L) (tr L d k):=by
 have w:=xX (L:=L) (d:=d) k
 rw [e] at w
 obtain ⟨j,rfl⟩:∃ j,k = j + 1:=⟨k - 1,by omega⟩
 have e2:tr L d (j + 1) = d :: (tr L d (j + 1)).tail:=by unfold tr; rw [List.range_succ_eq_map]; rfl
 exact ⟨d,_,e2,w⟩
theorem jV {L:List (List Int)} {d:ay} (m:aI L) (h:Dt L d):∃ k,0 < k∧it L d k = d∧lQ L d k:=by
 have go:∀ n,(∃ k,0 < k∧it L d k = d∧lQ L d k)∨lQ L d (n + 1):=by
  intro n
  induction n with
  | zero=>exact .inr fun i h1 h2=>by omega
  | succ n ih=>
   rcases ih with z | z
   ·exact .inl z
   ·by_cases e:it L d (n + 1) = d
    ·exact .inl ⟨n + 1,by omega,e,z⟩
    ·refine .inr fun i h1 h2=>?_
     by_cases q:i = n + 1
     ·rw [q]; exact e
     ·exact z i h1 (by omega)
 rcases go (fe L L.length).length with z | z
 ·exact z
 ·have:=uX m h z
  omega
structure Dp (L:List (List Int)) (R:List (List ay)):Prop where
 ka:∀ c∈R,qw (nx L) c
 nd:R.flatten.Nodup
 dt:∀ d∈R.flatten,Dt L d
section
variable {L:List (List Int)} {R:List (List ay)} {d:ay} {k:Nat}
theorem Dp.start:Dp L []:=⟨by simp,.nil,by simp⟩
theorem Dp.on (p:Dp L R) (h:d∈R.flatten):∀ t,it L d t∈R.flatten
 | 0=>h
 | t + 1=>by
  obtain ⟨c,hc,hd⟩:=List.mem_flatten.mp (p.on h t)
  exact List.mem_flatten.mpr ⟨c,hc,(p.ka c hc).on hd⟩
theorem Dp.new (p:Dp L R) (hk:0 < k) (e:it L d k = d) (n:d∉R.flatten) (j:Nat):it L d j∉R.flatten:=by
 intro h
 refine n ?_
 have:=p.on h (k * j - j)
 rw [← mR,show j + (k * j - j) = k * j from by have:=Nat.le_mul_of_pos_left j hk; omega,Nat.mul_comm] at this
 have z:=vh e (j * k)
 rw [Nat.mul_mod_left] at z
 rw [← z] at this
 exact this
theorem Dp.add (m:aI L) (p:Dp L R) (h:Dt L d) (hk:0 < k) (e:it L d k = d) (nr:lQ L d k) (n:d∉R.flatten):Dp L (R ++ [tr L d k]):=by
 refine ⟨fun c hc=>?_,?_,fun x hx=>?_⟩
 ·rcases List.mem_append.mp hc with z | z
  ·exact p.ka c z
  ·rw [List.mem_singleton.mp z]; exact yX hk e
 ·rw [List.flatten_append,List.flatten_singleton,List.nodup_append]
  refine ⟨p.nd,jf m h nr,fun x hx y hy z=>?_⟩
  obtain ⟨j,_,rfl⟩:=List.mem_map.mp hy
  exact p.new hk e n j (z▸hx)
 ·rw [List.flatten_append,List.flatten_singleton] at hx
  rcases List.mem_append.mp hx with z | z
  ·exact p.dt x z
  ·obtain ⟨j,_,rfl⟩:=List.mem_map.mp z
   exact jK m h j
theorem Dp.len (p:Dp L R):R.flatten.length≤(fe L L.length).length:=fI p.nd fun x hx=>(p.dt x hx).all
theorem Dp.lC:∀ {R:List (List ay)},(∀ c∈R,c≠[])→R.length≤R.flatten.length
 | [],_=>Nat.le_refl _
 | c :: R,h=>by
  have:=Dp.lC (R:=R) fun x hx=>h x (List.mem_cons_of_mem _ hx)
  have:=List.length_pos_iff.mpr (h c List.mem_cons_self)
  rw [List.flatten_cons,List.length_append,List.length_cons]
  omega
theorem Dp.dec (p:Dp L R) (all:∀ d,Dt L d→d∈R.flatten):Dec L R:=⟨p.ka,p.nd,fun d=>⟨p.dt d,all d⟩⟩
end
theorem aV.away {H:Hp} {t b:Addr} {bs:List Addr} {R:List (List Int)} {o:HO} (g:aV H t bs R) (n:b∉t :: bs):aV (upd H b o) t bs R:=by
 refine ⟨?_,g.len,fun i a l h1 h2=>?_⟩
 ·rw [ak (fun z=>n (by rw [← z]; exact List.mem_cons_self))]; exact g.top
 ·have am:=List.mem_of_getElem? h1
  have ne:a≠b:=fun z=>n (by rw [← z]; exact List.mem_cons_of_mem _ am)
  rw [ak ne]
  exact g.row i a l h1 h2
end Gm
end
section
namespace L2
open PySem PySem.Spec PySem.W PySem.Calls PyProof.Rows
theorem lD:∀ {l:List Int} {y:Int},y∈l→l.erase y = l.eraseIdx (l.idxOf y)
 | [],_,h=>by cases h
 | z :: l,y,h=>by
  by_cases e:z = y
  ·subst e; rw [List.erase_cons_head,List.idxOf_cons]; simp
  ·have e2:(z == y) = false:=beq_false_of_ne e
   rw [List.erase_cons_tail (by simpa using e),List.idxOf_cons,e2,lD ((List.mem_cons.mp h).resolve_left (fun w=>e w.symm))]
   simp
theorem jC:∀ (l:List Int) (k:Nat),(l.eraseIdx k).map V.int = (l.map V.int).eraseIdx k
 | [],_=>rfl
 | _ :: _,0=>rfl
 | x :: l,k + 1=>by rw [List.eraseIdx_cons_succ,List.map_cons,List.map_cons,List.eraseIdx_cons_succ,jC l k]
section
variable {X:Cx}
def fg (ns:List Int):List Int:=ns.foldl step_dedup []
theorem jT (ns:List Int):firstMet (fun i=>ns.getD i 0) ns.length = fg ns:=by
 unfold firstMet fg
 rw [show ((List.range ns.length).map fun i=>ns.getD i 0) = ns from Gm.range_getD ns]
theorem rS:∀ (ns σ : List Int),σ.Nodup→((ns.foldl step_dedup σ).length = σ.length + ns.length↔(σ ++ ns).Nodup)
 | [],σ,h=>by simp [h]
 | x :: ns,σ,h=>by
  rw [List.foldl_cons]
  by_cases e:x∈σ
  ·have e1:step_dedup σ x = σ:=by unfold step_dedup; rw [if_pos (by simpa using e)]
   rw [e1]
   constructor
   ·intro z
    have:=foldl_step_dedup_length_le σ ns
    rw [List.length_cons] at z
    omega
   ·intro z
    exact absurd rfl ((List.nodup_append.mp z).2.2 x e x List.mem_cons_self)
  ·have e1:step_dedup σ x = σ ++ [x]:=by unfold step_dedup; rw [if_neg (by simpa using e)]
   rw [e1]
   have n1:(σ ++ [x]).Nodup:=(List.perm_append_singleton x σ).nodup_iff.mpr (List.nodup_cons.mpr ⟨e,h⟩)
   have:=rS ns (σ ++ [x]) n1
   rw [List.length_append,List.length_singleton,List.append_assoc,List.singleton_append] at this
   rw [← this,List.length_cons]
   omega
theorem oO (ns:List Int):(fg ns).length = ns.length↔ns.Nodup:=by
 have:=rS ns [] .nil
 rw [List.length_nil,Nat.zero_add,List.nil_append] at this
 exact this
def B6 (K:Frag):List V→Hp→VK→Prop:=fun vs H Q=>∃ (a:Addr) (ns:List Int),vs = [.ref a]∧aG K H a (ns.map V.int)∧ns.length≤1000∧∀ (p:Addr) (S:Int→Bool),H p = none→Q (.ref p) (upd H p (.set S (fg ns).length))
theorem tF (hc:X.calm = true):eE X (.type "set") (B6 X.K):=by
 intro pins s σ H xs us Q I r h
 obtain ⟨a,ns,rfl,ha,hl,q⟩:=h
 obtain ⟨u,rfl,ru⟩:=vals1 r
 cases ru
 obtain ⟨aO,rv,pl,hz⟩:=I.list ha
 have hi:IntsAre aO ns:=intsAre_of rv
 have zl:=hi.length
 refine call_set_list (I.ok.hd hc) pl.isList (by simpa using hi) (by rw [List.size_toArray,zl]; exact Nat.lt_of_le_of_lt (Nat.succ_le_succ hl) (by decide)) fun h' tk hS kk=>?_
 have ez:aO.toArray.size = ns.length:=by rw [List.size_toArray]; exact zl
 rw [ez,jT] at hS
 exact ⟨.ref s.heap.objs.size,_,I.laid (t':=tk) (fun b o e=>kk b o (Heap.lt_size e) e) (Nat.le_refl _) (show bh X.prog X.w _ h' s.heap.objs.size (.set _ (fg ns).length) from hS),rfl,q _ _ (I.bz.fresh (Nat.le_refl _))⟩
theorem tG:eE X (.builtin "len") (fun xs H Q=>∃ a S n,xs = [V.ref a]∧H a = some (.set S n)∧Q (.int (n:Nat)) H):=by
 intro pins s σ H xs us Q I r h
 obtain ⟨a,S,n,rfl,ha,q⟩:=h
 obtain ⟨u,rfl,ru⟩:=vals1 r
 cases ru
 obtain ⟨o,es,ep,tt,ho,hex,hd,_,_,dD,hf,hn⟩:=(show s.heap.SetOf (intKind X.prog X.w) a S n from I.bz a _ ha)
 have lt:es.size < 4096:=dD
 refine call_len_set ho hex hd hf (by omega) ⟨.int (n:Nat),H,I.tok _,⟨_,by rw [hn]⟩,q⟩
def MP:R2:=fun x y H Q=>∃ a b:Bool,x = .bl a∧y = .bl b∧Q (.bl (a == b)) H
def MR (K:Frag):R2:=fun x y H Q=>∃ (p l:Addr) (d:Int×Int) (ps:List Addr) (T:List (Int×Int)),x = .ref p∧y = .ref l∧H p = some (.tup [.int d.1,.int d.2])∧H l = some (.lst (ps.map V.ref))∧Gm.PR H ps T∧Q (.bl (decide (d∈T))) H
def wF:V→List V→Hp→VK→Prop:=fun x vs H Q=>∃ (l:Addr) (ns:List Int) (y:Int),x = .ref l∧vs = [.int y]∧H l = some (.lst (ns.map V.int))∧y∈ns∧Q .bY (upd H l (.lst ((ns.erase y).map V.int)))
theorem kZ:Br X "list.remove" wF:=by
 intro pins s σ H x vs v us Q I rx rv h
 obtain ⟨l,ns,y,rfl,rfl,hH,hy,q⟩:=h
 cases rx
 obtain ⟨u,rfl,t,rfl⟩:=rv.one
 obtain ⟨z,aO,n,r,hl,e⟩:=I.mO hH
 have hi:IntsAre aO ns:=intsAre_of r
 have zl:=hi.length
 have hj:ns.idxOf y < ns.length:=List.idxOf_lt_length_of_mem hy
 rw [List.length_map] at z
 have at_:∀ m (hm:m < ns.length),∃ t,aO[m]? = some (.int ns[m] t):=fun m hm=>rG hi hm
 refine call_meets F.slot_list_remove ⟨_,e,rfl⟩ F.entry_list_remove (F.args_list_remove_2 _ _) (MeetsSeq.list_remove l aO.toArray n (.int y t) (fun v=>match v with | .int i _=>i == y | _=>false) (fun w hw=>?_) (ns.idxOf y) (by rw [List.size_toArray]; omega) ?_ ?_ (by rw [List.size_toArray]; omega)) ⟨e,?_⟩
 ·have Hm:w∈aO:=by simpa using hw
  obtain ⟨m,hm,rfl⟩:=List.mem_iff_getElem.mp Hm
  obtain ⟨t1,e1⟩:=at_ m (by omega)
  rw [(List.getElem?_eq_some_iff.mp e1).2]
  exact MeetsSeq.EqGives.int _ _ _ _
 ·obtain ⟨t1,e1⟩:=at_ _ hj
  have:aO.toArray[ns.idxOf y]'(by rw [List.size_toArray]; omega) = .int ns[ns.idxOf y] t1:=by
   have:=(List.getElem?_eq_some_iff.mp e1).2
   simpa using this
  rw [this]
  show (ns[ns.idxOf y] == y) = true
  rw [List.getElem_idxOf hj]
  simp
 ·intro m hm dD
  obtain ⟨t1,e1⟩:=at_ m (by omega)
  have:aO.toArray[m] = .int (ns[m]'(by omega)) t1:=by
   have:=(List.getElem?_eq_some_iff.mp e1).2
   simpa using this
  rw [this]
  exact beq_false_of_ne (iz ns y m (by omega) dD)
 ·have ee:(ns.erase y).map V.int = ((ns.map V.int).eraseIdx (ns.idxOf y)):=by rw [lD hy,jC]
  refine ⟨.bY,_,I.u6 (its':=aO.eraseIdx (ns.idxOf y)) (ys:=(ns.erase y).map V.int) hH e ?_ ?_ ?_,rfl,q⟩
  ·show aO.toArray.eraseIdxIfInBounds (ns.idxOf y) = _
   rw [List.eraseIdxIfInBounds_toArray]
  ·rw [ee]; exact r.eraseIdx _
  ·rw [ee,List.length_eraseIdx]
   split <;> (try rw [List.length_map]) <;> omega
end
end L2
end
section
namespace Gm
open PySem L2
theorem jW {L:List (List Int)} (m:aI L):∃ R,Dec L R:=by
 have go:∀ ds:List ay,(∀ d∈ds,Dt L d)→∃ R,Dp L R∧∀ d∈ds,d∈R.flatten:=by
  intro ds
  induction ds with
  | nil=>intro _; exact ⟨[],Dp.start,by simp⟩
  | cons d ds ih=>
   intro h
   obtain ⟨R,p,q⟩:=ih fun x hx=>h x (List.mem_cons_of_mem _ hx)
   by_cases e:d∈R.flatten
   ·refine ⟨R,p,fun x hx=>?_⟩
    rcases List.mem_cons.mp hx with z | z
    ·rw [z]; exact e
    ·exact q x z
   ·have dt:=h d List.mem_cons_self
    obtain ⟨k,k0,ek,nr⟩:=jV m dt
    refine ⟨_,p.add m dt k0 ek nr e,fun x hx=>?_⟩
    rw [List.flatten_append,List.flatten_singleton]
    rcases List.mem_cons.mp hx with z | z
    ·rw [z]; exact List.mem_append_right _ (List.mem_map.mpr ⟨0,List.mem_range.mpr k0,rfl⟩)
    ·exact List.mem_append_left _ (q x z)
 obtain ⟨R,p,q⟩:=go (fe L L.length) fun d hd=>Dt.of hd
 exact ⟨R,p.dec fun d hd=>q d hd.all⟩
theorem Wk.last {f:ay→ay} {x y:ay} {l:List ay} (h:Wk f x l y) (n:l≠[]):∃ d∈l,f d = y:=by
 induction h with
 | nil _=>exact absurd rfl n
 | @cons x y l k ih=>
  cases l with
  | nil=>exact ⟨x,List.mem_cons_self,k.nil_eq⟩
  | cons p l=>
   obtain ⟨d,hd,e⟩:=ih (by simp)
   exact ⟨d,List.mem_cons_of_mem _ hd,e⟩
section
variable {M:List (List Int)} {a b z1 z2:Int}
theorem xO {R R':List (List ay)} (m':aI M) (h:Dt M (a,b)) (f1:nx M (z1,a) = (a,b)) (f2:nx M (z2,b) = (b,a)) (d1:Dt (rem M a b) (z1,a)) (d2:Dt (rem M a b) (z2,b)) (D:Dec (rem M a b) R) (D':Dec M R')
  (conn:∀ P:ay→Prop,P (z1,a)→(∀ d,Dt (rem M a b) d→P d→P (nx (rem M a b) d))→P (z2,b)):R'.length = R.length + 1∧iso M = iso (rem M a b):=by
 obtain ⟨b0,b1,b2,b3⟩:=h.back m'
 have hb:Dt M (b,a):=⟨b0,b1,b3⟩
 have o1:=(cu m' h).mp d1
 have o2:=(cu m' h).mp d2
 have x1:nx M (a,b)≠(b,a):=fun z=>o2.2.1 (dX m' h o2.1 (z.trans f2.symm)).symm
 have x2:nx M (b,a)≠(a,b):=fun z=>o1.2.2 (dX m' hb o1.1 (z.trans f1.symm)).symm
 have i1:¬ (rowOf M b).erase a = []:=fun z=>x1 ((fU m' h).mp z)
 have i2:¬ (rowOf M a).erase b = []:=fun z=>x2 ((fU m' hb).mp z)
 have iE:=qP m' h
 rw [if_neg i1,if_neg i2] at iE
 refine ⟨?_,iE.symm⟩
 rcases qQ m' h D' with ⟨A,B,S,DL,lR,kA,kB⟩ | ⟨A,B,S,DL,lR,_⟩
 ·exfalso
  have A0:A≠[]:=fun z=>by rw [z] at kA; exact x1 kA.nil_eq
  have B0:B≠[]:=fun z=>by rw [z] at kB; exact x2 kB.nil_eq
  rw [if_neg A0,if_neg B0] at DL
  have Oa:∀ d∈A,Dt M d:=fun d hd=>((cu m' h).mp ((DL.mem d).mp (List.mem_flatten.mpr ⟨A,by simp,hd⟩))).1
  have N9:∀ d∈B,Dt M d:=fun d hd=>((cu m' h).mp ((DL.mem d).mp (List.mem_flatten.mpr ⟨B,by simp,hd⟩))).1
  obtain ⟨p,hp,ep⟩:=kA.last A0
  obtain ⟨q,hq,eq⟩:=kB.last B0
  have pe:p = (z2,b):=dX m' (Oa p hp) o2.1 (ep.trans f2.symm)
  have qe:q = (z1,a):=dX m' (N9 q hq) o1.1 (eq.trans f1.symm)
  rw [pe] at hp
  rw [qe] at hq
  have cB:qw (nx (rem M a b)) B:=DL.ka B (by simp)
  have:=conn (fun d=>d∈B) hq fun d _ hd=>cB.on hd
  have nd:=DL.nd
  rw [List.flatten_append,List.flatten_append,List.flatten_singleton,List.flatten_singleton,List.append_assoc] at nd
  exact (List.nodup_append.mp nd).2.2 _ hp _ (List.mem_append_left _ this) rfl
 ·have:=D.count DL
  rw [List.length_cons] at this
  omega
theorem vb {R R':List (List ay)} (m':aI M) (h:Dt M (a,b)) (e1:nx M (a,b) = (b,a)) (f1:nx M (z1,a) = (a,b)) (d1:Dt (rem M a b) (z1,a)) (D:Dec (rem M a b) R) (D':Dec M R'):R'.length = R.length∧iso (rem M a b) = iso M + 1:=by
 obtain ⟨b0,b1,b2,b3⟩:=h.back m'
 have hb:Dt M (b,a):=⟨b0,b1,b3⟩
 have o1:=(cu m' h).mp d1
 have x2:nx M (b,a)≠(a,b):=fun z=>o1.2.2 (dX m' hb o1.1 (z.trans f1.symm)).symm
 have i2:¬ (rowOf M a).erase b = []:=fun z=>x2 ((fU m' hb).mp z)
 have iE:=qP m' h
 rw [if_pos ((fU m' h).mpr e1),if_neg i2] at iE
 refine ⟨?_,iE⟩
 rcases qQ m' h D' with ⟨A,B,S,DL,lR,kA,kB⟩ | ⟨A,B,S,DL,lR,A0,B0,kA,kB,dd⟩
 ·have A0:A = []:=by
   cases A with
   | nil=>rfl
   | cons p A=>
    have hp:=kA.hd
    have dt:Dt (rem M a b) p:=(DL.mem p).mp (List.mem_flatten.mpr ⟨p :: A,by simp,List.mem_cons_self⟩)
    rw [hp,e1] at dt
    exact absurd rfl ((cu m' h).mp dt).2.2
  have B0:B≠[]:=fun z=>by rw [z] at kB; exact x2 kB.nil_eq
  rw [if_pos A0,if_neg B0] at DL
  have:=D.count DL
  rw [List.nil_append,List.singleton_append,List.length_cons] at this
  omega
 ·cases A with
  | nil=>exact absurd rfl A0
  | cons p A=>
   have hp:=kA.hd
   have dt:=dd p (by simp)
   rw [hp,e1] at dt
   exact absurd rfl ((cu m' h).mp dt).2.2
end
structure cG (L:List (List Int)):Prop where
 map:aI L
 two:2≤L.length
 span:yT L [0]
 ES:∃ R,Dec L R∧(L.length:Int) + R.length + iso L = (dq L L.length).length + 2
theorem Reach.mono {L M:List (List Int)} (h:∀ d,Dt L d→Dt M d) {s x:Int} (r:Reach L s x):Reach M s x:=by
 induction r with
 | here=>exact .here
 | step r e hx ih=>
  rename_i i l y
  exact Reach.one (d:=((i:Int),y)) ih (h _ (Reach.AG e hx))
def both (L:List (List Int)) (a b:Int) (A B:List Int):List (List Int):=(L.set a.toNat A).set b.toNat B
structure bE (L:List (List Int)) (a b:Int) (A B:List Int):Prop where
 map:aI L
 a0:0≤a
 a1:a < L.length
 b0:0≤b
 b1:b < L.length
 ne:a≠b
 no:b∉rowOf L a
 pa:A.Perm (b :: rowOf L a)
 pb:B.Perm (a :: rowOf L b)
 ea:A.erase b = rowOf L a
 eb:B.erase a = rowOf L b
section
variable {L:List (List Int)} {a b:Int} {A B:List Int}
theorem bE.Kg (F:bE L a b A B):a∉rowOf L b:=fun z=>F.no (Dt.back (d:=(b,a)) ⟨F.b0,F.b1,z⟩ F.map).2.2.2
theorem cP:(both L a b A B).length = L.length:=by unfold both; simp
theorem bE.row (F:bE L a b A B) {x:Int} (hx:0≤x):rowOf (both L a b A B) x = if x = b then B else if x = a then A else rowOf L x:=by
 have:=F.a0; have:=F.a1; have:=F.b0; have:=F.b1; have:=F.ne
 show (both L a b A B).getD x.toNat [] = _
 unfold both
 rw [List.getD_eq_getElem?_getD,List.getElem?_set]
 by_cases e:x = b
 ·subst e
  rw [if_pos rfl,if_pos rfl,if_pos (by rw [List.length_set]; omega)]
  rfl
 ·rw [if_neg (by omega),if_neg e,List.getElem?_set]
  by_cases e2:x = a
  ·subst e2
   rw [if_pos rfl,if_pos rfl,if_pos (by omega)]
   rfl
  ·rw [if_neg (by omega),if_neg e2,← List.getD_eq_getElem?_getD]
   rfl
theorem bE.mem (F:bE L a b A B) {x y:Int} (hx:0≤x):y∈rowOf (both L a b A B) x↔y∈rowOf L x∨(x = a∧y = b)∨(x = b∧y = a):=by
 rw [F.row hx]
 by_cases e:x = b
 ·subst e
  rw [if_pos rfl,F.pb.mem_iff,List.mem_cons]
  constructor
  ·rintro (z | z)
   ·exact .inr (.inr ⟨rfl,z⟩)
   ·exact .inl z
  ·rintro (z | z | z)
   ·exact .inr z
   ·exact absurd z.1.symm F.ne
   ·exact .inl z.2
 ·rw [if_neg e]
  by_cases e2:x = a
  ·subst e2
   rw [if_pos rfl,F.pa.mem_iff,List.mem_cons]
   constructor
   ·rintro (z | z)
    ·exact .inr (.inl ⟨rfl,z⟩)
    ·exact .inl z
   ·rintro (z | z | z)
    ·exact .inr z
    ·exact .inl z.2
    ·exact absurd z.1 e
  ·rw [if_neg e2]
   exact ⟨.inl,fun z=>z.elim id fun z=>z.elim (fun w=>absurd w.1 e2) fun w=>absurd w.1 e⟩
theorem bE.jL (F:bE L a b A B):aI (both L a b A B):=by
 have:=F.a0; have:=F.a1; have:=F.b0; have:=F.b1; have ne:=F.ne
 refine gZ fun x x0 x1=>?_
 rw [cP] at x1 ⊢
 have n:=F.map.nd _ _ (aE x0 x1)
 refine ⟨?_,fun y hy=>?_⟩
 ·rw [F.row x0]
  split
  ·rename_i e; subst e; exact F.pb.nodup_iff.mpr (List.nodup_cons.mpr ⟨F.Kg,n⟩)
  ·split
   ·rename_i e; subst e; exact F.pa.nodup_iff.mpr (List.nodup_cons.mpr ⟨F.no,n⟩)
   ·exact n
 ·rcases (F.mem x0).mp hy with z | ⟨z,w⟩ | ⟨z,w⟩
  ·obtain ⟨c0,c1,c2,c3⟩:=Dt.back (d:=(x,y)) ⟨x0,x1,z⟩ F.map
   exact ⟨c0,c1,c2,(F.mem c0).mpr (.inl c3)⟩
  ·subst z w
   exact ⟨F.b0,F.b1,ne.symm,(F.mem F.b0).mpr (.inr (.inr ⟨rfl,rfl⟩))⟩
  ·subst z w
   exact ⟨F.a0,F.a1,ne,(F.mem F.a0).mpr (.inr (.inl ⟨rfl,rfl⟩))⟩
theorem bE.dt (F:bE L a b A B):Dt (both L a b A B) (a,b):=⟨F.a0,by rw [cP]; exact F.a1,(F.mem F.a0).mpr (.inr (.inl ⟨rfl,rfl⟩))⟩
theorem bE.rem (F:bE L a b A B):rem (both L a b A B) a b = L:=by
 have a0:=F.a0; have a1:=F.a1; have b0:=F.b0; have b1:=F.b1; have ne:=F.ne
 unfold Gm.rem
 rw [F.row a0,F.row b0,if_neg ne,if_pos rfl,if_pos rfl,F.ea,F.eb]
 unfold both
 apply List.ext_getElem?
 intro i
 rw [List.getElem?_set]
 by_cases e:b.toNat = i
 ·rw [if_pos e]
  have:i < L.length:=by omega
  rw [if_pos (by simp; omega),← e,aE b0 b1]
 ·rw [if_neg e,List.getElem?_set]
  by_cases e2:a.toNat = i
  ·rw [if_pos e2,if_pos (by simp; omega),← e2,aE a0 a1]
  ·rw [if_neg e2,List.getElem?_set,if_neg e,List.getElem?_set,if_neg e2]
theorem bE.sub (F:bE L a b A B) (d:ay) (h:Dt L d):Dt (both L a b A B) d:=⟨h.lo,by rw [cP]; exact h.hi,(F.mem h.lo).mpr (.inl h.mem)⟩
theorem bE.Iv (F:bE L a b A B):(dq (both L a b A B) L.length).length = (dq L L.length).length + 1:=by
 have h1:=(nQ F.jL F.dt).2
 rw [F.rem] at h1
 have h2:=fN F.jL
 have h3:=fN F.map
 rw [cP] at h1 h2
 omega
theorem bE.yg (F:bE L a b A B) (s:cG L) {z1 z2:Int} (h1:z1∈rowOf L a) (h2:z2∈rowOf L b) (f1:pre A z1 = b) (f2:pre B z2 = a)
  (conn:∀ P:ay→Prop,P (z1,a)→(∀ d,Dt L d→P d→P (nx L d))→P (z2,b)):cG (both L a b A B):=by
 obtain ⟨c0,c1,c2,c3⟩:=Dt.back (d:=(a,z1)) ⟨F.a0,F.a1,h1⟩ F.map
 obtain ⟨e0,e1,e2,e3⟩:=Dt.back (d:=(b,z2)) ⟨F.b0,F.b1,h2⟩ F.map
 obtain ⟨R,D,ch⟩:=s.ES
 obtain ⟨R',D'⟩:=jW F.jL
 have n1:nx (both L a b A B) (z1,a) = (a,b):=by
  unfold nx; dsimp only; rw [F.row F.a0,if_neg F.ne,if_pos rfl,f1]
 have n2:nx (both L a b A B) (z2,b) = (b,a):=by
  unfold nx; dsimp only; rw [F.row F.b0,if_pos rfl,f2]
 obtain ⟨l1,l2⟩:=xO (R:=R) F.jL F.dt n1 n2 (by rw [F.rem]; exact ⟨c0,c1,c3⟩) (by rw [F.rem]; exact ⟨e0,e1,e3⟩) (by rw [F.rem]; exact D) D' (by rw [F.rem]; exact conn)
 rw [F.rem] at l2
 refine ⟨F.jL,by rw [cP]; exact s.two,fun x x0 x1=>?_,R',D',?_⟩
 ·rw [cP] at x1
  obtain ⟨t,ht,r⟩:=s.span x x0 x1
  exact ⟨t,ht,r.mono F.sub⟩
 ·rw [cP,F.Iv,l1,l2]
  omega
end
theorem fV:∀ {l:List Int} {k:Nat} {x:Int},x∉l→(put l k x).erase x = l:=fun {l k x} h=>by
 unfold put
 rw [List.erase_append_right _ (fun z=>h (List.mem_of_mem_take z)),List.erase_cons_head,List.take_append_drop]
theorem rm:∀ {l:List Int} {p z x:Int},z∈l→x≠z→cY p (put l (l.idxOf z) x) z = x
 | [],_,_,_,h,_=>by cases h
 | h :: t,p,z,x,hz,hx=>by
  rw [List.idxOf_cons]
  by_cases e:h = z
  ·subst e
   have:(h == h) = true:=by simp
   rw [this]
   show cY p (x :: h :: t) h = x
   show (if x = h then p else if h = h then x else cY h t h) = x
   rw [if_neg hx,if_pos rfl]
  ·have e2:(h == z) = false:=beq_false_of_ne e
   rw [e2]
   show cY p (h :: put t (t.idxOf z) x) z = x
   show (if h = z then p else cY h (put t (t.idxOf z) x) z) = x
   rw [if_neg e]
   exact rm ((List.mem_cons.mp hz).resolve_left (fun w=>e w.symm)) hx
theorem iY {l:List Int} {z x:Int} (hz:z∈l) (hx:x∉l):pre (put l (l.idxOf z) x) z = x:=by
 rw [gS (cm.mpr (.inr hz))]
 exact rm hz (fun w=>hx (w▸hz))
theorem ph {l:List Int} {x:Int} (h:x∉l):(l ++ [x]).erase x = l:=by rw [List.erase_append_right _ h,List.erase_cons_head,List.append_nil]
theorem uJ {l:List Int} {y x:Int}:pre ((y :: l) ++ [x]) y = x:=by
 rw [gS (by simp),eU (y :: l) (v:=[x]) (by simp)]
 show (if y = y then lst [x] else _) = x
 rw [if_pos rfl]; rfl
end Gm
end
section
namespace Gm
open PySem L2
theorem Reach.inv {L:List (List Int)} {s x:Int} (r:Reach L s x):x = s∨∃ (j:Nat) (l:List Int),L[j]? = some l∧x∈l:=by
 cases r with
 | here=>exact .inl rfl
 | step r e hx=>exact .inr ⟨_,_,e,hx⟩
theorem cG.Cu {L:List (List Int)} (s:cG L):iso L = 0:=by
 unfold iso
 refine List.countP_eq_zero.mpr fun l hl=>?_
 obtain ⟨i,hi,rfl⟩:=List.mem_iff_getElem.mp hl
 have ei:L[i]? = some L[i]:=List.getElem?_eq_getElem hi
 intro z
 have e0:L[i] = []:=by simpa using z
 have two:=s.two
 by_cases h0:i = 0
 ·subst h0
  obtain ⟨t,ht,r⟩:=s.span 1 (by omega) (by omega)
  have:t = 0:=List.mem_singleton.mp ht
  subst this
  have go:∀ x,Reach L 0 x→x = 0:=fun x r=>by
   induction r with
   | here=>rfl
   | step r e hx ih=>
    rename_i j l y
    have:j = 0:=by omega
    subst this
    rw [ei] at e
    cases e
    rw [e0] at hx
    cases hx
  exact absurd (go 1 r) (by omega)
 ·obtain ⟨t,ht,r⟩:=s.span i (by omega) (by omega)
  have:t = 0:=List.mem_singleton.mp ht
  subst this
  rcases r.inv with w | ⟨j,l,e,hx⟩
  ·omega
  ·have:=s.map.sy _ _ e _ hx i rfl _ ei
   rw [e0] at this
   cases this
theorem cG.three {L:List (List Int)} (s:cG L) (h3:3≤L.length) {R:List (List ay)} (D:Dec L R) {c:List ay} (hc:c∈R):3≤c.length:=by
 have dt:∀ d∈c,Dt L d:=fun d hd=>(D.mem d).mp (List.mem_flatten.mpr ⟨c,hc,hd⟩)
 obtain ⟨x,l,e,k⟩:=D.ka c hc
 subst e
 have hx:=dt x List.mem_cons_self
 obtain ⟨b0,b1,b2,b3⟩:=hx.back s.map
 have k1:=k.tl
 cases l with
 | nil=>exact absurd (congrArg Prod.fst k1.nil_eq) b2
 | cons y l=>
  cases l with
  | cons w l=>simp
  | nil=>
   exfalso
   have ey:=k1.hd
   have ex:=k1.tl.nil_eq
   rw [← ey] at ex
   have y1:y.1 = x.2:=by rw [ey]; rfl
   have y2:y.2 = x.1:=congrArg Prod.fst ex
   have p1:pre (rowOf L x.2) x.1 = x.1:=by
    have:y.2 = pre (rowOf L x.2) x.1:=by rw [ey]; rfl
    rw [← this,y2]
   have p2:pre (rowOf L x.1) x.2 = x.2:=by
    have:pre (rowOf L y.2) y.1 = x.2:=congrArg Prod.snd ex
    rwa [y1,y2] at this
   have r1:=jv (s.map.nd _ _ (aE b0 b1)) b3 p1
   have r2:=jv (s.map.nd _ _ (aE hx.lo hx.hi)) hx.mem p2
   have go:∀ u,Reach L 0 u→((u = x.1∨u = x.2)↔((0:Int) = x.1∨(0:Int) = x.2)):=fun u r=>by
    induction r with
    | here=>exact Iff.rfl
    | step r e hv ih=>
     rename_i i l v
     refine Iff.trans ?_ ih
     have d:=Reach.AG e hv
     obtain ⟨q0,q1,q2,q3⟩:=d.back s.map
     have dm:=d.mem
     dsimp only at q0 q1 q2 q3 dm
     constructor
     ·rintro (z | z)
      ·rw [z,r2] at q3; exact .inr (List.mem_singleton.mp q3)
      ·rw [z,r1] at q3; exact .inl (List.mem_singleton.mp q3)
     ·rintro (z | z)
      ·rw [z,r2] at dm; exact .inr (List.mem_singleton.mp dm)
      ·rw [z,r1] at dm; exact .inl (List.mem_singleton.mp dm)
   have reach:∀ u:Int,0≤u→u < L.length→Reach L 0 u:=fun u h0 h1=>by
    obtain ⟨t,ht,r⟩:=s.span u h0 h1
    rw [List.mem_singleton.mp ht] at r; exact r
   have z0:=(go x.1 (reach x.1 hx.lo hx.hi)).mp (.inl rfl)
   have l1:=hx.lo
   have c0:=(go 0 (reach 0 (by omega) (by omega))).mpr z0
   have c1:=(go 1 (reach 1 (by omega) (by omega))).mpr z0
   have c2:=(go 2 (reach 2 (by omega) (by omega))).mpr z0
   omega
theorem jS:∀ {R:List (List ay)},(∀ c∈R,3≤c.length)→3 * R.length≤R.flatten.length
 | [],_=>Nat.le_refl _
 | c :: R,h=>by
  have:=jS (R:=R) fun x hx=>h x (List.mem_cons_of_mem _ hx)
  have:=h c List.mem_cons_self
  rw [List.flatten_cons,List.length_append,List.length_cons]
  omega
theorem Dec.len {L:List (List Int)} {R:List (List ay)} (m:aI L) (D:Dec L R):R.flatten.length = (fe L L.length).length:=
 len_eq D.nd (cS m (Nat.le_refl _)) fun d=>(D.mem d).trans ⟨fun h=>h.all,fun h=>Dt.of h⟩
theorem cG.lC {L:List (List Int)} (s:cG L) (h:L.length≤20):(fe L L.length).length < 128:=by
 by_cases h3:3≤L.length
 ·obtain ⟨R,D,ch⟩:=s.ES
  have f:=jS fun c hc=>s.three h3 D hc
  rw [D.len s.map] at f
  have i:=s.Cu
  have d:=fN s.map
  omega
 ·exact tf s.map (by omega)
def dJ (L:List (List Int)):List (List Int):=L ++ [[]]
section
variable {L:List (List Int)}
theorem de {x:Int} (x0:0≤x):rowOf (dJ L) x = if x < L.length then rowOf L x else []:=by
 unfold rowOf dJ
 rw [List.getD_eq_getElem?_getD,List.getD_eq_getElem?_getD]
 by_cases h:x < L.length
 ·rw [if_pos h,List.getElem?_append_left (by omega)]
 ·rw [if_neg h,List.getElem?_append_right (by omega)]
  cases q:([[]]:List (List Int))[x.toNat - L.length]? with
  | none=>rfl
  | some l=>
   have:=List.mem_of_getElem? q
   rw [List.mem_singleton.mp this]; rfl
theorem eV {d:ay}:Dt (dJ L) d↔Dt L d:=by
 constructor
 ·intro h
  have m:=h.mem
  rw [de h.lo] at m
  by_cases z:d.1 < L.length
  ·rw [if_pos z] at m; exact ⟨h.lo,z,m⟩
  ·rw [if_neg z] at m; cases m
 ·intro h
  refine ⟨h.lo,by unfold dJ; have:=h.hi; simp; omega,?_⟩
  rw [de h.lo,if_pos h.hi]; exact h.mem
theorem fG:(dJ L).length = L.length + 1:=by unfold dJ; simp
theorem om (m:aI L):aI (dJ L):=by
 refine gZ fun x x0 x1=>?_
 rw [de x0]
 by_cases z:x < L.length
 ·rw [if_pos z]
  refine ⟨m.nd _ _ (aE x0 z),fun y hy=>?_⟩
  obtain ⟨c0,c1,c2,c3⟩:=Dt.back (d:=(x,y)) ⟨x0,z,hy⟩ m
  dsimp only at c0 c1 c2 c3
  rw [de c0,if_pos c1,fG]
  exact ⟨c0,by omega,c2,c3⟩
 ·rw [if_neg z]; exact ⟨.nil,fun y hy=>by cases hy⟩
theorem mP (m:aI L) {d:ay} (h:Dt L d):nx (dJ L) d = nx L d:=by
 obtain ⟨b0,b1,b2,b3⟩:=h.back m
 unfold nx
 rw [de b0,if_pos b1]
theorem va {R:List (List ay)} (m:aI L) (D:Dec L R):Dec (dJ L) R:=by
 refine ⟨fun c hc=>?_,D.nd,fun d=>(D.mem d).trans eV.symm⟩
 obtain ⟨x,l,e,k⟩:=D.ka c hc
 exact ⟨x,l,e,k.congr fun d hd=>mP m ((D.mem d).mp (List.mem_flatten.mpr ⟨c,hc,hd⟩))⟩
theorem u7:iso (dJ L) = iso L + 1:=by unfold iso dJ; rw [List.countP_append]; rfl
theorem u9 (m:aI L):(fe (dJ L) (dJ L).length).length = (fe L L.length).length:=
 len_eq (cS (om m) (Nat.le_refl _)) (cS m (Nat.le_refl _)) fun d=>⟨fun h=>(eV.mp (Dt.of h)).all,fun h=>(eV.mpr (Dt.of h)).all⟩
end
structure Pl (L:List (List Int)) (r:List Int) (c1 cj:Nat) (dn:List Nat) (M:List (List Int)):Prop where
 sh:cG M
 len:M.length = L.length + 1
 new:rowOf M (L.length:Int) = dn.map (cy r)
 hd:∃ rest,dn = c1 :: rest
 keep:∀ x:Int,0≤x→x < L.length→(∀ c∈dn,cy r c≠x)→rowOf M x = rowOf L x
 sub:∀ d,Dt L d→Dt M d
 le:c1≤cj
 top:cj < r.length
 i1:∀ i,cj≤i→i + 1 < c1 + r.length→nx M (dj r i) = dj r (i + 1)
 i2:nx M (dj r (c1 + (r.length - 1))) = (cy r c1,(L.length:Int))
 i3:nx M (cy r c1,(L.length:Int)) = ((L.length:Int),cy r cj)
 i4:nx M ((L.length:Int),cy r cj) = dj r cj
section
variable {L:List (List Int)} {r:List Int}
theorem vB {i j:Nat} (n:(sh 0 r).Nodup) (h:i < j) (h2:j < i + r.length):dj r i≠dj r j:=by
 intro z
 have r0:0 < r.length:=by omega
 have e1:dj r (i % r.length) = dj r i:=jY (Nat.mod_mod _ _)
 have e2:dj r (j % r.length) = dj r j:=jY (Nat.mod_mod _ _)
 have m1:=Nat.mod_lt i r0
 have m2:=Nat.mod_lt j r0
 have at_:∀ k (hk:k < r.length),(sh 0 r)[k]'(by rw [mh]; exact hk) = dj r k:=fun k hk=>by
  have:=BS (s:=0) hk
  rw [List.getElem?_eq_getElem (by rw [mh]; exact hk)] at this
  exact Option.some.inj this
 have e3:i % r.length = j % r.length:=by
  refine (List.getElem_inj (h₀:=by rw [mh]; exact m1) (h₁:=by rw [mh]; exact m2) n).mp ?_
  rw [at_ _ m1,at_ _ m2,e1,e2,z]
 have:=Nat.div_add_mod i r.length
 have:=Nat.div_add_mod j r.length
 have a:r.length * (i / r.length) < r.length * (j / r.length):=by omega
 have b:i / r.length + 1≤j / r.length:=Nat.lt_of_mul_lt_mul_left a
 have c:=Nat.mul_le_mul_left r.length b
 rw [Nat.mul_add,Nat.mul_one] at c
 omega
theorem eD (g:Good L r) (m:aI L) {c:Nat}:cy r (c + (r.length - 1))∈rowOf L (cy r c)∧0≤cy r c∧cy r c < L.length∧dj r (c + (r.length - 1)) = (cy r (c + (r.length - 1)),cy r c):=by
 have two:=g.two
 have e:cy r (c + (r.length - 1) + 1) = cy r c:=qh (by rw [show c + (r.length - 1) + 1 = c + r.length by omega,Nat.add_mod_right])
 have d:=g.dt (c + (r.length - 1))
 have b:=d.back m
 have ed:dj r (c + (r.length - 1)) = (cy r (c + (r.length - 1)),cy r c):=by unfold dj; rw [e]
 rw [ed] at b
 exact ⟨b.2.2.2,b.1,b.2.1,ed⟩
theorem pZ {x:Int} (m:aI L) (x0:0≤x) (x1:x < L.length):(L.length:Int)∉rowOf L x:=fun z=>by
 have:=m.rg _ _ (aE x0 x1) _ z
 omega
theorem Pl.first (s:cG L) (g:Good L r) (nd:(Gm.sh 0 r).Nodup) {c:Nat} (hc:c < r.length) :
  bE (dJ L) (cy r c) (L.length:Int) (put (rowOf L (cy r c)) ((rowOf L (cy r c)).idxOf (cy r (c + (r.length - 1)))) L.length) [cy r c]∧
  Pl L r c c [c] (both (dJ L) (cy r c) (L.length:Int) (put (rowOf L (cy r c)) ((rowOf L (cy r c)).idxOf (cy r (c + (r.length - 1)))) L.length) [cy r c]):=by
 have two:=g.two
 obtain ⟨z1,x0,x1,ed⟩:=eD g s.map (c:=c)
 generalize hx:cy r c = x at z1 x0 x1 ed ⊢
 generalize hz:cy r (c + (r.length - 1)) = z at z1 ed ⊢
 have nn:=pZ s.map x0 x1
 have lx:rowOf (dJ L) x = rowOf L x:=by rw [de x0,if_pos x1]
 have ln:rowOf (dJ L) (L.length:Int) = []:=by rw [de (by omega),if_neg (by omega)]
 have F:bE (dJ L) x (L.length:Int) (put (rowOf L x) ((rowOf L x).idxOf z) L.length) [x]:=
  ⟨om s.map,x0,by rw [fG]; omega,by omega,by rw [fG]; omega,by omega,by rw [lx]; exact nn,by rw [lx]; exact d8 _ _ _,by rw [ln],by rw [lx]; exact fV nn,by rw [ln]; simp⟩
 refine ⟨F,?_⟩
 generalize hM:both (dJ L) x (L.length:Int) (put (rowOf L x) ((rowOf L x).idxOf z) L.length) [x] = M at F ⊢
 have FM:aI M:=hM▸F.jL
 have Fd:Dt M (x,(L.length:Int)):=hM▸F.dt
 have Fr:rem M x (L.length:Int) = dJ L:=hM▸F.rem
 have nE:∀ {y:Int},0≤y→rowOf M y = if y = (L.length:Int) then [x] else if y = x then put (rowOf L x) ((rowOf L x).idxOf z) L.length else rowOf (dJ L) y:=fun h=>hM▸F.row h
 have Ml:M.length = L.length + 1:=by rw [← hM,cP,fG]
 have xn:x≠(L.length:Int):=by omega
 have sub:∀ d,Dt L d→Dt M d:=fun d hd=>hM▸F.sub d (eV.mpr hd)
 have f1:nx M (z,x) = (x,(L.length:Int)):=by unfold nx; dsimp only; rw [nE x0,if_neg xn,if_pos rfl,iY z1 nn]
 have f2:nx M (x,(L.length:Int)) = ((L.length:Int),x):=by
  unfold nx; dsimp only; rw [nE (by omega),if_pos rfl]
  refine Prod.ext rfl ?_
  show pre [x] x = x
  unfold pre cy
  simp [Nat.mod_one]
 have AE:Dt L (z,x):=by
  obtain ⟨c0,c1,c2,c3⟩:=Dt.back (d:=(x,z)) ⟨x0,x1,z1⟩ s.map
  exact ⟨c0,c1,c3⟩
 have Ee:∀ d,Dt L d→d≠(z,x)→nx M d = nx L d:=fun d hd hJ=>by
  have h0:=js FM Fd (d:=d) (by rw [Fr]; exact eV.mpr hd)
  rw [Fr,mP s.map hd] at h0
  have dm:=sub d hd
  have n1:nx M d≠((L.length:Int),x):=fun w=>by
   have:=dX FM dm Fd (w.trans f2.symm)
   rw [this] at hd
   exact pZ s.map x0 x1 hd.mem
  have n2:nx M d≠(x,(L.length:Int)):=fun w=>hJ (dX FM dm (sub _ AE) (w.trans f1.symm))
  rw [if_neg n1,if_neg n2] at h0
  exact h0.symm
 have GL:nx M ((L.length:Int),x) = nx L (z,x):=by
  have h0:=js FM Fd (d:=(z,x)) (by rw [Fr]; exact eV.mpr AE)
  rw [Fr,mP s.map AE,f1,if_neg (fun w=>xn (congrArg Prod.fst w)),if_pos rfl] at h0
  exact h0.symm
 obtain ⟨R,D,ch⟩:=s.ES
 obtain ⟨R',D'⟩:=jW FM
 obtain ⟨l1,l2⟩:=vb (R:=R) (z1:=z) FM Fd f2 f1 (by rw [Fr]; exact eV.mpr AE) (by rw [Fr]; exact va s.map D) D'
 rw [Fr,u7] at l2
 have Iv:(dq M M.length).length = (dq L L.length).length + 1:=by
  have h1:=(nQ FM Fd).2
  rw [Fr,u9 s.map] at h1
  have h2:=fN FM
  have h3:=fN s.map
  omega
 have kg:cG M:=by
  refine ⟨FM,by have:=s.two; omega,fun y y0 y1=>?_,R',D',?_⟩
  ·by_cases e:y < L.length
   ·obtain ⟨t,ht,q⟩:=s.span y y0 e
    exact ⟨t,ht,q.mono sub⟩
   ·have ey:y = (L.length:Int):=by rw [Ml] at y1; omega
    obtain ⟨t,ht,q⟩:=s.span x x0 x1
    rw [ey]
    exact ⟨t,ht,Reach.one (d:=(x,(L.length:Int))) (q.mono sub) Fd⟩
  ·rw [Iv,Ml,l1]
   omega
 have Ir:dj r (c + (r.length - 1)) = (z,x):=ed
 refine ⟨kg,Ml,by rw [nE (by omega),if_pos rfl,List.map_singleton,hx],⟨[],rfl⟩,fun y y0 y1 hy=>?_,sub,Nat.le_refl _,hc,fun i OZ KY=>?_,?_,?_,?_⟩
 ·have:cy r c≠y:=hy c (by simp)
  rw [hx] at this
  rw [nE y0,if_neg (by omega),if_neg (fun w=>this w.symm),de y0,if_pos y1]
 ·rw [Ee _ (g.dt i) (by rw [← Ir]; exact vB nd (by omega) (by omega)),g.st]
 ·rw [Ir,f1,hx]
 ·rw [hx,f2]
 ·rw [hx,GL,← Ir,g.st]
  exact jY (by rw [show c + (r.length - 1) + 1 = c + r.length by omega,Nat.add_mod_right])
theorem Pl.next {M:List (List Int)} {c1 cj c:Nat} {dn:List Nat} (s:cG L) (g:Good L r) (nd:(Gm.sh 0 r).Nodup) (p:Pl L r c1 cj dn M) (hc:cj < c) (Ez:c < r.length) (un:∀ e∈dn,cy r e≠cy r c) :
  bE M (cy r c) (L.length:Int) (put (rowOf L (cy r c)) ((rowOf L (cy r c)).idxOf (cy r (c + (r.length - 1)))) L.length) (rowOf M (L.length:Int) ++ [cy r c])∧
  Pl L r c1 c (dn ++ [c]) (both M (cy r c) (L.length:Int) (put (rowOf L (cy r c)) ((rowOf L (cy r c)).idxOf (cy r (c + (r.length - 1)))) L.length) (rowOf M (L.length:Int) ++ [cy r c])):=by
 have two:=g.two
 have le:=p.le
 obtain ⟨z1,x0,x1,ed⟩:=eD g s.map (c:=c)
 have rx:=p.keep (cy r c) x0 x1 un
 have Bu:cy r c∉rowOf M (L.length:Int):=by
  rw [p.new]
  intro w
  obtain ⟨e,he,h⟩:=List.mem_map.mp w
  exact un e he h
 have Cm:=p.new
 generalize hx:cy r c = x at z1 x0 x1 ed rx Bu ⊢
 generalize hz:cy r (c + (r.length - 1)) = z at z1 ed ⊢
 have nn:=pZ s.map x0 x1
 have F:bE M x (L.length:Int) (put (rowOf L x) ((rowOf L x).idxOf z) L.length) (rowOf M (L.length:Int) ++ [x]):=
  ⟨p.sh.map,x0,by rw [p.len]; omega,by omega,by rw [p.len]; omega,by omega,by rw [rx]; exact nn,by rw [rx]; exact d8 _ _ _,List.perm_append_singleton _ _,by rw [rx]; exact fV nn,ph Bu⟩
 refine ⟨F,?_⟩
 obtain ⟨rest,hd⟩:=p.hd
 have zf:rowOf M (L.length:Int) = cy r c1 :: rest.map (cy r):=by rw [Cm,hd]; rfl
 have e1:dj r (c - 1) = (z,x):=by
  rw [← ed]
  exact (jY (by rw [show c + (r.length - 1) = (c - 1) + r.length by omega,Nat.add_mod_right])).symm
 have AE:Dt L (z,x):=e1▸g.dt (c - 1)
 have dyn:Dt M (cy r c1,(L.length:Int)):=by
  have:=Dt.back (d:=((L.length:Int),cy r c1)) ⟨by simp,by rw [p.len]; simp; omega,by rw [zf]; exact List.mem_cons_self⟩ p.sh.map
  exact ⟨this.1,this.2.1,this.2.2.2⟩
 have Lg:pre (put (rowOf L x) ((rowOf L x).idxOf z) L.length) z = (L.length:Int):=iY z1 nn
 have Lf:pre (rowOf M (L.length:Int) ++ [x]) (cy r c1) = x:=by rw [zf]; exact uJ
 have conn:∀ P:ay→Prop,P (z,x)→(∀ d,Dt M d→P d→P (nx M d))→P (cy r c1,(L.length:Int)):=fun P h0 hs=>by
  have go:∀ k,c - 1 + k≤c1 + (r.length - 1)→P (dj r (c - 1 + k)):=by
   intro k
   induction k with
   | zero=>intro _; rw [Nat.add_zero,e1]; exact h0
   | succ k ih=>
    intro hk
    have:=hs _ (p.sub _ (g.dt (c - 1 + k))) (ih (by omega))
    rw [p.i1 (c - 1 + k) (by omega) (by omega)] at this
    exact this
  have:=go (c1 + (r.length - 1) - (c - 1)) (by omega)
  rw [show c - 1 + (c1 + (r.length - 1) - (c - 1)) = c1 + (r.length - 1) by omega] at this
  have:=hs _ (p.sub _ (g.dt _)) this
  rw [p.i2] at this
  exact this
 have kg:=F.yg p.sh (z1:=z) (z2:=cy r c1) (by rw [rx]; exact z1) (by rw [zf]; exact List.mem_cons_self) Lg Lf conn
 generalize hM:both M x (L.length:Int) (put (rowOf L x) ((rowOf L x).idxOf z) L.length) (rowOf M (L.length:Int) ++ [x]) = N at F kg ⊢
 have FM:aI N:=hM▸F.jL
 have Fd:Dt N (x,(L.length:Int)):=hM▸F.dt
 have Fr:rem N x (L.length:Int) = M:=hM▸F.rem
 have nE:∀ {y:Int},0≤y→rowOf N y = if y = (L.length:Int) then rowOf M (L.length:Int) ++ [x] else if y = x then put (rowOf L x) ((rowOf L x).idxOf z) L.length else rowOf M y:=fun h=>hM▸F.row h
 have Nl:N.length = L.length + 1:=by rw [← hM,cP,p.len]
 have xn:x≠(L.length:Int):=by omega
 have wu:∀ d,Dt M d→Dt N d:=fun d hd=>hM▸F.sub d hd
 have f1:nx N (z,x) = (x,(L.length:Int)):=by unfold nx; dsimp only; rw [nE x0,if_neg xn,if_pos rfl,Lg]
 have f2:nx N (cy r c1,(L.length:Int)) = ((L.length:Int),x):=by unfold nx; dsimp only; rw [nE (by omega),if_pos rfl,Lf]
 have Ee:∀ d,Dt M d→d≠(z,x)→d≠(cy r c1,(L.length:Int))→nx N d = nx M d:=fun d hd hJ HG=>by
  have h0:=js FM Fd (d:=d) (by rw [Fr]; exact hd)
  rw [Fr] at h0
  have dm:=wu d hd
  have n1:nx N d≠((L.length:Int),x):=fun w=>HG (dX FM dm (wu _ dyn) (w.trans f2.symm))
  have n2:nx N d≠(x,(L.length:Int)):=fun w=>hJ (dX FM dm (wu _ (p.sub _ AE)) (w.trans f1.symm))
  rw [if_neg n1,if_neg n2] at h0
  exact h0.symm
 have GL:nx N ((L.length:Int),x) = nx M (z,x):=by
  have h0:=js FM Fd (d:=(z,x)) (by rw [Fr]; exact p.sub _ AE)
  rw [Fr,f1,if_neg (fun w=>xn (congrArg Prod.fst w)),if_pos rfl] at h0
  exact h0.symm
 have Kx:∀ i,dj r i≠(cy r c1,(L.length:Int)):=fun i w=>by
  have d:=g.dt i
  have:=(d.back s.map).2.1
  rw [w] at this
  simp at this
 refine ⟨kg,Nl,?_,⟨rest ++ [c],by rw [hd]; rfl⟩,fun y y0 y1 hy=>?_,fun d hd=>wu d (p.sub d hd),by omega,Ez,fun i OZ KY=>?_,?_,?_,?_⟩
 ·rw [nE (by omega),if_pos rfl,Cm,List.map_append,List.map_singleton,hx]
 ·have h1:cy r c≠y:=hy c (by simp)
  rw [hx] at h1
  rw [nE y0,if_neg (by omega),if_neg (fun w=>h1 w.symm)]
  exact p.keep y y0 y1 fun e he=>hy e (List.mem_append_left _ he)
 ·rw [Ee _ (p.sub _ (g.dt i)) (by rw [← e1]; exact (vB nd (by omega) (by omega)).symm) (Kx i)]
  exact p.i1 i (by omega) KY
 ·rw [Ee _ (p.sub _ (g.dt _)) (by rw [← e1]; exact (vB nd (by omega) (by omega)).symm) (Kx _)]
  exact p.i2
 ·rw [f2,hx]
 ·rw [hx,GL,← e1,p.i1 (c - 1) (by omega) (by omega)]
  rw [show c - 1 + 1 = c by omega]
end
end Gm
end
section
namespace L2
open PySem PySem.Spec PySem.W PySem.Calls PyProof.Rows
theorem AO:bootBuiltins "set" = some (.type "set"):=by decide +kernel
end L2
namespace Gm
open PySem L2
theorem iV {H:Hp} {c b:Addr} {o:HO} {as:List Addr} (hc:c∈as) (hb:b∉as):upd H c o b = H b:=ak (fun z=>hb (by rw [z]; exact hc))
theorem aj.off {H H1 H2:Hp} {as:List Addr} (e:aj H H1) (fr:∀ b∈as,H b = none) (o:∀ b u,b∉as→H1 b = some u→H2 b = some u):aj H H2:=fun b u h=>o b u (fun z=>by rw [fr b z] at h; cases h) (e b u h)
theorem cG.pos {L:List (List Int)} {R:List (List ay)} (s:cG L) (D:Dec L R):0 < R.length:=by
 refine Nat.pos_of_ne_zero fun z=>?_
 have R0:R = []:=List.length_eq_zero_iff.mp z
 subst R0
 have two:=s.two
 have i0:=s.Cu
 unfold iso at i0
 have:=List.countP_eq_zero.mp i0 L[0] (List.getElem_mem (by omega))
 cases q:L[0] with
 | nil=>rw [q] at this; exact this rfl
 | cons x r=>
  have d:=Reach.AG (L:=L) (i:=0) (List.getElem?_eq_getElem (by omega)) (by rw [q]; exact List.mem_cons_self)
  have:=(D.mem _).mpr d
  cases this
theorem PR.at {H:Hp}:∀ {ps:List Addr} {T:List (Int×Int)},PR H ps T→∀ {i:Nat} {a:Addr},ps[i]? = some a→∃ x:Int×Int,T[i]? = some x∧H a = some (.tup [.int x.1,.int x.2])
 | _,_,.nil,_,_,e=>by simp at e
 | _,_,.cons r t,0,_,e=>by simp at e; subst e; exact ⟨_,rfl,r⟩
 | _,_,.cons r t,i + 1,_,e=>by
  obtain ⟨x,h1,h2⟩:=PR.at t (i:=i) (by simpa using e)
  exact ⟨x,by simpa using h1,h2⟩
theorem rC {L:List (List Int)} {d:ay} (k:Nat):it L (nx L d) k = it L d (k + 1):=by
 rw [Nat.add_comm,mR]; rfl
theorem tW {L:List (List Int)} {x y:ay} {l:List ay} (h:Wk (nx L) x l y):l = tr L x l.length∧y = it L x l.length:=by
 induction h with
 | nil x=>exact ⟨rfl,rfl⟩
 | @cons x y l _ ih=>
  obtain ⟨h1,h2⟩:=ih
  refine ⟨?_,by rw [List.length_cons,← rC]; exact h2⟩
  rw [List.length_cons]
  unfold tr
  rw [List.range_succ_eq_map,List.map_cons,List.map_map]
  show x :: l = x :: _
  congr 1
  refine h1.trans ?_
  unfold tr
  refine List.map_congr_left fun j _=>?_
  exact rC j
theorem wA {L:List (List Int)} {d:ay} {k:Nat} (hk:0 < k) (e:it L d k = d):sh 0 (bg L d k) = tr L d k:=by
 have hl:(bg L d k).length = k:=by unfold bg; simp
 unfold sh tr
 rw [hl]
 exact List.map_congr_left fun j _=>by rw [i6 hk e,Nat.add_zero]
theorem Dec.good {L:List (List Int)} {R:List (List ay)} (m:aI L) (D:Dec L R) {c:List ay} (hc:c∈R):Good L (c.map (·.1))∧sh 0 (c.map (·.1)) = c∧c.Nodup:=by
 obtain ⟨x,l,e,k⟩:=D.ka c hc
 obtain ⟨h1,h2⟩:=tW k
 have k0:0 < c.length:=by rw [e]; simp
 have dx:Dt L x:=(D.mem x).mp (List.mem_flatten.mpr ⟨c,hc,by rw [e]; exact List.mem_cons_self⟩)
 have er:c.map (·.1) = bg L x c.length:=by
  conv=>lhs; rw [h1]
  unfold bg tr
  rw [List.map_map]; rfl
 have hn:c.Nodup:=(List.pairwise_flatten.mp D.nd).1 c hc
 rw [er]
 exact ⟨sD m dx k0 h2.symm,(wA k0 h2.symm).trans h1.symm,hn⟩
theorem Good.on {L:List (List Int)} {r:List Int} (g:Good L r) {P:ay→Prop} (hs:∀ d,Dt L d→P d→P (nx L d)) {i:Nat} (h:P (dj r i)) (j:Nat):P (dj r j):=by
 have two:=g.two
 have go:∀ k,P (dj r (i + k)):=by
  intro k
  induction k with
  | zero=>exact h
  | succ k ih=>have:=hs _ (g.dt _) ih; rw [g.st] at this; exact this
 have:=go (j + i * r.length - i)
 have e:i≤i * r.length:=Nat.le_mul_of_pos_right i (by omega)
 rw [show i + (j + i * r.length - i) = j + i * r.length by omega] at this
 rw [jY (i:=j + i * r.length) (j:=j) (by rw [Nat.add_mul_mod_self_right])] at this
 exact this
theorem qo:cG [[1],[0]]:=by
 have m:aI [[1],[0]]:=by
  refine gZ fun x x0 x1=>?_
  have x1:x < 2:=x1
  have:x = 0∨x = 1:=by omega
  rcases this with rfl | rfl
  ·refine ⟨by decide,fun y hy=>?_⟩
   have:y = 1:=List.mem_singleton.mp hy
   subst this
   decide
  ·refine ⟨by decide,fun y hy=>?_⟩
   have:y = 0:=List.mem_singleton.mp hy
   subst this
   decide
 have dd:fe [[1],[0]] 2 = [((0:Int),(1:Int)),(1,0)]:=rfl
 refine ⟨m,by decide,fun x x0 x1=>?_,[[(0,1),(1,0)]],⟨fun c hc=>?_,by decide,fun d=>?_⟩,by decide⟩
 ·have x1:x < 2:=x1
  have:x = 0∨x = 1:=by omega
  rcases this with rfl | rfl
  ·exact ⟨0,by simp,.here⟩
  ·exact ⟨0,by simp,Reach.one (d:=(0,1)) .here (Dt.of (by show _∈fe [[1],[0]] 2; rw [dd]; simp))⟩
 ·rw [List.mem_singleton.mp hc]
  exact ⟨(0,1),[(1,0)],rfl,.cons (.cons (.nil _))⟩
 ·have e:d∈fe [[1],[0]] 2↔Dt [[1],[0]] d:=⟨fun h=>Dt.of h,fun h=>h.all⟩
  rw [← e,dd]
  simp
theorem kK {M:List (List Int)} {x:Int} {n:Nat} {A B:List Int} (hn:M.length = n + 1) (x1:x.toNat < n):(both M x (n:Int) A B).take n = (M.take n).set x.toNat A:=by
 unfold both
 rw [Int.toNat_natCast]
 apply List.ext_getElem?
 intro i
 rw [List.getElem?_take]
 by_cases h:i < n
 ·rw [if_pos h,List.getElem?_set_ne (by omega)]
  by_cases e:i = x.toNat
  ·subst e
   rw [List.getElem?_set,if_pos rfl,if_pos (by omega),List.getElem?_set,if_pos rfl,if_pos (by rw [List.length_take]; omega)]
  ·rw [List.getElem?_set_ne (fun w=>e w.symm),List.getElem?_set_ne (fun w=>e w.symm),List.getElem?_take,if_pos h]
 ·rw [if_neg h,List.getElem?_eq_none (by rw [List.length_set,List.length_take]; omega)]
theorem su {M:List (List Int)} {n:Nat} (hn:M.length = n + 1):M.take n ++ [rowOf M (n:Int)] = M:=by
 have h:=aE (L:=M) (a:=(n:Int)) (by omega) (by omega)
 rw [Int.toNat_natCast] at h
 rw [← take_snoc h,List.take_of_length_le (by omega)]
end Gm
end
section
namespace L2
open PySem PySem.Spec PySem.W PySem.Calls PyProof.Rows
def QK (K:Frag) (a b:Addr):It:=
 ⟨fun i H=>∃ xs ys x y,aG K H a xs∧aG K H b ys∧xs[i]? = some x∧ys[i]? = some y,
  fun i H v H'=>∃ p x y,H p = none∧v = .ref p∧(∀ xs,aG K H a xs→xs[i]? = some x)∧(∀ ys,aG K H b ys→ys[i]? = some y)∧H' = upd H p (.tup [x,y]),
  fun i H=>∃ xs ys,aG K H a xs∧aG K H b ys∧(xs.length≤i∨ys.length≤i)⟩
def Ob (K:Frag) (ta:TA):TI:=fun σ H R=>ta σ H fun vs H1=>∃ a b,vs = [.ref a,.ref b]∧(∃ xs,aG K H1 a xs)∧(∃ ys,aG K H1 b ys)∧R (QK K a b) H1
end L2
end
section
namespace Gm
open PySem L2
def sd (a b:List Int):Prop:=a = b∨∃ c,c < b.length∧a = DT b c
end Gm
namespace L2
open PySem PySem.Spec PySem.W PySem.Calls PyProof.Rows
theorem vH:bootBuiltins "max" = some (.builtin "max"):=by decide +kernel
end L2
namespace Gm
open PySem L2
def Jy (L M:List (List Int)):Prop:=L.length = M.length∧∀ (i:Nat) (l m:List Int),L[i]? = some l→M[i]? = some m→sd l m
end Gm
end
section
namespace Gm
open PySem L2
end Gm
end
section
namespace PySem
abbrev Ju (h:Heap) (z TI TO a:Addr) (f:Bool):Prop:=
 h.get? z = some { cls:=.type "zip",dict:=none,data:=.fields #[rawInt a,.bool f,.bool false,.ref TI,.ref TO],slots:=#[] }
structure LG (h:Heap) (z TI TO i1 i2 l1 l2 S:Addr) (i:Nat):Prop where
 own:(i = 0∧IsZip h z TI TO .none∧∃ a b,IsPair h TO a b)∨∃ a f oa,Ju h z TI TO a f∧h.get? a = some oa∧a∉[z,i1,i2,S]
 it:IsPair h TI (.ref i1) (.ref i2)
 one:h.IsListIter i1 l1 i
 two:h.IsListIter i2 l2 i
structure Qy (xs ys:Array Value) (lo:Addr) (h:Heap) (as:List Addr):Prop where
 rise:as.Pairwise (· < ·)
 above:∀ a∈as,lo≤a
 pairs:∀ (j:Nat) (a:Addr),as[j]? = some a→∃ x y,xs[j]? = some x∧ys[j]? = some y∧IsPair h a x y
namespace F
end F
end PySem
end
section
namespace L2
open PySem PySem.Spec PySem.W PySem.Calls PyProof.Rows
def G0:List Addr→List (V×V)→Hp→Hp
 | a :: as,p :: ps,H=>upd (G0 as ps H) a (.tup [p.1,p.2])
 | _,_,H=>H
def BG (K:Frag) (ta:TA):TE:=fun σ H Q=>ta σ H fun vs H1=>∃ a b xs ys,vs = [.ref a,.ref b]∧aG K H1 a xs∧aG K H1 b ys∧xs.length = ys.length∧
 ∀ (l:Addr) (as:List Addr) (H2:Hp),aj H1 H2→H1 l = none→H2 l = some (.lst (as.map V.ref))→as.length = xs.length→
  (∀ (j:Nat) (a:Addr),as[j]? = some a→H1 a = none∧a≠l∧∃ x y,xs[j]? = some x∧ys[j]? = some y∧H2 a = some (.tup [x,y]))→Q (.ref l) H2
end L2
end
section
namespace Gm
open PySem L2
end Gm
end
section
namespace L2
open PySem PySem.Spec PySem.W PySem.Calls PyProof.Rows
section
variable {X:Cx}
def DV (K:Frag):R2:=fun x y H Q=>∃ (p l:Addr) (d:Int×Int) (ps:List Addr) (T:List (Int×Int)),x = .ref p∧y = .ref l∧H p = some (.tup [.int d.1,.int d.2])∧H l = some (.lst (ps.map V.ref))∧Gm.PR H ps T∧Q (.bl (!decide (d∈T))) H
end
end L2
namespace Gm
open PySem L2
end Gm
end
section
namespace Gm
open PySem L2
section
variable {K:PySem.W.Frag} {σ : St} {H:Hp} {Q:VK}
theorem vE {te:TE} {i:Nat} {p:Addr} {as:List Addr} {L:List (List Int)}
  (Om:∀ (σ':St) (H':Hp) (b:Addr) (l:List Int) (Q':VK),σ'[0]? = some (some (.ref b))→H' b = some (.lst (l.map V.int))→(∀ c,H' c = none→Q' (.ref c) (upd H' c (.lst (l.map V.int))))→te σ' H' Q')
  (hv : σ[i]? = some (some (.ref p))) (gp:aV H p as L) (hn:L.length≤1000)
  (q:∀ acc cs H',aj H H'→aV H' acc cs L→(acc :: cs).Nodup→(∀ b∈acc :: cs,H b = none)→Q (.ref acc) H'):kL (rJ K (jg i)) (lA 0) qy te 1 [] σ H Q:=by
 refine eN ?_
 refine ⟨_,hv,p,rfl,⟨_,aG.of gp.top⟩,fun acc bR=>?_⟩
 refine cU (K:=K) (a:=p) (xs:=as.map V.ref) (fun i σ' ys Hx=>∃ (bs:List Addr) (v:Option V),σ' = [v]∧ys = bs.map V.ref∧aj H Hx∧bs.length = i∧aV Hx acc bs (L.take i)∧(acc :: bs).Nodup∧∀ b∈acc :: bs,H b = none)
  ⟨[],none,rfl,rfl,aj.upd bR,rfl,⟨ae,rfl,fun i a l z=>by simp at z⟩,by simp,by simpa using bR⟩ (fun i σ' ys Hx _ ⟨_,_,_,_,e,_⟩=>aG.of (e _ _ gp.top)) ?_ ?_
 ·rintro i x σ' ys Hx hx hi ⟨bs,v,rfl,rfl,e2,rfl,g2,Co,Bo⟩
  obtain ⟨b,l,ha,hl,dM⟩:=gp.at (i:=bs.length) (by rw [List.length_map,gp.len] at hi; exact hi)
  obtain rfl:x = V.ref b:=by
   rw [List.getElem?_map,ha] at hx
   exact (Option.some.inj hx).symm
  have HP:=hi
  rw [List.length_map,gp.len] at HP
  refine r_gname ?_
  refine mw ?_
  refine Em (Om _ _ b l _ rfl (e2 _ _ dM) fun c hc=>?_)
  have nc:=g2.kW hc
  have e3:aj Hx (upd Hx c (.lst (l.map V.int))):=aj.upd hc
  have c3:upd Hx c (.lst (l.map V.int)) c = some (.lst (l.map V.int)):=ae
  have cH:H c = none:=e2.free hc
  generalize upd Hx c (.lst (l.map V.int)) = Hy at e3 c3 ⊢
  have g3:=g2.same e3
  have Kn:c≠acc:=fun z=>nc (z▸List.mem_cons_self)
  refine ⟨g3.top,by rw [List.length_map]; exact az (by omega),dH hi ⟨bs ++ [c],_,rfl,by simp,aj.fresh (e2.trans e3) (Bo _ List.mem_cons_self),by simp,?_,?_,fun y hy=>?_⟩⟩
  ·rw [take_snoc hl]; exact g3.snoc (List.nodup_cons.mp Co).1 Kn c3
  ·obtain ⟨n1,n2⟩:=List.nodup_cons.mp Co
   refine List.nodup_cons.mpr ⟨fun z=>?_,jo.mpr ⟨fun z=>nc (List.mem_cons_of_mem _ z),n2⟩⟩
   rcases List.mem_append.mp z with z | z
   ·exact n1 z
   ·exact Kn (List.mem_singleton.mp z).symm
  ·rcases List.mem_cons.mp hy with z | z
   ·rw [z]; exact Bo _ List.mem_cons_self
   ·rcases List.mem_append.mp z with z | z
    ·exact Bo y (List.mem_cons_of_mem _ z)
    ·rw [List.mem_singleton.mp z]; exact cH
 ·rintro σ' ys H4 ⟨cs,v,rfl,rfl,e4,RT,g4,NL,Pz⟩
  rw [List.length_map,gp.len,List.take_length] at g4
  exact q acc cs H4 e4 g4 NL Pz
theorem qV {i:Nat} {p:Addr} {as:List Addr} {L:List (List Int)} (hv : σ[i]? = some (some (.ref p))) (gp:aV H p as L) (hn:L.length≤1000)
  (q:∀ acc cs H',aj H H'→aV H' acc cs L→(acc :: cs).Nodup→(∀ b∈acc :: cs,H b = none)→Q (.ref acc) H') :
  kL (rJ K (jg i)) (lA 0) qy (DO (fun xs H Q=>∃ p ys,xs = [V.ref p]∧(aG K H p ys∨SqT K H p ys)∧∀ (l:Addr),H l = none→Q (V.ref l) (upd H l (HO.lst ys))) (ug (jg 0) y4)) 1 [] σ H Q:=
 vE (fun σ' H' b l Q' h1 h2 h3=>⟨_,h1,b,_,rfl,.inl (aG.of h2),h3⟩) hv gp hn q
end
end Gm
end
section
namespace L2
open PySem PySem.Spec PySem.W PySem.Calls PyProof.Rows
section
variable {X:Cx}
def MT (K:Frag):List V→Hp→VK→Prop:=fun vs H Q=>∃ (a:Addr) (bs:List Bool),vs = [.ref a]∧aG K H a (bs.map V.bl)∧Q (.bl (bs.all id)) H
end
end L2
end
section
namespace Gm
open PySem L2
def kN (ks:List (ay×Int)):List (List Key×V):=ks.map fun p=>(iu p.1,V.int p.2)
def lk (s:List Int→Nat) (R:List (List Int)):Nat→List (ay×Int)
 | 0=>[]
 | k + 1=>lk s R k ++ (sh (s (R.getD k [])) (R.getD k [])).map fun d=>(d,(k:Int))
def lo (R:List (List Int)) (d:ay):Int:=(R.findIdx fun r=>decide (d∈sh 0 r):Nat)
def Rp (R:List (List Int)) (s:Nat) (r:List Int):List Int:=(sh s r).map fun d=>lo R (d.2,d.1)
def QT (D:List (List Int)):Prop:=∀ (k:Nat) (l:List Int),D[k]? = some l→(k:Int)∉l∧l.Nodup
end Gm
namespace Gm
open PySem L2
end Gm
namespace L2
end L2
namespace Gm
open PySem L2
end Gm
namespace Gm
end Gm
namespace L2
open PySem
end L2
namespace L2
theorem fu {σ : St} {H:Hp} {Q:VK} {td ty:TE} (h:td σ H fun x H1=>ty σ H1 fun y H2=>∃ a v,x = .ref a∧cW H2 a y (some v)∧Q v H2):uf td ty σ H Q:=h
end L2
end
section
namespace Gm
open PySem L2
inductive oV (L:List (List Int)) (S:List Int) (s:Int):Int→Prop where
 | here:oV L S s s
 | step {i:Nat} {l:List Int} {x:Int}:oV L S s i→L[i]? = some l→x∈l→x∉S→oV L S s x
theorem oV.rg {L:List (List Int)} {S:List Int} {s x:Int} (h:oV L S s x) (m:aI L) (hs:0≤s∧s < L.length):0≤x∧x < L.length:=by
 cases h with
 | here=>exact hs
 | step _ e hx _=>
  have:=m.rg _ _ e x hx
  exact ⟨this.1,this.2.1⟩
structure JB (L:List (List Int)) (S:List Int) (s:Int) (ks ws:List Int):Prop where
 nd:ks.Nodup
 nw:ws.Nodup
 st:s∈ks
 re:∀ x∈ks,oV L S s x
 sub:∀ x∈ws,x∈ks
 cl:∀ (i:Nat) (l:List Int),(i:Int)∈ks→(i:Int)∉ws→L[i]? = some l→∀ x∈l,x∉S→x∈ks
structure Sk (L:List (List Int)) (S:List Int) (s:Int) (ks ws:List Int) (pl:Nat) (l:List Int) (k:Nat):Prop where
 nd:ks.Nodup
 nw:ws.Nodup
 st:s∈ks
 re:∀ x∈ks,oV L S s x
 sub:∀ x∈ws,x∈ks
 pk:(pl:Int)∈ks
 cl:∀ (i:Nat) (m:List Int),(i:Int)∈ks→(i:Int)∉ws→i≠pl→L[i]? = some m→∀ x∈m,x∉S→x∈ks
 tk:∀ x∈l.take k,x∉S→x∈ks
section
variable {L:List (List Int)} {S:List Int} {s:Int} {ks ws:List Int} {pl k:Nat} {l:List Int} {x:Int}
theorem JB.len (m:aI L) (hs:0≤s∧s < L.length) {ks:List Int} (nd:ks.Nodup) (re:∀ x∈ks,oV L S s x):ks.length≤L.length:=cn nd fun x hx=>(re x hx).rg m hs
end
def Ba (L:List (List Int)) (S fs:List Int):Prop:=∀ (i:Nat) (l:List Int),L[i]? = some l→(i:Int)∉S→(∃ x,x∈l∧x∈fs)→(i:Int)∈fs
structure wc (L:List (List Int)) (S:List Int) (s:Int) (fs:List Int) (k:Nat):Prop where
 nd:fs.Nodup
 st:s∈fs
 re:∀ x∈fs,oV L S s x
 gr:Ba L S fs∨k + 1≤fs.length
structure wb (L:List (List Int)) (S:List Int) (s:Int) (m5 fs:List Int) (j:Nat):Prop where
 nd:fs.Nodup
 st:s∈fs
 re:∀ x∈fs,oV L S s x
 kp:Ba L S m5→fs = m5
 gr:m5.length < fs.length∨(fs = m5∧∀ (i:Nat) (l:List Int),i < j→L[i]? = some l→(i:Int)∉S→(∃ x,x∈l∧x∈fs)→(i:Int)∈fs)
section
variable {L:List (List Int)} {S:List Int} {s:Int} {m5 fs:List Int} {j k:Nat} {l:List Int}
theorem wc.start:wc L S s [s] 0:=⟨by simp,by simp,fun x h=>by rw [List.mem_singleton.mp h]; exact .here,.inr (by simp)⟩
theorem wc.pass (h:wc L S s fs k):wb L S s fs fs 0:=⟨h.nd,h.st,h.re,fun _=>rfl,.inr ⟨rfl,fun i l h=>by omega⟩⟩
theorem wb.done (h:wb L S s m5 fs L.length) (h0:wc L S s m5 k):wc L S s fs (k + 1):=by
 refine ⟨h.nd,h.st,h.re,?_⟩
 rcases h.gr with z | ⟨rfl,z⟩
 ·rcases h0.gr with c | c
  ·rw [h.kp c]; exact .inl c
  ·exact .inr (by omega)
 ·exact .inl fun i l e=>z i l (List.getElem?_eq_some_iff.mp e).1 e
theorem wb.add (h:wb L S s m5 fs j) (m:aI L) (hl:L[j]? = some l) (n:(j:Int)∉fs) (nS:(j:Int)∉S) {x:Int} (hx:x∈l) (hf:x∈fs):wb L S s m5 (fs ++ [(j:Int)]) (j + 1):=by
 have hr:=m.rg _ _ hl x hx
 have rj:oV L S s (j:Int):=by
  have KA:x = (x.toNat:Int):=by omega
  obtain ⟨lx,KR⟩:∃ lx,L[x.toNat]? = some lx:=⟨L[x.toNat]'(by omega),by simp⟩
  exact .step (i:=x.toNat) (by rw [← KA]; exact h.re x hf) KR (m.sy _ _ hl x hx _ KA _ KR) nS
 refine ⟨qJ.mpr ⟨n,h.nd⟩,List.mem_append_left _ h.st,fun y hy=>?_,fun c=>?_,.inl ?_⟩
 ·rcases List.mem_append.mp hy with z | z
  ·exact h.re y z
  ·rw [List.mem_singleton.mp z]; exact rj
 ·have e:=h.kp c
  subst e
  exact absurd (c j l hl nS ⟨x,hx,hf⟩) n
 ·rw [List.length_append]
  rcases h.gr with z | ⟨z,_⟩
  ·simp; omega
  ·rw [z]; simp
theorem wb.skip (h:wb L S s m5 fs j) (c:(j:Int)∈fs∨(j:Int)∈S∨∀ l,L[j]? = some l→∀ x∈l,x∉fs):wb L S s m5 fs (j + 1):=by
 refine ⟨h.nd,h.st,h.re,h.kp,?_⟩
 rcases h.gr with z | ⟨z1,z2⟩
 ·exact .inl z
 ·refine .inr ⟨z1,fun i l hi hl hS ⟨x,hx,hf⟩=>?_⟩
  by_cases e:i = j
  ·subst e
   rcases c with c | c | c
   ·exact c
   ·exact absurd c hS
   ·exact absurd hf (c l hl x hx)
  ·exact z2 i l (by omega) hl hS ⟨x,hx,hf⟩
theorem wc.all (h:wc L S s fs L.length) (m:aI L) (hs:0≤s∧s < L.length) (x:Int):x∈fs↔oV L S s x:=by
 have c:Ba L S fs:=by
  rcases h.gr with z | z
  ·exact z
  ·have:=JB.len m hs h.nd h.re
   omega
 refine ⟨h.re x,fun r=>?_⟩
 induction r with
 | here=>exact h.st
 | step r e hx hS ih=>
  rename_i i l y
  have hr:=m.rg _ _ e y hx
  have Kz:y = (y.toNat:Int):=by omega
  obtain ⟨ly,KQ⟩:∃ ly,L[y.toNat]? = some ly:=⟨L[y.toNat]'(by omega),by simp⟩
  rw [Kz] at hS ⊢
  exact c y.toNat ly KQ hS ⟨_,m.sy _ _ e y hx _ Kz _ KQ,ih⟩
end
def o8 (n:Nat):List Int:=(List.range n).map fun i:Nat=>(i:Int)
def left (n:Nat) (S:List Int):List Int:=(o8 n).filter fun x=>!decide (x∈S)
open Classical in
noncomputable def rn (L:List (List Int)) (S:List Int) (s:Int):Nat:=((o8 L.length).filter fun x=>decide (oV L S s x)).length
noncomputable def Ro (L:List (List Int)) (S:List Int):Bool:=match left L.length S with | []=>false | s :: r=>decide (rn L S s < (s :: r).length)
def twos (n one:Nat):List (List Int):=(List.range (n - (one + 1))).map fun j:Nat=>[(one:Int),(one:Int) + 1 + (j:Int)]
def zc (n:Nat):Nat→List (List Int)
 | 0=>[] :: (o8 n).map fun i=>[i]
 | k + 1=>zc n k ++ twos n k
theorem aV.cat {H:Hp} {t c:Addr} {bs cs:List Addr} {R M:List (List Int)} (g:aV H t bs R) (k:aV H c cs M) (nt:t∉bs) (nc:t∉cs):aV (upd H t (.lst (bs.map V.ref ++ cs.map V.ref))) t (bs ++ cs) (R ++ M):=by
 refine ⟨by rw [List.map_append]; exact ae,by rw [List.length_append,List.length_append,g.len,k.len],fun i a l h1 h2=>?_⟩
 rcases Nat.lt_or_ge i bs.length with hi | hi
 ·rw [List.getElem?_append_left hi] at h1
  rw [List.getElem?_append_left (by rw [← g.len]; exact hi)] at h2
  have nb:a≠t:=fun e=>nt (by rw [← e]; exact List.mem_of_getElem? h1)
  rw [ak nb]
  exact g.row i a l h1 h2
 ·rw [List.getElem?_append_right hi] at h1
  rw [List.getElem?_append_right (by rw [← g.len]; exact hi),← g.len] at h2
  have nb:a≠t:=fun e=>nc (by rw [← e]; exact List.mem_of_getElem? h1)
  rw [ak nb]
  exact k.row _ a l h1 h2
end Gm
end
section
namespace Dt
def sm:Nat→(Nat→Int)→Int
 | 0,_=>0
 | n + 1,f=>sm n f + f n
theorem cz {f g:Nat→Int}:∀ {n:Nat},(∀ i,i < n→f i = g i)→sm n f = sm n g
 | 0,_=>rfl
 | n + 1,h=>by
  show sm n f + f n = sm n g + g n
  rw [cz fun i hi=>h i (Nat.lt_succ_of_lt hi),h n (Nat.lt_succ_self n)]
theorem fT {f:Nat→Int}:∀ {n:Nat},(∀ i,i < n→f i = 0)→sm n f = 0
 | 0,_=>rfl
 | n + 1,h=>by
  show sm n f + f n = 0
  rw [fT fun i hi=>h i (Nat.lt_succ_of_lt hi),h n (Nat.lt_succ_self n)]
  rfl
theorem za {f g:Nat→Int} (a b:Int):∀ (n:Nat),sm n (fun i=>a * f i + b * g i) = a * sm n f + b * sm n g
 | 0=>by simp [sm]
 | n + 1=>by
  show sm n (fun i=>a * f i + b * g i) + (a * f n + b * g n) = a * (sm n f + f n) + b * (sm n g + g n)
  rw [za a b n]
  grind
theorem ma {f:Nat→Int} (a:Int):∀ (n:Nat),sm n (fun i=>a * f i) = a * sm n f
 | 0=>by simp [sm]
 | n + 1=>by
  show sm n (fun i=>a * f i) + a * f n = a * (sm n f + f n)
  rw [ma a n]
  grind
theorem jr {f g:Nat→Int}:∀ (n:Nat),sm n (fun i=>f i + g i) = sm n f + sm n g
 | 0=>by simp [sm]
 | n + 1=>by
  show sm n (fun i=>f i + g i) + (f n + g n) = (sm n f + f n) + (sm n g + g n)
  rw [jr n]
  omega
theorem jq {f g:Nat→Int}:∀ (n:Nat),sm n (fun i=>f i - g i) = sm n f - sm n g
 | 0=>by simp [sm]
 | n + 1=>by
  show sm n (fun i=>f i - g i) + (f n - g n) = (sm n f + f n) - (sm n g + g n)
  rw [jq n]
  omega
theorem gj {f:Nat→Int} {k:Nat}:∀ {n:Nat},k < n→(∀ i,i < n→i≠k→f i = 0)→sm n f = f k
 | n + 1,hk,h=>by
  show sm n f + f n = f k
  by_cases e:k = n
  ·subst e
   rw [fT fun i hi=>h i (Nat.lt_succ_of_lt hi) (Nat.ne_of_lt hi)]
   omega
  ·rw [gj (k:=k) (by omega) fun i hi=>h i (Nat.lt_succ_of_lt hi),h n (Nat.lt_succ_self n) (fun z=>e z.symm)]
   omega
theorem qL (f:Nat→Nat→Int) (m:Nat):∀ (n:Nat),sm n (fun i=>sm m (f i)) = sm m fun j=>sm n fun i=>f i j
 | 0=>by rw [show sm 0 (fun i=>sm m (f i)) = 0 from rfl,fT]; intro i _; rfl
 | n + 1=>by
  show sm n (fun i=>sm m (f i)) + sm m (f n) = sm m fun j=>sm n (fun i=>f i j) + f n j
  rw [qL f m n,jr]
def sg:Nat→Int
 | 0=>1
 | n + 1=>- sg n
def sk (j l:Nat):Nat:=if l < j then l else l + 1
abbrev Mx:=Nat→Nat→Int
def mi (A:Mx) (j:Nat):Mx:=fun i l=>A (i + 1) (sk j l)
def det:Nat→Mx→Int
 | 0,_=>1
 | n + 1,A=>sm (n + 1) fun j=>sg j * A 0 j * det n (mi A j)
def cl (A:Mx) (c:Nat) (v:Nat→Int):Mx:=fun i j=>if j = c then v i else A i j
def dn (j c:Nat):Nat:=if c < j then c else c - 1
def un (k i:Nat):Int:=if i = k then 1 else 0
end Dt
end
section
namespace Fw
open Dt (sm)
abbrev af:=Nat×Bool
def bi (b:Bool):Int:=if b then 1 else 0
theorem iF:bi true = 1:=rfl
theorem j2:bi false = 0:=rfl
theorem rV (b:Bool):0≤bi b:=by cases b <;> decide
theorem yO (b:Bool):bi b≤1:=by cases b <;> decide
structure Flow where
 U:Nat→Bool
 F:Nat→Nat→Bool
def Flow.p9 (f:Flow) (n p:Nat):Int:=sm n fun u=>bi (f.F u p)
def Flow.out (f:Flow) (n p:Nat):Int:=sm n fun v=>bi (f.F p v)
def Flow.iG (f:Flow) (n:Nat):af→Int
 | (p,false)=>f.p9 n p - bi (f.U p)
 | (p,true)=>bi (f.U p) - f.out n p
def Res (T:Nat→Nat→Prop) (f:Flow):af→af→Prop
 | (p,false),(q,true)=>(p = q∧f.U p = false)∨f.F q p = true
 | (p,true),(q,false)=>T p q∨(p = q∧f.U p = true)
 | _,_=>False
theorem lZ {n k:Nat} {g h:Nat→Int} (hk:k < n) (e:∀ i,i≠k→g i = h i):sm n g = sm n h + (g k - h k):=by
 have:sm n (fun i=>g i - h i) = g k - h k:=Dt.gj hk fun i _ ne=>by rw [e i ne]; omega
 rw [Dt.jq] at this
 omega
def Flow.push (f:Flow):af→af→Flow
 | (p,false),(q,true)=>if p = q then ⟨fun x=>if x = p then true else f.U x,f.F⟩ else ⟨f.U,fun a b=>if a = q∧b = p then false else f.F a b⟩
 | (p,true),(q,false)=>if p = q then ⟨fun x=>if x = p then false else f.U x,f.F⟩ else ⟨f.U,fun a b=>if a = p∧b = q then true else f.F a b⟩
 | _,_=>f
def dl (d e:af):Int:=if d = e then 1 else 0
theorem Flow.uI {T:Nat→Nat→Prop} {f:Flow} {n:Nat} {d e:af} (tQ:∀ p,¬ T p p) (zO:∀ p,f.F p p = false) (hd:d.1 < n) (he:e.1 < n) (r:Res T f d e) (fwd:∀ p q,d = (p,true)→e = (q,false)→p≠q→f.F p q = false) (x:af) :
  (f.push d e).iG n x = f.iG n x + dl x e - dl x d:=by
 obtain ⟨p,s⟩:=d
 obtain ⟨q,t⟩:=e
 obtain ⟨y,z⟩:=x
 cases s <;> cases t
 ·exact r.elim
 ·-- from (p,0) to (q,1)
  by_cases h:p = q
  ·subst h
   have u0:f.U p = false:=by
    rcases (show (p = p∧f.U p = false)∨f.F p p = true from r) with r | r
    ·exact r.2
    ·rw [zO] at r; cases r
   have e1:f.push (p,false) (p,true) = ⟨fun x=>if x = p then true else f.U x,f.F⟩:=by unfold Flow.push; exact if_pos rfl
   rw [e1]
   cases z
   ·show f.p9 n y - bi (if y = p then true else f.U y) = f.p9 n y - bi (f.U y) + dl (y,false) (p,true) - dl (y,false) (p,false)
    have o1:dl (y,false) (p,true) = 0:=if_neg (by simp)
    rw [o1]
    by_cases hy:y = p
    ·subst hy
     rw [if_pos rfl,u0,iF,j2,show dl (y,false) (y,false) = 1 from if_pos rfl]
     omega
    ·rw [if_neg hy,show dl (y,false) (p,false) = 0 from if_neg (by simp [hy])]
     omega
   ·show bi (if y = p then true else f.U y) - f.out n y = bi (f.U y) - f.out n y + dl (y,true) (p,true) - dl (y,true) (p,false)
    have o1:dl (y,true) (p,false) = 0:=if_neg (by simp)
    rw [o1]
    by_cases hy:y = p
    ·subst hy
     rw [if_pos rfl,u0,iF,j2,show dl (y,true) (y,true) = 1 from if_pos rfl]
     omega
    ·rw [if_neg hy,show dl (y,true) (p,true) = 0 from if_neg (by simp [hy])]
     omega
  ·have f1:f.F q p = true:=by
    rcases (show (p = q∧f.U p = false)∨f.F q p = true from r) with r | r
    ·exact absurd r.1 h
    ·exact r
   have e1:f.push (p,false) (q,true) = ⟨f.U,fun a b=>if a = q∧b = p then false else f.F a b⟩:=by unfold Flow.push; exact if_neg h
   rw [e1]
   cases z
   ·show sm n (fun u=>bi (if u = q∧y = p then false else f.F u y)) - bi (f.U y) = sm n (fun u=>bi (f.F u y)) - bi (f.U y) + dl (y,false) (q,true) - dl (y,false) (p,false)
    rw [show dl (y,false) (q,true) = 0 from if_neg (by simp)]
    by_cases hy:y = p
    ·subst hy
     rw [lZ (g:=fun u=>bi (if u = q∧y = y then false else f.F u y)) (h:=fun u=>bi (f.F u y)) he fun i hi=>by simp [hi]]
     have:bi (if q = q∧y = y then false else f.F q y) = 0:=by simp [bi]
     rw [this,f1,iF,show dl (y,false) (y,false) = 1 from if_pos rfl]
     omega
    ·have:sm n (fun u=>bi (if u = q∧y = p then false else f.F u y)) = sm n (fun u=>bi (f.F u y)):=Dt.cz fun i _=>by rw [if_neg (fun z=>hy z.2)]
     rw [this,show dl (y,false) (p,false) = 0 from if_neg (by simp [hy])]
     omega
   ·show bi (f.U y) - sm n (fun v=>bi (if y = q∧v = p then false else f.F y v)) = bi (f.U y) - sm n (fun v=>bi (f.F y v)) + dl (y,true) (q,true) - dl (y,true) (p,false)
    rw [show dl (y,true) (p,false) = 0 from if_neg (by simp)]
    by_cases hy:y = q
    ·subst hy
     rw [lZ (g:=fun v=>bi (if y = y∧v = p then false else f.F y v)) (h:=fun v=>bi (f.F y v)) hd fun i hi=>by simp [hi]]
     have:bi (if y = y∧p = p then false else f.F y p) = 0:=by simp [bi]
     rw [this,f1,iF,show dl (y,true) (y,true) = 1 from if_pos rfl]
     omega
    ·have:sm n (fun v=>bi (if y = q∧v = p then false else f.F y v)) = sm n (fun v=>bi (f.F y v)):=Dt.cz fun i _=>by rw [if_neg (fun z=>hy z.1)]
     rw [this,show dl (y,true) (q,true) = 0 from if_neg (by simp [hy])]
     omega
 ·-- from (p,1) to (q,0)
  by_cases h:p = q
  ·subst h
   have u1:f.U p = true:=by
    rcases (show T p p∨(p = p∧f.U p = true) from r) with r | r
    ·exact absurd r (tQ p)
    ·exact r.2
   have e1:f.push (p,true) (p,false) = ⟨fun x=>if x = p then false else f.U x,f.F⟩:=by unfold Flow.push; exact if_pos rfl
   rw [e1]
   cases z
   ·show f.p9 n y - bi (if y = p then false else f.U y) = f.p9 n y - bi (f.U y) + dl (y,false) (p,false) - dl (y,false) (p,true)
    rw [show dl (y,false) (p,true) = 0 from if_neg (by simp)]
    by_cases hy:y = p
    ·subst hy
     rw [if_pos rfl,u1,iF,j2,show dl (y,false) (y,false) = 1 from if_pos rfl]
     omega
    ·rw [if_neg hy,show dl (y,false) (p,false) = 0 from if_neg (by simp [hy])]
     omega
   ·show bi (if y = p then false else f.U y) - f.out n y = bi (f.U y) - f.out n y + dl (y,true) (p,false) - dl (y,true) (p,true)
    rw [show dl (y,true) (p,false) = 0 from if_neg (by simp)]
    by_cases hy:y = p
    ·subst hy
     rw [if_pos rfl,u1,iF,j2,show dl (y,true) (y,true) = 1 from if_pos rfl]
     omega
    ·rw [if_neg hy,show dl (y,true) (p,true) = 0 from if_neg (by simp [hy])]
     omega
  ·have f0:=fwd p q rfl rfl h
   have e1:f.push (p,true) (q,false) = ⟨f.U,fun a b=>if a = p∧b = q then true else f.F a b⟩:=by unfold Flow.push; exact if_neg h
   rw [e1]
   cases z
   ·show sm n (fun u=>bi (if u = p∧y = q then true else f.F u y)) - bi (f.U y) = sm n (fun u=>bi (f.F u y)) - bi (f.U y) + dl (y,false) (q,false) - dl (y,false) (p,true)
    rw [show dl (y,false) (p,true) = 0 from if_neg (by simp)]
    by_cases hy:y = q
    ·subst hy
     rw [lZ (g:=fun u=>bi (if u = p∧y = y then true else f.F u y)) (h:=fun u=>bi (f.F u y)) hd fun i hi=>by simp [hi]]
     have:bi (if p = p∧y = y then true else f.F p y) = 1:=by simp [bi]
     rw [this,f0,j2,show dl (y,false) (y,false) = 1 from if_pos rfl]
     omega
    ·have:sm n (fun u=>bi (if u = p∧y = q then true else f.F u y)) = sm n (fun u=>bi (f.F u y)):=Dt.cz fun i _=>by rw [if_neg (fun z=>hy z.2)]
     rw [this,show dl (y,false) (q,false) = 0 from if_neg (by simp [hy])]
     omega
   ·show bi (f.U y) - sm n (fun v=>bi (if y = p∧v = q then true else f.F y v)) = bi (f.U y) - sm n (fun v=>bi (f.F y v)) + dl (y,true) (q,false) - dl (y,true) (p,true)
    rw [show dl (y,true) (q,false) = 0 from if_neg (by simp)]
    by_cases hy:y = p
    ·subst hy
     rw [lZ (g:=fun v=>bi (if y = y∧v = q then true else f.F y v)) (h:=fun v=>bi (f.F y v)) he fun i hi=>by simp [hi]]
     have:bi (if y = y∧q = q then true else f.F y q) = 1:=by simp [bi]
     rw [this,f0,j2,show dl (y,true) (y,true) = 1 from if_pos rfl]
     omega
    ·have:sm n (fun v=>bi (if y = p∧v = q then true else f.F y v)) = sm n (fun v=>bi (f.F y v)):=Dt.cz fun i _=>by rw [if_neg (fun z=>hy z.1)]
     rw [this,show dl (y,true) (p,true) = 0 from if_neg (by simp [hy])]
     omega
 ·exact r.elim
theorem m8 (d:af):dl d d = 1:=if_pos rfl
theorem fO {d e:af} (h:d≠e):dl d e = 0:=if_neg h
theorem vJ {b:Bool} (h:1≤bi b):b = true:=by cases b; exact absurd h (by decide); rfl
theorem cx {T:Nat→Nat→Prop} {f:Flow} {p q:Nat}:Res T f (p,false) (q,true)↔(p = q∧f.U p = false)∨f.F q p = true:=Iff.rfl
theorem dy {T:Nat→Nat→Prop} {f:Flow} {p q:Nat}:Res T f (p,true) (q,false)↔T p q∨(p = q∧f.U p = true):=Iff.rfl
theorem Res.yf {T:Nat→Nat→Prop} {f:Flow} {d e:af} (h:Res T f d e):d.2≠e.2:=by
 obtain ⟨p,s⟩:=d
 obtain ⟨q,t⟩:=e
 cases s <;> cases t
 ·exact h.elim
 ·exact fun z=>by cases z
 ·exact fun z=>by cases z
 ·exact h.elim
theorem gB (f:Flow) (p:Nat):f.push (p,false) (p,true) = ⟨fun x=>if x = p then true else f.U x,f.F⟩:=by unfold Flow.push; exact if_pos rfl
theorem gz (f:Flow) {p q:Nat} (h:p≠q):f.push (p,false) (q,true) = ⟨f.U,fun a b=>if a = q∧b = p then false else f.F a b⟩:=by unfold Flow.push; exact if_neg h
theorem gu (f:Flow) (p:Nat):f.push (p,true) (p,false) = ⟨fun x=>if x = p then false else f.U x,f.F⟩:=by unfold Flow.push; exact if_pos rfl
theorem gq (f:Flow) {p q:Nat} (h:p≠q):f.push (p,true) (q,false) = ⟨f.U,fun a b=>if a = p∧b = q then true else f.F a b⟩:=by unfold Flow.push; exact if_neg h
theorem fP {T:Nat→Nat→Prop} {f:Flow} {p x:af} (d e:af) (h1:¬ (d = p∧e = x)) (h2:¬ (d = x∧e = p)):Res T (f.push p x) d e↔Res T f d e:=by
 obtain ⟨p,s⟩:=p
 obtain ⟨q,t⟩:=x
 obtain ⟨y,z⟩:=d
 obtain ⟨u,v⟩:=e
 cases z <;> cases v
 ·exact Iff.rfl
 ·rw [cx,cx]
  cases s <;> cases t
  ·exact Iff.rfl
  ·by_cases h:p = q
   ·subst h
    rw [gB]
    dsimp only
    by_cases e1:y = p
    ·subst e1
     have:¬ y = u:=fun z=>h1 ⟨rfl,by rw [z]⟩
     simp [this]
    ·simp [e1]
   ·rw [gz f h]
    dsimp only
    have:¬ (u = q∧y = p):=fun z=>h1 ⟨by rw [z.2],by rw [z.1]⟩
    rw [if_neg this]
  ·by_cases h:p = q
   ·subst h
    rw [gu]
    dsimp only
    by_cases e1:y = p
    ·subst e1
     have:¬ y = u:=fun z=>h2 ⟨rfl,by rw [z]⟩
     simp [this]
    ·simp [e1]
   ·rw [gq f h]
    dsimp only
    have:¬ (u = p∧y = q):=fun z=>h2 ⟨by rw [z.2],by rw [z.1]⟩
    rw [if_neg this]
  ·exact Iff.rfl
 ·rw [dy,dy]
  cases s <;> cases t
  ·exact Iff.rfl
  ·by_cases h:p = q
   ·subst h
    rw [gB]
    dsimp only
    by_cases e1:y = p
    ·subst e1
     have:¬ y = u:=fun z=>h2 ⟨rfl,by rw [z]⟩
     simp [this]
    ·simp [e1]
   ·rw [gz f h]
  ·by_cases h:p = q
   ·subst h
    rw [gu]
    dsimp only
    by_cases e1:y = p
    ·subst e1
     have:¬ y = u:=fun z=>h1 ⟨rfl,by rw [z]⟩
     simp [this]
    ·simp [e1]
   ·rw [gq f h]
  ·exact Iff.rfl
 ·exact Iff.rfl
theorem vQ {T:Nat→Nat→Prop} {f:Flow} {p x:af} (sym:∀ a b,T a b→T b a) (gJ:∀ u v,f.F u v = true→T u v) (r:Res T f p x):Res T (f.push p x) x p:=by
 obtain ⟨p,s⟩:=p
 obtain ⟨q,t⟩:=x
 cases s <;> cases t
 ·exact r.elim
 ·by_cases h:p = q
  ·subst h
   rw [gB,dy]
   exact .inr ⟨rfl,if_pos rfl⟩
  ·rw [gz f h,dy]
   rw [cx] at r
   exact .inl (gJ _ _ (r.resolve_left fun z=>h z.1))
 ·by_cases h:p = q
  ·subst h
   rw [gu,cx]
   exact .inl ⟨rfl,if_pos rfl⟩
  ·rw [gq f h,cx]
   exact .inr (if_pos ⟨rfl,rfl⟩)
 ·exact r.elim
theorem tM {T:Nat→Nat→Prop} {f:Flow} {p x:af} (tQ:∀ a,¬ T a a) (zO:∀ a,f.F a a = false) (r:Res T f p x):Res T (f.push p x) p x↔¬ (p.1 = x.1∨p.2 = false):=by
 obtain ⟨p,s⟩:=p
 obtain ⟨q,t⟩:=x
 cases s <;> cases t
 ·exact r.elim
 ·by_cases h:p = q
  ·subst h
   rw [gB,cx]
   simp [zO]
  ·rw [gz f h,cx]
   simp [h]
 ·by_cases h:p = q
  ·subst h
   rw [gu,dy]
   simp [tQ]
  ·rw [gq f h,dy]
   rw [dy] at r
   have:=r.resolve_right fun z=>h z.1
   simp [h,this]
 ·exact r.elim
structure Net (n:Nat) (T:Nat→Nat→Prop) (a b:Nat):Prop where
 sym:∀ p q,T p q→T q p
 tQ:∀ p,¬ T p p
 rg:∀ p q,T p q→p < n∧q < n
 no:¬ T a b
 ha:a < n
 hb:b < n
 ne:a≠b
structure Fl (n:Nat) (T:Nat→Nat→Prop) (a b:Nat) (i:Int) (f:Flow):Prop where
 gJ:∀ u v,f.F u v = true→T u v
 u1:f.U a = false
 u2:f.U b = false
 iG:∀ x:af,x.1 < n→f.iG n x = i * dl x (b,false) - i * dl x (a,true)
theorem me {g h:Nat→Int}:∀ {n:Nat},(∀ i,i < n→g i≤h i)→sm n g≤sm n h
 | 0,_=>Int.le_refl _
 | n + 1,e=>by
  show sm n g + g n≤sm n h + h n
  have:=me (n:=n) fun i hi=>e i (by omega)
  have:=e n (by omega)
  omega
theorem ye {g:Nat→Int} {n k:Nat} (h:∀ i,0≤g i) (hk:k < n):g k≤sm n g:=by
 have:sm n (fun i=>if i = k then g k else 0) = g k:=by
  rw [Dt.gj hk fun i _ ne=>if_neg ne]
  exact if_pos rfl
 rw [← this]
 refine me fun i _=>?_
 by_cases e:i = k
 ·rw [if_pos e,e]; exact Int.le_refl _
 ·rw [if_neg e]; exact h i
theorem uk {g:Nat→Int} {n k l:Nat} (h:∀ i,0≤g i) (hk:k < n) (hl:l < n) (ne:k≠l):g k + g l≤sm n g:=by
 have e1:sm n (fun i=>(if i = k then g k else 0) + (if i = l then g l else 0)) = g k + g l:=by
  rw [Dt.jr]
  rw [Dt.gj hk fun i _ ne=>if_neg ne,Dt.gj hl fun i _ ne=>if_neg ne,if_pos rfl,if_pos rfl]
 rw [← e1]
 refine me fun i _=>?_
 by_cases e:i = k
 ·rw [if_pos e,if_neg (by omega),e]; omega
 ·rw [if_neg e]
  by_cases e':i = l
  ·rw [if_pos e',e']; omega
  ·rw [if_neg e']; have:=h i; omega
section
variable {n:Nat} {T:Nat→Nat→Prop} {a b:Nat} {i:Int} {f:Flow}
theorem Fl.p9 (F:Fl n T a b i f) {q:Nat} (hq:q < n) (hb:q≠b):f.p9 n q = bi (f.U q):=by
 have:=F.iG (q,false) hq
 rw [fO (show ((q,false):af)≠(b,false) from fun z=>hb (by injection z)),fO (show ((q,false):af)≠(a,true) from fun z=>by injection z with _ z; cases z)] at this
 have e:f.iG n (q,false) = f.p9 n q - bi (f.U q):=rfl
 omega
theorem Fl.out (F:Fl n T a b i f) {p:Nat} (hp:p < n) (ha:p≠a):f.out n p = bi (f.U p):=by
 have:=F.iG (p,true) hp
 rw [fO (show ((p,true):af)≠(a,true) from fun z=>ha (by injection z)),fO (show ((p,true):af)≠(b,false) from fun z=>by injection z with _ z; cases z)] at this
 have e:f.iG n (p,true) = bi (f.U p) - f.out n p:=rfl
 omega
theorem Fl.vi (F:Fl n T a b i f) (N:Net n T a b) {p q:Nat} (hb:q≠b) (h:f.F p q = true):f.U q = true:=by
 have hT:=N.rg _ _ (F.gJ _ _ h)
 have e:=F.p9 hT.2 hb
 have:bi (f.F p q)≤f.p9 n q:=ye (g:=fun u=>bi (f.F u q)) (fun _=>rV _) hT.1
 rw [h,iF] at this
 exact vJ (by omega)
theorem Fl.oB (F:Fl n T a b i f) (N:Net n T a b) {p p' q:Nat} (hb:q≠b) (h:f.F p q = true) (h':f.F p' q = true):p = p':=by
 have hT:=N.rg _ _ (F.gJ _ _ h)
 have Ig:=N.rg _ _ (F.gJ _ _ h')
 have e:=F.p9 hT.2 hb
 refine Classical.byContradiction fun ne=>?_
 have:bi (f.F p q) + bi (f.F p' q)≤f.p9 n q:=uk (g:=fun u=>bi (f.F u q)) (fun _=>rV _) hT.1 Ig.1 ne
 rw [h,h',iF] at this
 have:=yO (f.U q)
 omega
theorem Fl.yw (F:Fl n T a b i f) (N:Net n T a b) {p q:Nat} (ha:p≠a) (h:f.F p q = true):f.U p = true:=by
 have hT:=N.rg _ _ (F.gJ _ _ h)
 have e:=F.out hT.1 ha
 have:bi (f.F p q)≤f.out n p:=ye (g:=fun v=>bi (f.F p v)) (fun _=>rV _) hT.2
 rw [h,iF] at this
 exact vJ (by omega)
theorem Fl.yx (F:Fl n T a b i f) (N:Net n T a b) {p q q':Nat} (ha:p≠a) (h:f.F p q = true) (h':f.F p q' = true):q = q':=by
 have hT:=N.rg _ _ (F.gJ _ _ h)
 have Ig:=N.rg _ _ (F.gJ _ _ h')
 have e:=F.out hT.1 ha
 refine Classical.byContradiction fun ne=>?_
 have:bi (f.F p q) + bi (f.F p q')≤f.out n p:=uk (g:=fun v=>bi (f.F p v)) (fun _=>rV _) hT.2 Ig.2 ne
 rw [h,h',iF] at this
 have:=yO (f.U p)
 omega
theorem Fl.uW (F:Fl n T a b i f) (N:Net n T a b) (u:Nat):f.F u a = false:=by
 cases h:f.F u a with
 | false=>rfl
 | true=>have:=F.vi N N.ne h; rw [F.u1] at this; cases this
theorem Fl.uV (F:Fl n T a b i f) (N:Net n T a b) (v:Nat):f.F b v = false:=by
 cases h:f.F b v with
 | false=>rfl
 | true=>have:=F.yw N N.ne.symm h; rw [F.u2] at this; cases this
theorem qK {g:Nat→Bool}:∀ {n:Nat},1≤sm n (fun i=>bi (g i))→∃ i,i < n∧g i = true
 | 0,h=>absurd (show (1:Int)≤0 from h) (by decide)
 | n + 1,h=>by
  cases e:g n with
  | true=>exact ⟨n,by omega,e⟩
  | false=>
   have h:1≤sm n (fun i=>bi (g i)) + bi (g n):=h
   rw [e,j2] at h
   obtain ⟨i,hi,hg⟩:=qK (g:=g) (n:=n) (by omega)
   exact ⟨i,by omega,hg⟩
theorem Fl.next (F:Fl n T a b i f) (N:Net n T a b) {u p:Nat} (hb:p≠b) (h:f.F u p = true):∃ q,f.F p q = true:=by
 have hp:=(N.rg _ _ (F.gJ _ _ h)).2
 have ha:p≠a:=fun z=>by subst z; rw [F.uW N] at h; cases h
 have e:=F.out hp ha
 rw [F.vi N hb h,iF] at e
 obtain ⟨q,_,hq⟩:=qK (g:=fun v=>f.F p v) (n:=n) (by rw [show sm n (fun v=>bi (f.F p v)) = f.out n p from rfl,e]; exact Int.le_refl _)
 exact ⟨q,hq⟩
end
end Fw
end
section
namespace Fw
open Dt (sm)
theorem xI (f:Flow) (n:Nat) (D:af→Bool) :
  sm n (fun p=>bi (D (p,false)) * f.iG n (p,false) + bi (D (p,true)) * f.iG n (p,true)) = sm n (fun p=>bi (f.U p) * (bi (D (p,true)) - bi (D (p,false)))) + sm n (fun u=>sm n (fun v=>bi (f.F u v) * (bi (D (v,false)) - bi (D (u,true))))):=by
 have e1:sm n (fun u=>sm n (fun v=>bi (f.F u v) * (bi (D (v,false)) - bi (D (u,true))))) = sm n (fun p=>bi (D (p,false)) * f.p9 n p) - sm n (fun p=>bi (D (p,true)) * f.out n p):=by
  have a1:sm n (fun u=>sm n (fun v=>bi (f.F u v) * (bi (D (v,false)) - bi (D (u,true))))) = sm n (fun u=>sm n (fun v=>bi (D (v,false)) * bi (f.F u v)) - bi (D (u,true)) * f.out n u):=Dt.cz fun u _=>by
   unfold Flow.out
   rw [← Dt.ma,← Dt.jq]
   exact Dt.cz fun v _=>by grind
  rw [a1,Dt.jq,Dt.qL]
  congr 1
  exact Dt.cz fun p _=>by unfold Flow.p9; rw [← Dt.ma]
 rw [e1,← Dt.jq,← Dt.jr]
 refine Dt.cz fun p _=>?_
 show bi (D (p,false)) * (f.p9 n p - bi (f.U p)) + bi (D (p,true)) * (bi (f.U p) - f.out n p) = _
 grind
section
variable {n:Nat} {T:Nat→Nat→Prop} {a b:Nat} {i:Int} {f:Flow}
theorem Fl.sum (F:Fl n T a b i f) (N:Net n T a b) (D:af→Bool):sm n (fun p=>bi (D (p,false)) * f.iG n (p,false) + bi (D (p,true)) * f.iG n (p,true)) = i * bi (D (b,false)) - i * bi (D (a,true)):=by
 rw [Dt.jr]
 have e1:sm n (fun p=>bi (D (p,false)) * f.iG n (p,false)) = i * bi (D (b,false)):=by
  rw [Dt.gj N.hb]
  ·rw [F.iG (b,false) N.hb,m8,fO (fun z=>by injection z with _ z; cases z)]; grind
  ·intro p hp ne
   rw [F.iG (p,false) hp,fO (fun z=>ne (by injection z)),fO (fun z=>by injection z with _ z; cases z)]; grind
 have e2:sm n (fun p=>bi (D (p,true)) * f.iG n (p,true)) = - (i * bi (D (a,true))):=by
  rw [Dt.gj N.ha]
  ·rw [F.iG (a,true) N.ha,m8,fO (fun z=>by injection z with _ z; cases z)]; grind
  ·intro p hp ne
   rw [F.iG (p,true) hp,fO (fun z=>by injection z with _ z; cases z),fO (fun z=>ne (by injection z))]; grind
 rw [e1,e2]
 omega
theorem Fl.val (F:Fl n T a b i f) (N:Net n T a b) (D:af→Bool) (da:D (a,true) = true) (db:D (b,false) = false) :
  - i = sm n (fun p=>bi (f.U p) * (bi (D (p,true)) - bi (D (p,false)))) + sm n (fun u=>sm n (fun v=>bi (f.F u v) * (bi (D (v,false)) - bi (D (u,true))))):=by
 rw [← xI,F.sum N,da,db,iF,j2]
 omega
theorem Fl.cut (F:Fl n T a b i f) (N:Net n T a b) (D:af→Bool) (da:D (a,true) = true) (db:D (b,false) = false) (cl:∀ d e,D d = true→Res T f d e→D e = true) :
  i = sm n (fun p=>bi (D (p,false) && !D (p,true))):=by
 have h:=F.val N D da db
 have z:sm n (fun u=>sm n (fun v=>bi (f.F u v) * (bi (D (v,false)) - bi (D (u,true))))) = 0:=Dt.fT fun u _=>Dt.fT fun v _=>by
  cases e:f.F u v with
  | false=>rw [j2]; omega
  | true=>
   have:D (v,false) = D (u,true):=by
    cases h1:D (u,true) with
    | true=>exact cl _ _ h1 (dy.mpr (.inl (F.gJ _ _ e)))
    | false=>
     cases h2:D (v,false) with
     | false=>rfl
     | true=>rw [cl _ _ h2 (cx.mpr (.inr e))] at h1; cases h1
   rw [this]; omega
 rw [z] at h
 have:sm n (fun p=>bi (f.U p) * (bi (D (p,true)) - bi (D (p,false)))) = sm n (fun p=>(-1) * bi (D (p,false) && !D (p,true))):=Dt.cz fun p _=>by
  cases e:f.U p with
  | false=>
   rw [j2]
   cases h1:D (p,false) with
   | false=>simp [bi]
   | true=>
    have:D (p,true) = true:=cl _ _ h1 (cx.mpr (.inl ⟨rfl,e⟩))
    rw [this]; simp [bi]
  | true=>
   rw [iF]
   cases h1:D (p,true) with
   | true=>
    have:D (p,false) = true:=cl _ _ h1 (dy.mpr (.inr ⟨rfl,e⟩))
    rw [this]; simp [bi]
   | false=>cases D (p,false) <;> simp [bi]
 rw [this,Dt.ma] at h
 omega
theorem ip (g:Nat→Bool):∀ n:Nat,sm n (fun p=>bi (g p)) = (((List.range n).filter g).length:Int)
 | 0=>rfl
 | n + 1=>by
  show sm n (fun p=>bi (g p)) + bi (g n) = _
  rw [ip g n,List.range_succ,List.filter_append,List.length_append]
  cases e:g n <;> simp [e,bi]
structure Fan (n:Nat) (N:af→af→Prop) (st:af) (au:List (af×Option af)):Prop where
 nd:(au.map Prod.fst).Nodup
 st:au[0]? = some (st,none)
 par:∀ (j:Nat) (d:af) (e:Option af),au[j]? = some (d,e)→(j = 0∧e = none)∨∃ (k:Nat) (p:af) (o:Option af),k < j∧e = some p∧au[k]? = some (p,o)∧N p d
 rg:∀ d∈au.map Prod.fst,d.1 < n
def rk (au:List (af×Option af)) (d:af):Nat:=(au.map Prod.fst).idxOf d
theorem Fan.qN {N:af→af→Prop} {st:af} {au:List (af×Option af)} (h:Fan n N st au) {j:Nat} {d:af} {e:Option af} (hj:au[j]? = some (d,e)):rk au d = j:=by
 have hl:j < au.length:=(List.getElem?_eq_some_iff.mp hj).1
 have e1:(au.map Prod.fst)[j]'(by rw [List.length_map]; exact hl) = d:=by
  rw [List.getElem_map]
  rw [(List.getElem?_eq_some_iff.mp hj).2]
 unfold rk
 rw [← e1]
 exact h.nd.idxOf_getElem j _
theorem Fan.up {N:af→af→Prop} {st:af} {au:List (af×Option af)} (h:Fan n N st au) {d p:af} (hd:(d,some p)∈au):rk au p < rk au d∧N p d∧∃ o,(p,o)∈au:=by
 obtain ⟨j,hj⟩:=List.mem_iff_getElem?.mp hd
 rcases h.par j d _ hj with ⟨_,z⟩ | ⟨k,q,o,hk,e,hq,hN⟩
 ·cases z
 ·injection e with e
  subst e
  rw [h.qN hj,h.qN hq]
  exact ⟨hk,hN,o,List.mem_of_getElem? hq⟩
theorem Fan.root {N:af→af→Prop} {st:af} {au:List (af×Option af)} (h:Fan n N st au) {d:af} (hd:(d,none)∈au):d = st:=by
 obtain ⟨j,hj⟩:=List.mem_iff_getElem?.mp hd
 rcases h.par j d _ hj with ⟨z,_⟩ | ⟨k,q,o,hk,e,hq,hN⟩
 ·subst z; rw [h.st] at hj; injection hj with hj; injection hj with hj; exact hj.symm
 ·cases e
theorem Fan.uniq {N:af→af→Prop} {st:af} {au:List (af×Option af)} (h:Fan n N st au) {d:af} {e e':Option af} (h1:(d,e)∈au) (h2:(d,e')∈au):e = e':=by
 obtain ⟨j,hj⟩:=List.mem_iff_getElem?.mp h1
 obtain ⟨k,hk⟩:=List.mem_iff_getElem?.mp h2
 have:=h.qN hj
 have:=h.qN hk
 have:j = k:=by omega
 subst this
 rw [hj] at hk
 injection hk with hk
 injection hk
end
end Fw
end
section
namespace Fw
open Dt (sm)
section
variable {n:Nat} {T:Nat→Nat→Prop} {a b:Nat} {i:Int} {f:Flow}
structure Go (n:Nat) (T:Nat→Nat→Prop) (a b:Nat) (f:Flow) (au:List (af×Option af)) (x:af) (f':Flow):Prop where
 xk:∃ o,(x,o)∈au
 le:rk au x≤rk au (b,false)
 gJ:∀ u v,f'.F u v = true→T u v
 u1:f'.U a = false
 u2:f'.U b = false
 iG:∀ y:af,y.1 < n→f'.iG n y = f.iG n y + dl y (b,false) - dl y x
 same:∀ d e,rk au d < rk au x∨rk au e < rk au x→(Res T f' d e↔Res T f d e)
 nx:x = (b,false)∨∃ e,Res T f x e∧(e,some x)∈au
theorem Go.start (F:Fl n T a b i f) {au:List (af×Option af)} (h:∃ o,((b,false),o)∈au):Go n T a b f au (b,false) f:=
 ⟨h,Nat.le_refl _,F.gJ,F.u1,F.u2,fun y _=>by omega,fun _ _ _=>Iff.rfl,.inl rfl⟩
theorem Go.fwd (F:Fl n T a b i f) (N:Net n T a b) {au:List (af×Option af)} (K:Fan n (Res T f) (a,true) au) {x:af} {f':Flow} (G:Go n T a b f au x f') {p q:Nat} (hx:(x,some (p,true))∈au) (xq:x = (q,false)) (ne:p≠q):f'.F p q = false:=by
 subst xq
 obtain ⟨hr,hN,o,hp⟩:=K.up hx
 cases h:f'.F p q with
 | false=>rfl
 | true=>
  exfalso
  have h1:f.F p q = true:=by
   have:=(G.same (q,false) (p,true) (.inr hr)).mp (cx.mpr (.inr h))
   exact (cx.mp this).resolve_left fun z=>ne z.1.symm
  by_cases hb:q = b
  ·subst hb
   have pa:p≠a:=fun z=>by subst z; exact N.no (F.gJ _ _ h1)
   cases o with
   | none=>exact pa (by have:=K.root hp; injection this)
   | some r=>
    obtain ⟨KH,K9,_⟩:=K.up hp
    obtain ⟨r',s⟩:=r
    cases s with
    | true=>exact K9.elim
    | false=>
     rcases cx.mp K9 with z | z
     ·rw [z.1,F.yw N pa h1] at z; cases z.2
     ·have:=F.yx N pa h1 z
      subst this
      omega
  ·rcases G.nx with z | ⟨e,he,hk⟩
   ·exact hb (by injection z)
   ·obtain ⟨e',s⟩:=e
    cases s with
    | false=>exact he.elim
    | true=>
     rcases cx.mp he with z | z
     ·rw [F.vi N hb h1] at z; cases z.2
     ·have:=F.oB N hb h1 z
      subst this
      have:=(K.up hk).1
      omega
theorem Go.open (F:Fl n T a b i f) (N:Net n T a b) {au:List (af×Option af)} (K:Fan n (Res T f) (a,true) au) {x p:af} {f':Flow} (G:Go n T a b f au x f') (hx:(x,some p)∈au):Res T f' p x:=by
 obtain ⟨hr,hN,_⟩:=K.up hx
 exact (G.same p x (.inl hr)).mpr hN
theorem Go.step (F:Fl n T a b i f) (N:Net n T a b) {au:List (af×Option af)} (K:Fan n (Res T f) (a,true) au) {x p:af} {f':Flow} (G:Go n T a b f au x f') (hx:(x,some p)∈au):Go n T a b f au p (f'.push p x):=by
 obtain ⟨hr,hN,o,hp⟩:=K.up hx
 have r:=G.open F N K hx
 have zO:∀ c,f'.F c c = false:=fun c=>by
  cases h:f'.F c c with
  | false=>rfl
  | true=>exact absurd (G.gJ _ _ h) (N.tQ c)
 have px:x.1 < n:=K.rg x (List.mem_map.mpr ⟨_,hx,rfl⟩)
 have pn:p.1 < n:=K.rg p (List.mem_map.mpr ⟨_,hp,rfl⟩)
 have pb:∀ y:af,y.1 < n→(f'.push p x).iG n y = f'.iG n y + dl y x - dl y p:=fun y _=>Flow.uI (T:=T) N.tQ zO pn px r (fun u q e1 e2 ne=>by
  subst e1
  exact G.fwd F N K hx e2 ne) y
 refine ⟨⟨o,hp⟩,Nat.le_trans (Nat.le_of_lt hr) G.le,?_,?_,?_,fun y hy=>?_,fun d e h=>?_,.inr ⟨x,hN,hx⟩⟩
 ·intro u v rL
  obtain ⟨p',s⟩:=p
  obtain ⟨q,t⟩:=x
  cases s <;> cases t
  ·exact r.elim
  ·by_cases h:p' = q
   ·subst h; rw [gB] at rL; exact G.gJ _ _ rL
   ·rw [gz _ h] at rL
    dsimp only at rL
    by_cases c:u = q∧v = p'
    ·rw [if_pos c] at rL; cases rL
    ·rw [if_neg c] at rL; exact G.gJ _ _ rL
  ·by_cases h:p' = q
   ·subst h; rw [gu] at rL; exact G.gJ _ _ rL
   ·rw [gq _ h] at rL
    dsimp only at rL
    by_cases c:u = p'∧v = q
    ·rw [c.1,c.2]; exact (dy.mp r).resolve_right fun z=>h z.1
    ·rw [if_neg c] at rL; exact G.gJ _ _ rL
  ·exact r.elim
 ·obtain ⟨p',s⟩:=p
  obtain ⟨q,t⟩:=x
  cases s <;> cases t
  ·exact r.elim
  ·by_cases h:p' = q
   ·subst h
    rw [gB]
    dsimp only
    have:a≠p':=fun z=>by
     subst z
     have:=K.uniq hx (List.mem_of_getElem? K.st)
     cases this
    rw [if_neg this]; exact G.u1
   ·rw [gz _ h]; exact G.u1
  ·by_cases h:p' = q
   ·subst h
    rw [gu]
    dsimp only
    by_cases c:a = p'
    ·rw [if_pos c]
    ·rw [if_neg c]; exact G.u1
   ·rw [gq _ h]; exact G.u1
  ·exact r.elim
 ·obtain ⟨p',s⟩:=p
  obtain ⟨q,t⟩:=x
  cases s <;> cases t
  ·exact r.elim
  ·by_cases h:p' = q
   ·subst h
    rw [gB]
    dsimp only
    have:b≠p':=fun z=>by
     subst z
     have:=G.le
     omega
    rw [if_neg this]; exact G.u2
   ·rw [gz _ h]; exact G.u2
  ·by_cases h:p' = q
   ·subst h
    rw [gu]
    dsimp only
    by_cases c:b = p'
    ·rw [if_pos c]
    ·rw [if_neg c]; exact G.u2
   ·rw [gq _ h]; exact G.u2
  ·exact r.elim
 ·rw [pb y hy,G.iG y hy]; omega
 ·have h':¬ (d = p∧e = x):=fun z=>by rw [z.1,z.2] at h; omega
  have Po:¬ (d = x∧e = p):=fun z=>by rw [z.1,z.2] at h; omega
  rw [fP d e h' Po]
  exact G.same d e (by omega)
theorem Go.done (F:Fl n T a b i f) {au:List (af×Option af)} (K:Fan n (Res T f) (a,true) au) {x:af} {f':Flow} (G:Go n T a b f au x f') (hx:(x,none)∈au):Fl n T a b (i + 1) f':=by
 have:=K.root hx
 subst this
 refine ⟨G.gJ,G.u1,G.u2,fun y hy=>?_⟩
 rw [G.iG y hy,F.iG y hy,Int.add_mul,Int.add_mul]
 omega
structure Bf (n:Nat) (N:af→af→Prop) (st:af) (au:List (af×Option af)) (ws:List af):Prop extends Fan n N st au where
 sub:∀ d∈ws,d∈au.map Prod.fst
 sA:∀ d∈au.map Prod.fst,d∉ws→∀ e,N d e→e∈au.map Prod.fst
structure Bi (n:Nat) (N:af→af→Prop) (st:af) (au:List (af×Option af)) (ws:List af) (x:af) (l:List af) (k:Nat):Prop extends Fan n N st au where
 sub:∀ d∈ws,d∈au.map Prod.fst
 xk:x∈au.map Prod.fst
 sA:∀ d∈au.map Prod.fst,d∉ws→d≠x→∀ e,N d e→e∈au.map Prod.fst
 got:∀ (j:Nat) (e:af),j < k→l[j]? = some e→e∈au.map Prod.fst
theorem Bf.start {N:af→af→Prop} {st:af} (h:st.1 < n):Bf n N st [(st,none)] [st]:=
 ⟨⟨by simp,rfl,fun j d e hj=>by
  cases j with
  | zero=>injection (show some (st,(none:Option af)) = some (d,e) from hj) with hj; injection hj with _ hj; exact .inl ⟨rfl,hj.symm⟩
  | succ j=>simp at hj,fun d hd=>by rw [List.map_singleton,List.mem_singleton] at hd; rw [hd]; exact h⟩,fun d hd=>by simpa using hd,fun d hd nd=>absurd (by simpa using hd) nd⟩
theorem Bf.pop {N:af→af→Prop} {st x:af} {au:List (af×Option af)} {ws:List af} (B:Bf n N st au (x :: ws)) (l:List af):Bi n N st au ws x l 0:=
 ⟨B.toFan,fun d hd=>B.sub d (.tail _ hd),B.sub x (.head _),fun d hd nd ne=>B.sA d hd fun z=>by
  rcases List.mem_cons.mp z with z | z
  ·exact ne z
  ·exact nd z,fun j e h=>absurd h (Nat.not_lt_zero _)⟩
theorem Bi.skip {N:af→af→Prop} {st x e:af} {au:List (af×Option af)} {ws:List af} {l:List af} {k:Nat} (B:Bi n N st au ws x l k) (he:l[k]? = some e) (h:e∈au.map Prod.fst):Bi n N st au ws x l (k + 1):=
 ⟨B.toFan,B.sub,B.xk,B.sA,fun j e' hj hl=>by
  by_cases z:j = k
  ·subst z; rw [he] at hl; injection hl with hl; rw [← hl]; exact h
  ·exact B.got j e' (by omega) hl⟩
theorem Bi.add {N:af→af→Prop} {st x e:af} {au:List (af×Option af)} {ws:List af} {l:List af} {k:Nat} (B:Bi n N st au ws x l k) (he:l[k]? = some e) (h:e∉au.map Prod.fst) (hN:N x e) (hn:e.1 < n):Bi n N st (au ++ [(e,some x)]) (ws ++ [e]) x l (k + 1):=by
 have mono:∀ d,d∈au.map Prod.fst→d∈(au ++ [(e,some x)]).map Prod.fst:=fun d hd=>by rw [List.map_append]; exact List.mem_append_left _ hd
 have new:e∈(au ++ [(e,some x)]).map Prod.fst:=by rw [List.map_append]; exact List.mem_append_right _ (.head _)
 have vF:∀ d,d∈(au ++ [(e,some x)]).map Prod.fst→d∈au.map Prod.fst∨d = e:=fun d hd=>by
  rw [List.map_append] at hd
  rcases List.mem_append.mp hd with hd | hd
  ·exact .inl hd
  ·exact .inr (by simpa using hd)
 have kl:0 < au.length:=(List.getElem?_eq_some_iff.mp B.st).1
 refine ⟨⟨?_,?_,?_,?_⟩,?_,mono _ B.xk,?_,?_⟩
 ·rw [List.map_append]
  refine List.nodup_append.mpr ⟨B.nd,by simp,fun d hd d' rQ=>?_⟩
  have:d' = e:=by simpa using rQ
  subst this
  exact fun z=>h (z▸hd)
 ·rw [List.getElem?_append_left kl]; exact B.st
 ·intro j d o hj
  by_cases hl:j < au.length
  ·rw [List.getElem?_append_left hl] at hj
   rcases B.par j d o hj with z | ⟨k',p,o',hk,e1,e2,e3⟩
   ·exact .inl z
   ·exact .inr ⟨k',p,o',hk,e1,by rw [List.getElem?_append_left (by omega)]; exact e2,e3⟩
  ·rw [List.getElem?_append_right (by omega)] at hj
   have z:j - au.length = 0:=by
    have:=(List.getElem?_eq_some_iff.mp hj).1
    rw [List.length_singleton] at this
    omega
   rw [z] at hj
   injection hj with hj
   injection hj with h1 h2
   subst h1; subst h2
   obtain ⟨⟨x',o'⟩,hx,ex⟩:=List.mem_map.mp B.xk
   dsimp only at ex
   subst ex
   obtain ⟨k',Et⟩:=List.mem_iff_getElem?.mp hx
   have dD:=(List.getElem?_eq_some_iff.mp Et).1
   exact .inr ⟨k',x',o',by omega,rfl,by rw [List.getElem?_append_left dD]; exact Et,hN⟩
 ·intro d hd
  rcases vF d hd with z | z
  ·exact B.rg d z
  ·rw [z]; exact hn
 ·intro d hd
  rcases List.mem_append.mp hd with z | z
  ·exact mono _ (B.sub d z)
  ·rw [List.mem_singleton.mp z]; exact new
 ·intro d hd nd ne e' Pk
  rcases vF d hd with z | z
  ·exact mono _ (B.sA d z (fun y=>nd (List.mem_append_left _ y)) ne e' Pk)
  ·exact absurd (by rw [z]; exact List.mem_append_right _ (.head _)) nd
 ·intro j e' hj hl
  by_cases z:j = k
  ·subst z; rw [he] at hl; injection hl with hl; rw [← hl]; exact new
  ·exact mono _ (B.got j e' (by omega) hl)
theorem Bi.done {N:af→af→Prop} {st x:af} {au:List (af×Option af)} {ws:List af} {l:List af} (B:Bi n N st au ws x l l.length) (hl:∀ e,N x e→e∈l):Bf n N st au ws:=
 ⟨B.toFan,B.sub,fun d hd nd e he=>by
  by_cases z:d = x
  ·subst z
   obtain ⟨j,hj⟩:=List.mem_iff_getElem?.mp (hl e he)
   exact B.got j e (List.getElem?_eq_some_iff.mp hj).1 hj
  ·exact B.sA d hd nd z e he⟩
theorem Fan.len {N:af→af→Prop} {st:af} {au:List (af×Option af)} (K:Fan n N st au):au.length≤2 * n:=by
 have h:((au.map Prod.fst).map fun d:af=>2 * d.1 + (if d.2 then 1 else 0)).Nodup:=by
  refine List.Pairwise.map _ (fun d e ne z=>ne ?_) K.nd
  obtain ⟨p,s⟩:=d
  obtain ⟨q,t⟩:=e
  dsimp only at z
  have:p = q∧s = t:=by cases s <;> cases t <;> simp at z ⊢ <;> omega
  rw [this.1,this.2]
 have:=(List.nodup_range (n:=2 * n))
 have sb:∀ x∈((au.map Prod.fst).map fun d:af=>2 * d.1 + (if d.2 then 1 else 0)),x∈List.range (2 * n):=fun x hx=>by
  obtain ⟨d,hd,rfl⟩:=List.mem_map.mp hx
  have:=K.rg d hd
  rw [List.mem_range]
  split <;> omega
 have:=h.length_le_of_subset sb
 simpa using this
end
end Fw
end
section
namespace PySem
namespace F
end F
end PySem
namespace L2
open PySem PySem.Spec PySem.W PySem.Calls PyProof.Rows
section
variable {X:Cx} {e st:Expr} {te JJ:TE} {p2 pos:Pos}
def L4 (K:Frag) (te JJ:TE):TE:=fun σ H Q=>te σ H fun x H1=>JJ σ H1 fun y H2=>y = .int (-1)∧∃ a xs,x = .ref a∧aG K H2 a xs∧∀ p,H2 p = none→Q (.ref p) (upd H2 p (.lst xs.reverse))
end
section
variable {X:Cx} {l:Expr} {tl:TE} {p p2 pos wL:Pos}
def BI (K:Frag) (tl:TE):TE:=fun σ H Q=>tl σ H fun x H1=>∃ a xs,x = .ref a∧aG K H1 a xs∧∀ p,H1 p = none→Q (.ref p) (upd H1 p (.lst xs.reverse))
end
end L2
end
section
namespace Gm
open PySem L2
def sw (d:ay):ay:=(d.2,d.1)
def Ry (L:List (List Int)):List (List Int):=L.map List.reverse
def DH (r s:List Int):Prop:=∃ c,c < r.length∧s = DT r.reverse c∧vS s
abbrev LP:List (List Int)→List (List Int)→Prop:=Paired DH
end Gm
end
section
namespace Gm
open PySem L2
end Gm
end
section
namespace Gm
open PySem L2
structure Lay (A B:List (List Int)) (f:Int→Int):Prop where
 len:A.length = B.length
 rg:∀ i:Int,0≤i→i < A.length→0≤f i∧f i < B.length
 row:∀ i:Int,0≤i→i < A.length→sd ((rowOf A i).map f) (rowOf B (f i))
end Gm
end
section
namespace Gm
open PySem L2
def nm (ks:List (Int×Int)) (p:Int):Int:=(ks.lookup p).getD 0
structure yR (A B:List (List Int)) (first x0 second:Int) (f:Int→Int):Prop where
 lay:Lay A B f
 e0:f 0 = first
 e1:f x0 = second
abbrev Wait:=Int×Int×Int
structure Nf (A B:List (List Int)) (first x0 second:Int) (ks:List (Int×Int)) (ws:List Wait):Prop where
 nd:(ks.map (·.1)).Nodup
 rg:∀ p∈ks,(0≤p.1∧p.1 < A.length)∧0≤p.2∧p.2 < B.length
 st:(0,first)∈ks
 wn:(ws.map (·.1)).Nodup
 wk:∀ w∈ws,∃ v,(w.1,v)∈ks∧w.2.1∈rowOf A w.1∧w.2.2∈rowOf B v
 cl:∀ p v,(p,v)∈ks→p∉ws.map (·.1)→(∀ y∈rowOf A p,∃ u,(y,u)∈ks)∧sd ((rowOf A p).map (nm ks)) (rowOf B v)
 un:∀ f,yR A B first x0 second f→(∀ p∈ks,f p.1 = p.2)∧∀ w∈ws,f w.2.1 = w.2.2
 N8:(0,x0,second)∈ws∨(x0,second)∈ks
structure Ni (A B:List (List Int)) (first x0 second:Int) (ks:List (Int×Int)) (ws:List Wait) (p v:Int) (od gl:List Int) (k:Nat):Prop where
 nd:(ks.map (·.1)).Nodup
 rg:∀ p∈ks,(0≤p.1∧p.1 < A.length)∧0≤p.2∧p.2 < B.length
 st:(0,first)∈ks
 wn:(ws.map (·.1)).Nodup
 pn:p∉ws.map (·.1)
 pk:(p,v)∈ks
 wk:∀ w∈ws,∃ v,(w.1,v)∈ks∧w.2.1∈rowOf A w.1∧w.2.2∈rowOf B v
 cl:∀ q u,(q,u)∈ks→q∉ws.map (·.1)→q≠p→(∀ y∈rowOf A q,∃ u,(y,u)∈ks)∧sd ((rowOf A q).map (nm ks)) (rowOf B u)
 un:∀ f,yR A B first x0 second f→(∀ p∈ks,f p.1 = p.2)∧∀ w∈ws,f w.2.1 = w.2.2
 tk:∀ (t:Nat) (y u:Int),t < k→od[t]? = some y→gl[t]? = some u→(y,u)∈ks
 N8:(0,x0,second)∈ws∨(x0,second)∈ks∨(od[0]? = some x0∧gl[0]? = some second)
end Gm
end
section
namespace Gm
open PySem L2
def kI (ks:List (Int×Int)):List (Key×V):=ks.map fun p=>((Sum.inl p.1:Key),V.int p.2)
abbrev WR (H:Hp):List Addr→List Wait→Prop:=Paired fun a w=>H a = some (.tup [.int w.1,.int w.2.1,.int w.2.2])
end Gm
end
section
namespace L2
open PySem PySem.Spec PySem.W PySem.Calls PyProof.Rows Gm
section
variable {X:Cx} {l:Expr} {tl:TE} {p p2 pos wL:Pos}
def BH (tl:TE):TE:=fun σ H Q=>tl σ H fun x H1=>∃ n:Nat,x = .int (n:Int)∧n≤1000∧∀ p,H1 p = none→Q (.ref p) (upd H1 p (.lst ((o8 n).map V.int)))
end
section
variable {σ : St} {H:Hp} {Q:VK} {K:Frag}
theorem mz {r:V→Option Int→Option Int→Hp→VK→Prop} {te:TE} {tl th:TO} (h:te σ H fun x H1=>tl σ H1 fun l H2=>th σ H2 fun u H3=>r x l u H3 Q):Fe r te tl th σ H Q:=h
theorem i5 {xs:List Int} {k:Nat} {y:Int} (h:xs[k]? = some y):(y :: xs.eraseIdx k).Perm xs:=by
 obtain ⟨hl,e⟩:=List.getElem?_eq_some_iff.mp h
 rw [List.eraseIdx_eq_take_drop_succ]
 refine List.perm_middle.symm.trans ?_
 rw [← e,← List.drop_eq_getElem_cons hl,List.take_append_drop]
end
end L2
end
section
namespace Gm
open PySem L2
def NS (n:Nat) (l:List Int):List (List Int):=((o8 n).filter fun x=>!decide (x∈l)).map fun x=>l ++ [x]
def Jm (n:Nat):Nat→List (List Int)
 | 0=>[[]]
 | k + 1=>(Jm n k).flatMap (NS n)
def Eh (l:List Int) (i:Int):Int:=l.getD i.toNat 0
structure Sf (n:Nat) (l:List Int):Prop where
 len:l.length = n
 nd:l.Nodup
 rg:∀ x∈l,0≤x∧x < n
structure Sa (A:List (List Int)) (l:List Int) (R:List (List Int)):Prop where
 len:R.length = A.length
 row:∀ j:Int,0≤j→j < A.length→R[(Eh l j).toNat]? = some ((rowOf A j).map (Eh l))
theorem iq {L:List (List Int)} {i:Nat} {l:List Int} (h:L[i]? = some l):rowOf L (i:Int) = l:=by
 unfold rowOf
 rw [Int.toNat_natCast,List.getD_eq_getElem?_getD,h]
 rfl
def QR (L:List (List Int)):Prop:=∀ x:Int,0≤x→x < L.length→Reach L 0 x
def wU (n:Nat) (k:Nat):List Int:=[(k:Int) - 1,(k:Int) + 1].filter fun x=>decide (0≤x) && decide (x < n)
def path (n:Nat):List (List Int):=(List.range n).map (wU n)
theorem mB {a b:TS} {D:Ends} {σ : St} {H:Hp} (Pv:St→Hp→Prop) (hb:∀ σ' H',Pv σ' H'→b D σ' H') (ha:∀ T:St→Hp→Prop,(∀ σ' H',Pv σ' H'→T σ' H')→a { D with nx:=T } σ H):y3 a b D σ H:=ha _ hb
theorem wC {K:PySem.W.Frag} {t:TE} {σ : St} {H:Hp} {R:It→Hp→Prop} (h:t σ H fun x H1=>∃ a,x = .ref a∧(∃ xs,aG K H1 a xs)∧R (xT K a) H1):rJ K t σ H R:=h
def P8 (A B:List (List Int)):PyData:=.list [eB A,eB B]
end Gm
end
section
namespace L2
open PySem PySem.Spec PySem.W PySem.Calls PyProof.Rows HT
def MS (K:Frag):R2:=fun x y H Q=>∃ (a b:Addr) (ns ms:List Int),x = .ref a∧y = .ref b∧aG K H a (ns.map V.int)∧aG K H b (ms.map V.int)∧Q (.bl (lexLt ms ns)) H
end L2
end
section
namespace L2
open PySem PySem.Spec PySem.W PySem.Calls PyProof.Rows Gm
section
variable {X:Cx}
def rJoin (K:Frag):V→List V→Hp→VK→Prop:=fun x vs H Q=>∃ (sep:Str) (a:Addr) (ts:List Str),x = .str sep∧vs = [.ref a]∧aG K H a (ts.map V.str)∧JoinOk sep ts = true∧Q (.str (Str.join sep ts)) H
def FP:V→List V→Hp→VK→Prop:=fun x vs H Q=>∃ (z y:Str),x = .str z∧vs = [.str y]∧(y.length == 0) = false∧z.length≤1000000∧(Builtin.Str.partsBetween z (Builtin.Str.occurrences z y 0 z.length (z.length + 1)) y.length).length≤sizeLine∧
 ∀ p,H p = none→Q (.ref p) (upd H p (.lst ((Txt.split z y).map V.str)))
def Ma (te:TE) (y:Str):TE:=fun σ H Q=>te σ H fun x H1=>∃ n:Int,x = .int n∧n.natAbs.log2 < 1920∧((toString n:String):Str).length + y.length≤1000000∧Q (.str (((toString n:String):Str) ++ y)) H1
end
def QN (x:Str):It:=⟨fun i _=>i < x.cps.size,fun i H v H'=>H' = H∧∃ c,x.cps[i]? = some c∧v = .str ⟨#[c]⟩,fun i _=>x.cps.size≤i⟩
section
variable {X:Cx} {tg:Expr}
def Od (tl:TE):TI:=fun σ H R=>tl σ H fun x H1=>∃ z:Str,x = .str z∧z.cps.all (· < 128) = true∧R (QN z) H1
end
end L2
end
section
namespace Gm
open PySem L2
def jl (s:List Nat):List (List Nat)→List Nat
 | []=>[]
 | [a]=>a
 | a :: b :: r=>a ++ s ++ jl s (b :: r)
abbrev num (n:Int):Str:=((toString n:String):Str)
structure Num (x:Str):Prop where
 l1:1≤x.length
 l2:x.length≤2
 dg:∀ c∈x.cps.toList,48≤c∧c≤57
 hd:x = ((("0" : String)):Str)∨∃ c,x.cps[0]? = some c∧c≠48
end Gm
end
section
namespace Gm
open PySem L2
def R9 (L:List (List Int)):Prop:=∀ d,Dt L d→∃ c,d∈c∧qw (nx L) c∧(c.map (·.1)).Nodup
def seg (r:List Int) (s m:Nat):List ay:=(List.range m).map fun t=>dj r (s + t)
end Gm
end
section
namespace Gm
open PySem L2
section
variable {L N:List (List Int)} {r:List Int}
def Q9 (r:List Int) (n c1 cj:Nat) (d:ay):Prop:=(∃ i,cj≤i∧i < c1 + r.length∧d = dj r i)∨d = (cy r c1,(n:Int))∨d = ((n:Int),cy r cj)
def Sd (L:List (List Int)) (r:List Int) (c1 cj:Nat) (M:List (List Int)):Prop:=∀ d,Dt M d→Q9 r L.length c1 cj d∨∃ c,d∈c∧qw (nx M) c∧(c.map (·.1)).Nodup
end
end Gm
end
section
namespace Gm
open PySem L2
def tetra:List (List Int):=[[1,3,2],[2,3,0],[0,3,1],[2,0,1]]
def tetraR:List (List ay):=[[(0,1),(1,3),(3,0)],[(0,3),(3,2),(2,0)],[(0,2),(2,1),(1,0)],[(1,2),(2,3),(3,1)]]
end Gm
end
section
namespace Gm
open PySem L2
abbrev Mi:Str:=((" " : String):Str)
abbrev Mh:Str:=((":" : String):Str)
abbrev Mj:Str:=(("\n" : String):Str)
abbrev t0:Str:=(("" : String):Str)
def FK (k:Int) (l:List Int):Str:=Str.join Mi ((num k ++ Mh) :: l.map num)
def BW (L:List (List Int)):List Str:=L.mapIdx fun i l=>FK ((i:Nat):Int) l
def NQ (L:List (List Int)):Str:=Str.join Mj (BW L)
def QU (l:List Int):Prop:=l.length≤14∧∀ x∈l,0≤x∧x < 14
structure Sm (L:List (List Int)):Prop where
 len:L.length≤14
 lC:∀ l∈L,QU l
def mn (l:List Int):Int:=l.min?.getD 0
def lb (l:List Int):List Int:=DT l (l.idxOf (mn l))
end Gm
end
section
namespace L2
open PySem PySem.Spec PySem.W PySem.Calls PyProof.Rows Gm
theorem AN:bootBuiltins "str" = some (.type "str"):=by decide +kernel
section
variable {X:Cx}
theorem bD {x:Str} {z:Int} {pos:Pos} (hg:Gl X x) (hm:∃ t,X.mg x = some (.int z t)) (hd:(x == ("__debug__" : Str)) = false:=by decide):PE X (.Name x pos) (tC (.int z)):=
 let ⟨_,h⟩:=hm; wO hg h ⟨_,rfl⟩ hd
end
section
variable {K:Frag} {σ : St} {H:Hp} {Q:VK}
theorem uD {i j:Str} (q:Q (.bl (decide (i = j))) H):FV (.str i) (.str j) H Q:=⟨rfl,by rw [m9,Bool.beq_eq_decide_eq]; exact q⟩
end
end L2
end
section
namespace L2
open PySem PySem.Spec PySem.W PySem.Calls PyProof.Rows Gm
def R6 (A:List (List Int)) (l:List Int):PyData:=.list [eB A,b9 l]
end L2
end
section
namespace L2
open PySem PySem.Spec PySem.W PySem.Calls PyProof.Rows Gm
section
variable {X:Cx}
noncomputable def R1 (H:Hp) (l:List Int):Value→Bool:=fun v=>match v with | .ref b=>@decide (H b = some (.lst (l.map V.int))) (Classical.propDecidable _) | _=>false
def MQ (neg:Bool):R2:=fun x y H Q=>∃ (a t:Addr) (bs:List Addr) (R:List (List Int)) (l:List Int),x = .ref a∧y = .ref t∧H a = some (.lst (l.map V.int))∧aV H t bs R∧Q (.bl (if neg then !decide (l∈R) else decide (l∈R))) H
def DW:V→List V→Hp→VK→Prop:=fun x vs H Q=>∃ (a t:Addr) (bs:List Addr) (R:List (List Int)) (l:List Int),x = .ref t∧vs = [.ref a]∧H a = some (.lst (l.map V.int))∧aV H t bs R∧l∈R∧Q (.int (R.idxOf l:Nat)) H
end
end L2
end
section
namespace L2
open PySem PySem.Spec PySem.W PySem.Calls PyProof.Rows HT
def MO (K:Frag):R2:=fun x y H Q=>∃ (a b:Addr) (ns ms:List Int),x = .ref a∧y = .ref b∧aG K H a (ns.map V.int)∧aG K H b (ms.map V.int)∧Q (.bl (!lexLt ms ns)) H
end L2
end
section
namespace Gm
open PySem L2
structure Sb (L:List (List Int)):Prop where
 map:aI L
 ES:∃ R S,Dec L R∧yT L S∧2 * (L.length + R.length + iso L) = (fe L L.length).length + 4 * S.length
end Gm
end
section
namespace Gm
open PySem L2
def lp (v:Int) (p:List Int) (j:Nat):Int:=if j = 0 then v else p.getD (j - 1) v
def On (v:Int) (p:List Int) (d:ay):Prop:=∃ j,j≤p.length∧(d = (lp v p j,lp v p (j + 1))∨d = (lp v p (j + 1),lp v p j))
end Gm
end
section
namespace L2
open PySem PySem.Spec PySem.W PySem.Calls PyProof.Rows Gm
def QO (d:Addr) (o:Obj) (au:List (Key×V)):It:=
 ⟨fun i H=>H d = some (.eF o (.dK au))∧i < au.length,fun i H x H'=>H' = H∧∃ k v,au[i]? = some (k,v)∧x = kV k,fun i H=>H d = some (.eF o (.dK au))∧au.length≤i⟩
section
variable {X:Cx} {tg:Expr}
def Ky (tl:TE):TI:=fun σ H R=>tl σ H fun x H1=>∃ a au,x = .ref a∧H1 a = some (.dK au)∧∀ o,R (QO a o au) (upd H1 a (.eF o (.dK au)))
def FQ:List V→Hp→VK→Prop:=fun xs H Q=>∃ a au,xs = [V.ref a]∧H a = some (.dK au)∧∀ p,H p = none→Q (.ref p) (upd H p (.lst (au.map fun kv=>kV kv.1)))
def QL (K:Frag) (a:Addr) (xs:List V):It:=
 ⟨fun i H=>aG K H a xs∧i < xs.length,fun i H x H'=>H' = H∧xs.reverse[i]? = some x,fun i H=>xs.length≤i⟩
def Oe (K:Frag) (tl:TE):TI:=fun σ H R=>tl σ H fun x H1=>∃ a xs,x = .ref a∧aG K H1 a xs∧R (QL K a xs) H1
end
end L2
end
section
namespace Gm
open PySem L2
def kF (ks:List Int) (f:Int→Int):List (Key×V):=ks.map fun x=>((Sum.inl x:Key),V.int (f x))
def Pt (f:Int→Int) (x h:Int):Int→Int:=fun y=>if y = x then h else f y
structure Si (L:List (List Int)) (ks:List Int) (f:Int→Int):Prop where
 nd:ks.Nodup
 rg:∀ x∈ks,0≤x∧x < L.length
 hu:∀ x∈ks,0≤f x∧f x < 5
 ap:∀ x∈ks,∀ y∈rowOf L x,y∈ks→f y≠f x
def near (L:List (List Int)) (ks:List Int) (v:Int):List Int:=(rowOf L v).filter fun z=>decide (z∈ks)
def Lc (ts:List Int):List Int:=(o8 5).filter fun h=>!decide (h∈ts)
section
variable {L:List (List Int)} {ks:List Int} {f:Int→Int} {v:Int}
structure vP (L:List (List Int)) (ks:List Int) (f:Int→Int) (a b:Int) (S:List Int):Prop where
 sh:∀ x,x∈S↔(0≤x∧x < L.length)∧¬ (x∈ks∧(f x = a∨f x = b))
def BR (L:List (List Int)) (ks:List Int) (f:Int→Int) (a b:Int):List Int:=(o8 L.length).filter fun x=>!decide (x∈ks∧(f x = a∨f x = b))
def Sj (L:List (List Int)) (ks:List Int) (f:Int→Int) (one other x:Int):Prop:=oV L (BR L ks f (f one) (f other)) one x
def JH (f:Int→Int) (a b:Int) (G:List Int):Int→Int:=fun y=>if y∈G then a + b - f y else f y
end
structure Off (L:List (List Int)) (os:List Int):Prop where
 nd:os.Nodup
 rg:∀ x∈os,0≤x∧x < L.length
 lC:∀ (i:Nat) (x:Int),os[i]? = some x→((rowOf L x).filter fun z=>!decide (z∈os.take i)).length≤5
end Gm
end
section
namespace Gm
open PySem L2
def Qm:List (List Int):=[[1,2,3,4,5],[0,5,10,6,2],[0,1,6,7,3],[0,2,7,8,4],[0,3,8,9,5],[0,4,9,10,1],[1,10,11,7,2],[2,6,11,8,3],[3,7,11,9,4],[4,8,11,10,5],[5,9,11,6,1],[10,9,8,7,6]]
def LB:List (List ay):=[[(0,1),(1,2),(2,0)],[(0,2),(2,3),(3,0)],[(0,3),(3,4),(4,0)],[(0,4),(4,5),(5,0)],[(0,5),(5,1),(1,0)],[(1,5),(5,10),(10,1)],[(1,10),(10,6),(6,1)],[(1,6),(6,2),(2,1)],[(2,6),(6,7),(7,2)],[(2,7),(7,3),(3,2)],[(3,7),(7,8),(8,3)],[(3,8),(8,4),(4,3)],[(4,8),(8,9),(9,4)],[(4,9),(9,5),(5,4)],[(5,9),(9,10),(10,5)],[(6,10),(10,11),(11,6)],[(6,11),(11,7),(7,6)],[(7,11),(11,8),(8,7)],[(8,11),(11,9),(9,8)],[(9,11),(11,10),(10,9)]]
section
variable {A R:List (List Int)} {l:List Int}
def Rq (l:List Int) (d:ay):ay:=(Eh l d.1,Eh l d.2)
end
end Gm
end
section
namespace L2
open PySem PySem.Spec PySem.W PySem.Calls PyProof.Rows Gm Fr
end L2
namespace Gm
open PySem L2
theorem lB {p:Int→Bool} {r:List Int} {j:Nat} {y:Int} (hy:r[j]? = some y):(r.take (j + 1)).filter p = (r.take j).filter p ++ if p y = true then [y] else []:=by
 rw [List.take_add_one,hy,List.filter_append]
 congr 1
 cases h:p y <;> simp [h]
theorem qM {L:List (List Int)} (m:aI L) {i:Nat} {r:List Int} (h:L[i]? = some r):r.length≤L.length:=cn (m.nd _ _ h) fun y hy=>⟨(m.rg _ _ h y hy).1,(m.rg _ _ h y hy).2.1⟩
end Gm
end
section
namespace L2
open PySem PySem.Spec PySem.W PySem.Calls PyProof.Rows Gm
section
variable {prog:Program} {w:World} {ar:Around} {E:Value→Shared→Prop} {t0:Shared} {dk ik:Addr} {o:Obj} {ents:Array DictEntry} {ep:Nat}
theorem vO {Q:Value→Shared→Prop} (nd:(dk == sysModules) = false) (ho:t0.heap.get? dk = some o) (hx:o.ExactDict) (hd:o.data = .dict ents ep)
  (q:Q (.ref t0.heap.objs.size) { t0 with heap:=t0.heap.push { cls:=.type "dict_keyiterator",data:=.fields #[.ref dk,.int 0 0,.int ents.size 0,.int ep 0] } }) :
  wpAny (model prog w) ar (pyIter (.ref dk)) Q E t0:=by
 have ty:t0.TypeIs (.ref dk) "dict":=⟨o,ho,hx.1⟩
 refine wpAny_pyIter_slot ty F.slot_dict_iter (wpAny_call_entry F.slot_dict_iter ty F.entry_dict_iter ?_ (F.args_dict_iter_1 _))
 unfold Builtin.«dict.__iter__» Builtin.Dict.dictSlotNone
 refine wpAny_bind (wpAny_bind (wpAny_notOrdered_dict ty (show wpAny _ _ (pure (Value.ref dk)) _ _ t0 from wpAny_pure ?_)))
 show wpAny _ _ (Builtin.Dict.showsAll dk >>= _) _ _ t0
 unfold Builtin.Dict.showsAll
 rw [if_neg (by rw [nd]; exact Bool.false_ne_true)]
 refine wpAny_bind (wpAny_pure (wpAny_bind (wpAny_dictEntries ho hd (wpAny_bind (wpAny_dictEpoch ho hd (wpAny_bind (wpAny_newObj_type (wpAny_pure ⟨_,rfl, "dict_keyiterator",_,⟨_,Heap.get?_push_size _ rfl,rfl⟩,F.slot_dict_keyiterator_next.lookup,?_⟩))))))))
 simpa [rawInt] using q
theorem vN (i:Nat) (hit:t0.heap.IsKeyIter ik dk i ents.size ep) (ho:t0.heap.get? dk = some o) (hd:o.data = .dict ents ep) (hi:i < ents.size) {Q:Option Value→Shared→Prop}
  (q:∀ h',h'.IsKeyIter ik dk (i + 1) ents.size ep→Heap.SameBut ik t0.heap h'→Q (some ents[i].key) { t0 with heap:=h' }):wpAny (model prog w) ar (pyNext (.ref ik)) Q E t0:=by
 obtain ⟨oi,gi,ci,di⟩:=id hit
 unfold pyNext
 refine wpAny_bind (wpAny_attempt (wpAny_callSpecial?_slot (name:=Str.ofString "__next__") hit.typeIs F.slot_dict_keyiterator_next (wpAny_call_entry F.slot_dict_keyiterator_next hit.typeIs F.entry_dict_keyiterator_next ?_ (F.args_dict_keyiterator_next_1 _))))
 refine wpAny_bind (wpAny_pure (wpAny_bind (wpAny_bind ?_)))
 first | refine wpAny_bind (wpAny_typeNameOfWhole_keyiter hit.typeIs (wpAny_pure (wpAny_bind (wpAny_fieldsOf gi di ?_)))) | refine wpAny_bind (wpAny_typeNameOf_keyiter hit.typeIs (wpAny_pure (wpAny_bind (wpAny_fieldsOf gi di ?_))))
 simp only [show Builtin.Dict_items.ownsTuple "dict_keyiterator" = false by decide,Bool.false_eq_true,if_false]
 show wpAny _ _ (if (Value.ref dk == Value.none) = true then _ else _) _ _ t0
 rw [if_neg (show ¬ ((Value.ref dk == Value.none) = true) from Bool.false_ne_true)]
 refine wpAny_bind (wpAny_pure (wpAny_bind (wpAny_dictEntries ho hd ?_)))
 rw [if_neg (by simp)]
 refine wpAny_bind (wpAny_pure (wpAny_bind (wpAny_dictEpoch ho hd ?_)))
 rw [if_neg (by simp)]
 refine wpAny_pure ?_
 simp only [show ¬ ((i:Int) < 0) from by omega,if_false,Int.toNat_natCast,Array.getElem?_eq_getElem hi]
 refine wpAny_bind ?_
 first | refine wpAny_bind (wpAny_typeNameOfWhole_keyiter hit.typeIs (wpAny_pure (wpAny_bind (wpAny_isOneOf_keyiter hit.typeIs ?_)))) | refine wpAny_bind (wpAny_typeNameOf_keyiter hit.typeIs (wpAny_pure (wpAny_bind (wpAny_isOneOf_keyiter hit.typeIs ?_))))
 show wpAny _ _ (setField (.ref ik) 1 (rawInt ((i:Int) + 1)) >>= _) _ _ t0
 refine wpAny_bind (wpAny_setField gi di (by simp) ?_)
 have nx:(t0.heap.update ik (Obj.mapFields (·.setIfInBounds 1 (rawInt ((i:Int) + 1))))).IsKeyIter ik dk (i + 1) ents.size ep:=
  ⟨_,Heap.get?_update_self _ gi (Obj.isFreed_of_fields (Obj.data_mapFields di _)),(Obj.cls_mapFields ..).trans ci,by rw [Obj.data_mapFields di]; simp [rawInt]⟩
 refine wpAny_bind (wpAny_holding (wpAny_bind (wpAny_isOneOf_keyiter (s:={ t0 with heap:=t0.heap.update ik (Obj.mapFields (·.setIfInBounds 1 (rawInt ((i:Int) + 1)))) }) nx.typeIs ?_)))
 show wpAny _ _ (pure ents[i].key) _ _ _
 exact wpAny_pure (wpAny_pure ⟨_,rfl,wpAny_pure (q _ nx (Heap.SameBut.update ..))⟩)
theorem vM (i:Nat) (hh:ar.handled = none) (hit:t0.heap.IsKeyIter ik dk i ents.size ep) (ho:t0.heap.get? dk = some o) (hd:o.data = .dict ents ep) (hi:ents.size≤i) {Q:Option Value→Shared→Prop}
  (q:∀ h',Heap.ExtBut ik t0.heap h'→Q none { t0 with heap:=h' }):wpAny (model prog w) ar (pyNext (.ref ik)) Q E t0:=by
 obtain ⟨oi,gi,ci,di⟩:=id hit
 unfold pyNext
 refine wpAny_bind (wpAny_attempt (wpAny_callSpecial?_slot (name:=Str.ofString "__next__") (hit).typeIs F.slot_dict_keyiterator_next (wpAny_call_entry F.slot_dict_keyiterator_next (hit).typeIs F.entry_dict_keyiterator_next ?_ (F.args_dict_keyiterator_next_1 _))))
 refine wpAny_bind (wpAny_pure (wpAny_bind (wpAny_bind ?_)))
 first | refine wpAny_bind (wpAny_typeNameOfWhole_keyiter (hit).typeIs (wpAny_pure (wpAny_bind (wpAny_fieldsOf gi di ?_)))) | refine wpAny_bind (wpAny_typeNameOf_keyiter (hit).typeIs (wpAny_pure (wpAny_bind (wpAny_fieldsOf gi di ?_))))
 simp only [show Builtin.Dict_items.ownsTuple "dict_keyiterator" = false by decide,Bool.false_eq_true,if_false]
 show wpAny _ _ (if (Value.ref dk == Value.none) = true then _ else _) _ _ t0
 rw [if_neg (show ¬ ((Value.ref dk == Value.none) = true) from Bool.false_ne_true)]
 refine wpAny_bind (wpAny_pure (wpAny_bind (wpAny_dictEntries ho hd ?_)))
 rw [if_neg (by simp)]
 refine wpAny_bind (wpAny_pure (wpAny_bind (wpAny_dictEpoch ho hd ?_)))
 rw [if_neg (by simp)]
 refine wpAny_pure ?_
 simp only [show ¬ ((i:Int) < 0) from by omega,if_false,Int.toNat_natCast,Array.getElem?_eq_none hi]
 refine wpAny_bind ?_
 first | refine wpAny_bind (wpAny_typeNameOfWhole_keyiter (hit).typeIs (wpAny_pure ?_)) | refine wpAny_bind (wpAny_typeNameOf_keyiter (hit).typeIs (wpAny_pure ?_))
 show wpAny _ _ (setField (.ref ik) 0 .none >>= _) _ _ t0
 refine wpAny_bind (wpAny_setField gi di (by simp) (show wpAny _ _ (newExc (.type "StopIteration") [] >>= _) _ _ _ from wpAny_bind ?_))
 simp only [newExc,newTuple]
 refine wpAny_bind (wpAny_newObj_type (wpAny_bind (m:=firstArgMember _ _) (wpAny_of_eq (a:=Value.none) (by first | rfl | (simp only [firstArgMember]; rfl)) (wpAny_newObj_type ?_ (by size_fits)))) (by size_fits))
 simp only [raiseNew]
 refine wpAny_bind (wpAny_handled ?_); rw [show ar.in1.handled = none from hh]; refine wpAny_bind (wpAny_pure (wpAny_throw ?_))
 refine wpAny_bind (wpAny_isInstance (b:=true) (T:= "StopIteration") ⟨_,Heap.get?_push_size _ rfl,rfl⟩ isSubtype_stop ?_)
 exact wpAny_pure (q _ (((Heap.SameBut.update ..).extBut.push _).push _))
end
def Bs (d:Addr) (o:Obj) (au:List (List Key×V)):It:=
 ⟨fun i H=>H d = some (.eF o (.dT au))∧i < au.length,fun i H x H'=>H' = H∧∃ k v b,au[i]? = some (k,v)∧H b = some (.tup (k.map kV))∧x = .ref b,fun i H=>H d = some (.eF o (.dT au))∧au.length≤i⟩
theorem wm {P:Program} {w:World} {K:Frag} {tg:Expr} {d it:Addr} {o:Obj} {au:List (List Key×V)} {es:Array DictEntry} {ep:Nat} (hd:o.data = .dict es ep) (hn:es.size = au.length) :
  Turn P w K tg (Bs d o au) [it] it (fun i h=>h.IsKeyIter it d i es.size ep) where
 mem:=by simp
 obj:=fun i h st b hb=>by
  have e:b = it:=by simpa using hb
  subst e
  obtain ⟨o,e,c,d⟩:=st
  exact ⟨o,e,fun v z=>by rw [d] at z; cases z⟩
 keep:=fun i h h' st k=>let ⟨o,e,r⟩:=st; ⟨o,k it (by simp) o e,r⟩
 item:=by
  intro X hP hw hK hc i pins s σ H E I hf st hg
  subst hP hw hK
  obtain ⟨HR,hi⟩:=hg
  obtain ⟨e1,ok⟩:=(show bh X.prog X.w H s.heap d (.eF o (.dT au)) from I.bz d _ HR)
  obtain ⟨z,y,xs,r,o2,Io,R4,h1,h2,h3,h4,h5⟩:=(show bh X.prog X.w H s.heap d (.dT au) from ok)
  rw [e1] at h1
  cases h1
  rw [hd] at h3
  cases h3
  obtain ⟨f0,f1,f2,f3,f4,f5⟩:=hf it (by simp)
  refine vN i st e1 hd (by omega) fun h' vT sb=>?_
  have I1:Inv X pins σ H { s with heap:=h' }:=I.turned (t':=s.toks) (fun b o hb e=>(sb.2 b hb).trans e) f0 f1 f3 f4 f5
  obtain ⟨o',e',c',d'⟩:=id vT
  have xl:=r.length
  have KC:xs[i]? = some (xs[i]'(by omega)):=List.getElem?_eq_getElem _
  have key:∀ {l:List (List Key×V)} {m:List (List Key×Addr×Value)} (_:Paired (fun (p:List Key×V) (q:List Key×Addr×Value)=>p.1 = q.1∧H q.2.1 = some (.tup (p.1.map kV))∧RelV p.2 q.2.2) l m) (j:Nat) (x:List Key×Addr×Value),m[j]? = some x→∃ v,l[j]? = some (x.1,v)∧H x.2.1 = some (.tup (x.1.map kV)):=by
   intro l m pr
   induction pr with
   | nil=>intro j x e; simp at e
   | @cons p q ps qs hq _ ih=>
    intro j x e
    cases j with
    | zero=>
     have e:q = x:=by simpa using e
     subst e
     obtain ⟨p1,p2⟩:=p
     obtain ⟨a1,a2,_⟩:=hq
     have a1:p1 = q.1:=a1
     subst a1
     exact ⟨p2,rfl,a2⟩
    | succ j=>simpa using ih j x (by simpa using e)
  obtain ⟨v,hv,hb⟩:=key r i _ KC
  have ek:es[i]'(by omega) = entryOfKey (tupleKind (bQ X.prog X.w)) (xs[i]'(by omega)):=by
   have:=entry_at h4 i
   rw [KC,Array.getElem?_eq_getElem (by omega)] at this
   exact Option.some.inj this
  rw [ek]
  exact ⟨_,rfl,vq (s:={ s with heap:=h' }) e' c' d' (by decide) ⟨.ref (xs[i]'(by omega)).2.1,H,I1,rfl,⟨rfl,_,v,_,hv,hb,rfl⟩,vT,fun b hb=>(hf b hb).1⟩⟩
 done:=by
  intro X hP hw hK hc i pins s σ H E I hf st hg
  subst hP hw hK
  obtain ⟨HR,hi⟩:=hg
  obtain ⟨e1,ok⟩:=(show bh X.prog X.w H s.heap d (.eF o (.dT au)) from I.bz d _ HR)
  obtain ⟨f0,f1,f2,f3,f4,f5⟩:=hf it (by simp)
  exact vM i (I.ok.hd hc) st e1 hd (by omega) fun h' eb=>⟨rfl,I.turned (t':=s.toks) (fun b o hb e=>eb b o hb e) f0 f1 f3 f4 f5⟩
 self:=fun _ _ _ _ _ st h=>wpAny_pyIter_keyiter st h
section
variable {X:Cx} {tg:Expr}
def vj (tl:TE):TI:=fun σ H R=>tl σ H fun x H1=>∃ a au,x = .ref a∧H1 a = some (.dT au)∧∀ o,R (Bs a o au) (upd H1 a (.eF o (.dT au)))
theorem uL {l:Expr} {tl:TE} (hl:PE X l tl):PI X tg l (vj tl):=by
 intro pins s σ H R I h
 refine b5 (hl pins s σ H _ I h) fun v s1 ⟨x,H1,I1,r1,q1⟩=>?_
 obtain ⟨a,au,e,hq,q⟩:=q1
 subst e
 cases r1
 obtain ⟨z,y,xs,r,o,es,ep,h1,h2,h3,h4,h5⟩:=(show bh X.prog X.w H1 s1.heap a (.dT au) from I1.bz a _ hq)
 have nz:es.size = au.length:=by rw [size_of_entries h4]; exact r.length.symm
 refine vO y h1 h2 h3 ?_
 generalize CN:s1.heap.push { cls:=Value.type "dict_keyiterator",data:=Data.fields #[Value.ref a,Value.int 0 0,Value.int es.size 0,Value.int ep 0] } = h'
 have kp:∀ c o,s1.heap.get? c = some o→h'.get? c = some o:=fun c o e=>CN▸Heap.get?_push_of_some _ e
 have na:∀ b ys,H1 b = some (.tup ys)→b≠a:=fun b ys e z=>by rw [z,hq] at e; cases e
 have I2:Inv X pins σ (upd H1 a (.eF o (.dT au))) { s1 with heap:=h',toks:=s1.toks }:=
  Inv.write (e:=a) (t':=s1.toks) I1 (by rw [hq]; trivial) (.inl rfl) (fun b u _ e=>kp b u e) ⟨o,kp _ _ h1⟩
   ⟨kp _ _ h1,z,y,xs,Paired.sL r fun p q w=>⟨w.1,by rw [ak (na _ _ w.2.1)]; exact w.2.1,w.2.2⟩,o,es,ep,kp _ _ h1,h2,h3,h4,h5⟩
 refine ⟨s1.heap.objs.size,[s1.heap.objs.size],_,_,_,rfl,I2,wm h3 nz,⟨_,CN▸Heap.get?_push_size _ rfl,rfl,rfl⟩,fun b hb=>?_,q o⟩
 have e:b = s1.heap.objs.size:=by simpa using hb
 subst e
 have ne:s1.heap.objs.size≠a:=fun z=>Nat.lt_irrefl _ (z▸Heap.lt_size h1)
 have f:=I1.vt (Nat.le_refl _) (I1.bz.fresh (Nat.le_refl _))
 exact ⟨(ak ne).trans f.1,f.2⟩
theorem uC {tl:TE} {σ : St} {H:Hp} {R:It→Hp→Prop} (h:tl σ H fun x H1=>∃ a au,x = .ref a∧H1 a = some (.dT au)∧∀ o,R (Bs a o au) (upd H1 a (.eF o (.dT au)))):vj tl σ H R:=h
theorem sX {d:Addr} {o:Obj} {au:List (List Key×V)} {g:TG} {tb:TS} {D:Ends} {σ : St} {H:Hp} (Pv:Nat→St→Hp→Prop) (h0:Pv 0 σ H) (hl:∀ i σ H,i≤au.length→Pv i σ H→H d = some (.eF o (.dT au)))
  (hs:∀ i k v b σ H,au[i]? = some (k,v)→H b = some (.tup (k.map kV))→Pv i σ H→g (.ref b) σ H fun σ2 H2=>tb { D with nx:=Pv (i + 1),ct:=Pv (i + 1),bk:=D.nx } σ2 H2) (hd:∀ σ H,Pv au.length σ H→D.nx σ H) :
  ∃ W:Nat→Nat→St→Hp→Prop,(∃ m,W 0 m σ H)∧∀ i m σ H,W i m σ H→
   ((Bs d o au).stop i H∧D.nx σ H)∨((Bs d o au).go i H∧∃ N:St→Hp→Prop,(∀ σ' H',N σ' H'→∃ m',m' < m∧W (i + 1) m' σ' H')∧∀ x H',(Bs d o au).tV i H x H'→g x σ H' fun σ2 H2=>tb { D with nx:=N,ct:=N,bk:=D.nx } σ2 H2):=by
 refine ⟨fun i m σ H=>m = au.length - i∧i≤au.length∧Pv i σ H,⟨au.length,by simp,Nat.zero_le _,h0⟩,?_⟩
 rintro i m σ H ⟨rfl,hi,p⟩
 have q:=hl i σ H hi p
 by_cases dD:i < au.length
 ·refine .inr ⟨⟨q,dD⟩,Pv (i + 1),fun σ' H' p'=>⟨au.length - (i + 1),by omega,rfl,dD,p'⟩,fun x H' y=>?_⟩
  obtain ⟨e,k,v,b,hk,hb,rfl⟩:=y
  subst e
  exact hs i k v b σ _ hk hb p
 ·have e:i = au.length:=by omega
  subst e
  exact .inl ⟨⟨q,Nat.le_refl _⟩,hd σ H p⟩
theorem Inv.E9 {pins:List (Addr×Obj)} {σ : St} {H:Hp} {s:Shared} {d:Addr} {o:Obj} {u:HO} (I:Inv X pins σ H s) (hf:H d = some (.eF o u)) (nt:∀ xs,u≠.tup xs) (no:∀ x,u≠.own x) (h0:∀ o' u',X.H₀ d≠some (.eF o' u')):Inv X pins σ (upd H d u) s:=by
 have nd:∀ {b:Addr},H b = none→b≠d:=fun {b} e z=>by rw [z,hf] at e; cases e
 have ok:gc X.prog X.w (upd H d u) s.heap:=fun b v e=>by
  have ts:∀ c xs,H c = some (.tup xs)→upd H d u c = some (.tup xs):=fun c xs q=>by
   rw [ak (show c≠d from fun z=>by rw [z,hf] at q; cases q)]; exact q
  have os:∀ c x,H c = some (.own x)→upd H d u c = some (.own x):=fun c x q=>by
   rw [ak (show c≠d from fun z=>by rw [z,hf] at q; cases q)]; exact q
  by_cases z:b = d
  ·subst z
   rw [ae] at e
   cases e
   obtain ⟨_,q⟩:=(show bh X.prog X.w H s.heap b (.eF o u) from I.bz b _ hf)
   exact q.lX (fun c v _ r=>r) (fun c q=>os c _ q) ts
  ·rw [ak z] at e
   exact (I.bz b v e).lX (fun c v _ r=>r) (fun c q=>os c _ q) ts
 have bs:Un X.fs X.ex X.H₀ (upd H d u) X.s₀.heap s.heap:=by
  refine ⟨I.base.keep,I.base.slot,fun b ob e n hx=>?_,I.base.there,fun b xs e=>?_,fun b ob v e=>?_,fun b ps e=>?_⟩
  ·have:=I.base.free b ob e n hx
   rw [ak (nd this)]; exact this
  ·have:=I.base.lU b xs e
   rw [ak (show b≠d from fun z=>by rw [z,hf] at this; cases this)]; exact this
  ·have:=I.base.kG b ob v e
   rw [ak (show b≠d from fun z=>h0 ob v (by rw [← z]; exact e))]; exact this
  ·obtain ⟨m,this⟩:=I.base.lV b ps e
   exact ⟨m,by rw [ak (show b≠d from fun z=>by rw [z,hf] at this; cases this)]; exact this⟩
 exact ⟨I.ok,I.os,I.bare,bs,I.loc,I.cell,by rw [ak (nd I.free)]; exact I.free,fun x c e=>by rw [ak (nd (I.eu x c e))]; exact I.eu x c e,fun p hp=>by
  obtain ⟨a1,a2,a3⟩:=I.pin p hp
  exact ⟨a1,by rw [ak (nd a2)]; exact a2,a3⟩,ok,I.len⟩
end
end L2
end
section
namespace L2
open PySem PySem.Spec PySem.W PySem.Calls PyProof.Rows Gm
section
variable {X:Cx} {pins:List (Addr×Obj)} {σ : St} {H:Hp} {s:Shared} {a:Addr} {A:Around} {E:Value→Shared→Prop}
theorem AH {au:List (List Key×V)} {k:List Key} {b:Addr} {v:V} {r:Value} {Q:Unit→Shared→Prop} (hu:A.units < cLine) (I:Inv X pins σ H s) (e:H a = some (.dT au)) (eb:H b = some (.tup (k.map kV))) (l:au.length < sizeLine) (rv:RelV v r)
  (h:∀ s',Inv X pins σ (upd H a (.dT (putK au k v))) s'→Q () s'):wpAny (model X.prog X.w) A (dictSet a (.ref b) r) Q E s:=by
 obtain ⟨z,hd,xs,rel,dd⟩:=vz I.bz e
 refine wpAny_dictSet_heap (hsz:=by rw [← Paired.length rel]; exact z) (knd:=tupleKind (bQ X.prog X.w)) hu (gD I.bz eb) dd fun h' yL hs=>h _ ?_
 obtain ⟨q,es,ep,hq,h2,h3,h4,_,h5⟩:=yL
 refine i9 I (by rw [e]; exact True.intro) hs ⟨q,hq⟩ ⟨by have:=fH au k v; omega,hd,_,(rel.put k eb rv).keeps fun c ys ec=>?_,q,es,ep,hq,h2,h3,h4,h5⟩
 rw [ak (uY ec e (fun z=>nomatch z))]
 exact ec
def ud (tk tv:TE):TE:=fun σ H Q=>∀ p,H p = none→lW [(tk,tv)] σ (upd H p (.dT [])) fun ps H2=>H2 p = some (.dT [])∧∃ (b:Addr) (k:List Key) (y:V),ps = [(.ref b,y)]∧H2 b = some (.tup (k.map kV))∧Q (.ref p) (upd H2 p (.dT [(k,y)]))
theorem qT {tk tv:TE} {Q:VK} (h:∀ p,H p = none→tk σ (upd H p (.dT [])) fun x H1=>tv σ H1 fun y H2=>H2 p = some (.dT [])∧∃ (b:Addr) (k:List Key) (z:V),[(x,y)] = [(V.ref b,z)]∧H2 b = some (.tup (k.map kV))∧Q (.ref p) (upd H2 p (.dT [(k,z)]))):ud tk tv σ H Q:=h
theorem n6 {pos:Pos} {ke ve:Expr} {tk tv:TE} (hu:X.A.units < cLine) (hk:PE X ke tk) (hv:PE X ve tv):PE X (.Dict [some ke] [ve] pos) (ud tk tv):=by
 intro pins s σ H Q I q
 have hn:=I.bz.fresh (Nat.le_refl s.heap.objs.size)
 have I1:=I.laid (a:=s.heap.objs.size) (o:=.dT []) (h':=s.heap.push { cls:=.type "dict",data:=.dict #[] }) (t':=s.toks) (fun _ _ q=>Heap.get?_push_of_some _ q) (Nat.le_refl _) (oM s.heap I.big)
 refine wpAny_Dict_any rfl rfl (by simp) (by simp) (b5 (uK (pos:=pos) hk hv wK pins _ σ _ _ I1 (q _ hn)) ?_)
 rintro ws s2 ⟨ps,H2,I2,rel,e,b,k,y,rfl,eb,q2⟩
 cases rel with
 | @cons _ w _ wr r1 r2=>
  cases r2
  obtain ⟨wk,wv⟩:=w
  obtain ⟨r1,r3⟩:=r1
  cases (show wk = Value.ref b from r1)
  unfold storeAll
  rw [List.forIn_cons]
  refine wpAny_bind (wpAny_bind (AH (v:=y) hu I2 e eb (by rw [sizeLine_eq]; simp) r3 fun s3 I3=>wpAny_pure ?_))
  show wpAny _ _ (forIn ([]:List (Value×Value)) PUnit.unit _) _ _ _
  rw [List.forIn_nil]
  exact wpAny_pure ⟨.ref s.heap.objs.size,_,I3,rfl,q2⟩
theorem wo {kn:HeapKind X.prog X.w (List Key)} {d b:Addr} {xs:List (List Key×Addr×Value)} {k:List Key} {j:Nat} {p:Addr×Value} {Q:Option DictEntry→Shared→Prop} (hu:kn.room A) (oC:kn.is s.heap k b) (hm:s.heap.DictOfH kn d xs) (hj:xs[j]? = some (k,p)) (hz:xs.length≤sizeLine)
  (q:∀ h',h'.DictOfH kn d (xs.eraseIdx j)→Heap.SameBut d s.heap h'→Q (some (entryOfKey kn (k,p))) { s with heap:=h',toks:=s.toks + kn.draws k }) :
  wpAny (model X.prog X.w) A (Builtin.Dict.takeOut d (.ref b)) Q E s:=by
 obtain ⟨o,es,ep,ho,hc,hd,he,KZ,hn⟩:=hm
 unfold Builtin.Dict.takeOut
 refine wpAny_holding (wpAny_bind (kn.pyHash hu oC (wpAny_bind (wpAny_dictFind_heap (s:={ s with toks:=s.toks + kn.draws k }) hu oC ho hd he KZ hn (fun no=>absurd hj (no j p)) fun i p' hi=>?_))))
 have ij:i = j∧p' = p:=by
  have h1:(xs.map (·.1))[i]? = some k:=by rw [List.getElem?_map,hi]; rfl
  have h2:(xs.map (·.1))[j]? = some k:=by rw [List.getElem?_map,hj]; rfl
  obtain ⟨l1,e1⟩:=List.getElem?_eq_some_iff.mp h1
  obtain ⟨l2,e2⟩:=List.getElem?_eq_some_iff.mp h2
  have e:i = j:=by
   have pw:=List.pairwise_iff_getElem.mp hn
   rcases Nat.lt_trichotomy i j with z | z | z
   ·exact absurd (e1.trans e2.symm) (pw i j l1 l2 z)
   ·exact z
   ·exact absurd (e2.trans e1.symm) (pw j i l2 l1 z)
  subst e
  rw [hi] at hj
  cases hj
  exact ⟨rfl,rfl⟩
 obtain ⟨rfl,rfl⟩:=ij
 refine wpAny_bind (wpAny_dictEntries (s:={ s with toks:=s.toks + kn.draws k }) ho hd ?_)
 rw [entry_at he i,hi]
 have el:=size_of_entries he
 have il:=(List.getElem?_eq_some_iff.mp hi).1
 refine wpAny_bind (wpAny_updateDictKeys (s:={ s with toks:=s.toks + kn.draws k }) (hz:=by omega) (hf:=by unfold Array.eraseIdxIfInBounds; split <;> simp <;> omega) ho hd (wpAny_pure (q _ ⟨_,_,ep + 1,Heap.get?_update_self _ ho (Obj.isFreed_of_dict (Obj.data_mapDictKeys hd _)),hc.mapDictKeys _,Obj.data_mapDictKeys hd _,?_,fun x hx=>kn.keeps (KZ x (List.mem_of_mem_eraseIdx hx)) ho hd (Heap.SameBut.update ..),?_⟩ (Heap.SameBut.update ..))))
 ·rw [Array.eraseIdxIfInBounds,dif_pos (show i < es.size by omega),Array.toList_eraseIdx,he]
  have er:∀ (l:List (List Key×Addr×Value)) (i:Nat),(l.map (entryOfKey kn)).eraseIdx i = (l.eraseIdx i).map (entryOfKey kn):=fun l=>by
   induction l with
   | nil=>intro i; rfl
   | cons x l ih=>intro i; cases i with
    | zero=>rfl
    | succ i=>simp [ih i]
  exact er xs i
 ·have er:∀ (l:List (List Key×Addr×Value)) (i:Nat),(l.eraseIdx i).map (·.1) = (l.map (·.1)).eraseIdx i:=fun l=>by
   induction l with
   | nil=>intro i; rfl
   | cons x l ih=>intro i; cases i with
    | zero=>rfl
    | succ i=>simp [ih i]
  rw [er]
  exact hn.sublist (List.eraseIdx_sublist _ _)
end
end L2
namespace L2
open PySem PySem.Spec PySem.W PySem.Calls PyProof.Rows Gm
section
variable {X:Cx} {pins:List (Addr×Obj)} {σ : St} {H:Hp} {s:Shared} {a:Addr} {A:Around} {E:Value→Shared→Prop}
theorem AI {au:List (List Key×V)} {k:List Key} {b:Addr} {v:V} {j:Nat} {Q:Value→Shared→Prop} (hu:A.units + 1 < cLine) (I:Inv X pins σ H s) (e:H a = some (.dT au)) (eb:H b = some (.tup (k.map kV))) (hj:au[j]? = some (k,v))
  (h:∀ w' s',Inv X pins σ (upd H a (.dT (au.eraseIdx j))) s'→RelV v w'→Q w' s'):wpAny (model X.prog X.w) A (call (.builtin "dict.pop") [.ref a,.ref b]) Q E s:=by
 obtain ⟨z,hd,xs,rel,dd⟩:=vz I.bz e
 have xl:=Paired.length rel
 have jl:=(List.getElem?_eq_some_iff.mp hj).1
 have pick:∀ {l:List (List Key×V)} {m:List (List Key×Addr×Value)} (_:KT H l m) (j:Nat) (k:List Key) (v:V),l[j]? = some (k,v)→∃ (c:Addr) (w':Value),m[j]? = some (k,c,w')∧RelV v w':=by
  intro l m pr
  induction pr with
  | nil=>intro j k v e; simp at e
  | @cons p q ps qs hq _ ih=>
   intro j k v e
   cases j with
   | zero=>
    have e:p = (k,v):=by simpa using e
    subst e
    obtain ⟨q1,q2,q3⟩:=q
    obtain ⟨a1,_,a3⟩:=hq
    have a1:k = q1:=a1
    subst a1
    exact ⟨q2,q3,rfl,a3⟩
   | succ j=>simpa using ih j k v (by simpa using e)
 obtain ⟨c,w',hx,nP⟩:=pick rel j k v hj
 have drop:∀ {l:List (List Key×V)} {m:List (List Key×Addr×Value)} (_:KT H l m) (j:Nat),KT H (l.eraseIdx j) (m.eraseIdx j):=by
  intro l m pr
  induction pr with
  | nil=>intro j; exact .nil
  | cons hq t ih=>
   intro j
   cases j with
   | zero=>exact t
   | succ j=>exact .cons hq (ih j)
 have ty:=dd.typeIs
 obtain ⟨o0,PF,R5,OL,K6,O5,O3,_,_⟩:=id dd
 refine call_meetsIn PySem.F.slot_dict_pop ty PySem.F.entry_dict_pop (PySem.F.args_dict_pop_2 _ _) (S:=fun A' R t=>t = s∧A'.units + 1 < cLine∧∀ s',Inv X pins σ (upd H a (.dT (au.eraseIdx j))) s'→R (.ok (.ret w')) s') (.of_wp fun A' R t ⟨et,Oj,k3⟩=>?_) ⟨rfl,?_,fun s' I'=>?_⟩
 ·subst et
  unfold Builtin.«dict.pop» Builtin.Dict.keyAndDefault
  refine wpAny_bind (wpAny_bind (wpAny_notOrdered_dict ty ?_))
  show wpAny _ _ (pure (a,Value.ref b,none)) _ _ t
  refine wpAny_pure ?_
  simp only [keyPart,Option.isSome_none,Bool.false_eq_true,if_false]
  have en:PF.isEmpty = false:=by
   have e1:=size_of_entries O3
   rw [Array.isEmpty,decide_eq_false_iff_not]
   omega
  refine wpAny_bind (wpAny_dictEntries OL O5 (wpAny_bind (wpAny_pure ?_)))
  rw [en]
  simp only [if_false,Bool.false_eq_true]
  refine wpAny_bind (wo (kn:=tupleKind (bQ X.prog X.w)) (tupleKind_room_in1 Oj) (gD I.bz eb) dd hx (by omega) fun h' yL hs=>?_)
  simp only [if_false,Option.isNone_some,Bool.false_eq_true]
  refine wpAny_bind (wpAny_letGo (wpAny_pure ⟨w',rfl,k3 _ ?_⟩))
  obtain ⟨q,es,ep,hq,h2,h3,h4,_,h5⟩:=yL
  have le:(au.eraseIdx j).length≤au.length:=by rw [List.length_eraseIdx]; split <;> omega
  refine i9 I (by rw [e]; exact True.intro) hs ⟨q,hq⟩ ⟨by omega,hd,_,(drop rel j).keeps fun c ys ec=>?_,q,es,ep,hq,h2,h3,h4,h5⟩
  rw [ak (uY ec e (fun z=>nomatch z))]
  exact ec
 ·exact hu
 ·exact h w' s' I' nP
def ue (td ty:TE):TE:=fun σ H Q=>td σ H fun x H1=>∃ a,x = .ref a∧Bt H1 a∧ty σ H1 fun y H2=>∃ (au:List (List Key×V)) (j:Nat) (k:List Key) (v:V) (b:Addr),H2 a = some (.dT au)∧y = .ref b∧H2 b = some (.tup (k.map kV))∧au[j]? = some (k,v)∧Q v (upd H2 a (.dT (au.eraseIdx j)))
theorem uM {o e:Expr} {td ty:TE} {apos eC:Pos} (hu:X.A.units + 1 < cLine) (ho:PE X o td) (he:PE X e ty) (m:M1 X o "pop" apos e eC):PE X (.Call (.Attribute o "pop" apos) [e] [] eC) (ue td ty):=by
 intro pins s σ H Q I h
 refine wpAny_Call_method m.base m.lC m.line PySem.F.plainAttrs_dict PySem.F.slot_dict_pop PySem.F.type_dict_pop (b5 (ho pins s σ H _ I h) fun u s1 ⟨x,H1,I1,rx,a,ex,d,q1⟩=>?_)
 subst ex
 obtain rfl:u = Value.ref a:=rx
 obtain ⟨t1,t2,_⟩:=Ac I1 d
 refine ⟨t1,t2,?_⟩
 rw [m.trees]
 refine Calls.callWith_builtin rfl (Calls.evalArgs_plain (Calls.spliced_cons (b5 (he pins s1 σ H1 _ I1 q1) fun iv s2 ⟨y,H2,I2,ry,au,j,k,v,b,ea,ey,eb,hj,q2⟩=>Calls.spliced_nil ?_)))
 subst ey
 obtain rfl:iv = Value.ref b:=ry
 exact AI hu I2 ea eb hj fun w' s3 I3 nP=>⟨v,_,I3,nP,q2⟩
def x3 (H0:Hp) (t:TS):TS:=fun D σ H=>t { D with nx:=fun σ' H'=>∃ (d:Addr) (o:Obj) (au:List (List Key×V)),H' d = some (.eF o (.dT au))∧(∀ o' u',H0 d≠some (.eF o' u'))∧D.nx σ' (upd H' d (.dT au)) } σ H
theorem wH {st:Stmt} {t:TS} (h:PS X st t):PS X st (x3 X.H₀ t):=by
 intro pins s σ H D I q
 refine b5 (h pins s σ H _ I q) fun f s' r=>?_
 cases f with
 | next=>
  obtain ⟨σ',H',I',d,o,au,hf,h0,q'⟩:=r
  exact ⟨σ',_,I'.E9 hf (fun xs z=>nomatch z) (fun x z=>nomatch z) h0,q'⟩
 | brk=>exact r
 | cont=>exact r
 | ret u=>exact r
theorem zp {H0:Hp} {t:TS} {D:Ends} (h:t { D with nx:=fun σ' H'=>∃ (d:Addr) (o:Obj) (au:List (List Key×V)),H' d = some (.eF o (.dT au))∧(∀ o' u',H0 d≠some (.eF o' u'))∧D.nx σ' (upd H' d (.dT au)) } σ H):x3 H0 t D σ H:=h
end
end L2
end
section
namespace Fw
open PySem L2 Gm
def kd (d:af):List Key:=[.inl (d.1:Int),.inl (if d.2 then 1 else 0)]
theorem zX {d e:af} (h:kd d = kd e):d = e:=by
 obtain ⟨p,s⟩:=d
 obtain ⟨q,t⟩:=e
 unfold kd at h
 simp only [List.cons.injEq,Sum.inl.injEq,and_true] at h
 obtain ⟨h1,h2⟩:=h
 have:p = q:=by omega
 subst this
 cases s <;> cases t <;> first | rfl | (simp at h2)
def kR (ks:List af) (r:af→V):List (List Key×V):=ks.map fun d=>(kd d,r d)
theorem iw:∀ (ks:List af) (r:af→V) (d:af),dZ (kR ks r) (kd d) = if d∈ks then some (r d) else none
 | [],r,d=>rfl
 | e :: ks,r,d=>by
  unfold kR
  rw [List.map_cons]
  by_cases z:e = d
  ·subst z
   rw [fh rfl,if_pos (List.mem_cons_self)]
  ·rw [fi (fun y=>z (zX y))]
   have:=iw ks r d
   unfold kR at this
   rw [this]
   by_cases h:d∈ks
   ·rw [if_pos h,if_pos (List.mem_cons_of_mem _ h)]
   ·rw [if_neg h,if_neg (fun y=>(List.mem_cons.mp y).elim (fun y=>z y.symm) h)]
theorem jI {ks:List af} {r:af→V} {d:af} {v:V} (h:d∉ks):putK (kR ks r) (kd d) v = kR (ks ++ [d]) (fun e=>if e = d then v else r e):=by
 rw [nW v (by rw [iw,if_neg h])]
 unfold kR
 rw [List.map_append,List.map_singleton]
 dsimp only
 rw [if_pos rfl]
 congr 1
 refine List.map_congr_left fun e he=>?_
 rw [if_neg (show ¬ e = d from fun z=>h (z▸he))]
theorem jH {ks:List af} {d:af} {v:V} (h:d∉ks):putK (kR ks fun _=>v) (kd d) v = kR (ks ++ [d]) fun _=>v:=by
 rw [jI h]
 congr 1
 funext e
 split <;> rfl
theorem jG {ks:List af} {d:af} {v:V} (h:d∈ks):putK (kR ks fun _=>v) (kd d) v = kR ks fun _=>v:=by
 unfold putK
 rw [gK,iw,if_pos h]
 rw [Option.isSome_some,if_pos rfl]
 unfold kR
 rw [List.map_map]
 refine List.map_congr_left fun e _=>?_
 show (if kd e = kd d then (kd e,v) else (kd e,v)) = _
 split <;> rfl
theorem eW (ks:List af) (r:af→V):(kR ks r).length = ks.length:=by unfold kR; rw [List.length_map]
theorem Ct {ks:List af} {r:af→V} {j:Nat} {d:af} (h:ks[j]? = some d):(kR ks r)[j]? = some (kd d,r d):=by unfold kR; rw [List.getElem?_map,h]; rfl
theorem Cs {ks:List af} {r:af→V} {j:Nat} {k:List Key} {v:V} (h:(kR ks r)[j]? = some (k,v)):∃ d,ks[j]? = some d∧k = kd d∧v = r d:=by
 unfold kR at h
 rw [List.getElem?_map] at h
 cases e:ks[j]? with
 | none=>rw [e] at h; cases h
 | some d=>rw [e] at h; injection h with h; injection h with h1 h2; exact ⟨d,rfl,h1.symm,h2.symm⟩
theorem xh {ks:List af} {r:af→V} (j:Nat):(kR ks r).eraseIdx j = kR (ks.eraseIdx j) r:=by
 unfold kR
 induction ks generalizing j with
 | nil=>rfl
 | cons d ks ih=>
  cases j with
  | zero=>rfl
  | succ j=>show _ :: _ = _ :: _; rw [ih]
theorem u4 {ks:List af} {j:Nat} {d:af} (nd:ks.Nodup) (h:ks[j]? = some d) (e:af):e∈ks.eraseIdx j↔e∈ks∧e≠d:=by
 rw [List.mem_eraseIdx_iff_getElem?]
 constructor
 ·rintro ⟨i,hi,he⟩
  refine ⟨List.mem_of_getElem? he,fun z=>hi ?_⟩
  subst z
  have h1:=List.getElem?_eq_some_iff.mp he
  have h2:=List.getElem?_eq_some_iff.mp h
  exact (List.getElem_inj nd).mp (h1.2.trans h2.2.symm)
 ·rintro ⟨he,ne⟩
  obtain ⟨i,hi⟩:=List.mem_iff_getElem?.mp he
  exact ⟨i,fun z=>by subst z; rw [h] at hi; injection hi with hi; exact ne hi.symm,hi⟩
structure cF (H:Hp) (wy:Addr) (n:Nat) (N:af→af→Prop) (au:List (List Key×V)) (g:af→Addr) (ks:af→List af):Prop where
 top:H wy = some (.dT au)
 val:∀ d:af,d.1 < n→dZ au (kd d) = some (.ref (g d))
 row:∀ d:af,d.1 < n→H (g d) = some (.dT (kR (ks d) fun _=>.bl true))
 nd:∀ d:af,d.1 < n→(ks d).Nodup
 mem:∀ d e:af,d.1 < n→(e∈ks d↔N d e)
 rg:∀ d e:af,d.1 < n→N d e→e.1 < n
 inj:∀ d e:af,d.1 < n→e.1 < n→g d = g e→d = e
 off:∀ d:af,d.1 < n→g d≠wy
theorem cF.same {H H':Hp} {wy:Addr} {n:Nat} {N:af→af→Prop} {au:List (List Key×V)} {g:af→Addr} {ks:af→List af} (W:cF H wy n N au g ks) (e:aj H H'):cF H' wy n N au g ks:=
 ⟨e _ _ W.top,W.val,fun d h=>e _ _ (W.row d h),W.nd,W.mem,W.rg,W.inj,W.off⟩
theorem cF.len {H:Hp} {wy:Addr} {n:Nat} {N:af→af→Prop} {au:List (List Key×V)} {g:af→Addr} {ks:af→List af} (W:cF H wy n N au g ks) {d:af} (h:d.1 < n):(ks d).length≤2 * n:=by
 have h1:((ks d).map fun d:af=>2 * d.1 + (if d.2 then 1 else 0)).Nodup:=by
  refine List.Pairwise.map _ (fun d e ne z=>ne ?_) (W.nd d h)
  obtain ⟨p,s⟩:=d
  obtain ⟨q,t⟩:=e
  dsimp only at z
  have:p = q∧s = t:=by cases s <;> cases t <;> simp at z ⊢ <;> omega
  rw [this.1,this.2]
 have sb:∀ x∈((ks d).map fun d:af=>2 * d.1 + (if d.2 then 1 else 0)),x∈List.range (2 * n):=fun x hx=>by
  obtain ⟨e,he,rfl⟩:=List.mem_map.mp hx
  have:=W.rg d e h ((W.mem d e h).mp he)
  rw [List.mem_range]
  split <;> omega
 have:=h1.length_le_of_subset sb
 simpa using this
inductive DR (H:Hp):List Addr→List af→Prop where
 | nil:DR H [] []
 | cons {c:Addr} {d:af} {cs:List Addr} {ds:List af} (h:H c = some (.tup ((kd d).map kV))) (t:DR H cs ds):DR H (c :: cs) (d :: ds)
theorem DR.mono {H H':Hp} (e:∀ c xs,H c = some (.tup xs)→H' c = some (.tup xs)) {cs:List Addr} {ds:List af} (h:DR H cs ds):DR H' cs ds:=by
 induction h with
 | nil=>exact .nil
 | cons h _ ih=>exact .cons (e _ _ h) ih
theorem DR.add {H:Hp} {cs:List Addr} {ds:List af} {c:Addr} {d:af} (h:DR H cs ds) (hc:H c = some (.tup ((kd d).map kV))):DR H (cs ++ [c]) (ds ++ [d]):=by
 induction h with
 | nil=>exact .cons hc .nil
 | cons h _ ih=>exact .cons h ih
def AV (H:Hp) (v:V):Option af→Prop
 | none=>v = .bY
 | some e=>∃ c,v = .ref c∧H c = some (.tup ((kd e).map kV))
theorem AV.mono {H H':Hp} (e:∀ c xs,H c = some (.tup xs)→H' c = some (.tup xs)) {v:V} {o:Option af} (h:AV H v o):AV H' v o:=by
 cases o with
 | none=>exact h
 | some d=>obtain ⟨c,h1,h2⟩:=h; exact ⟨c,h1,e _ _ h2⟩
structure nG (H:Hp) (t:Addr) (au:List (af×Option af)) (r:af→V):Prop where
 top:H t = some (.dT (kR (au.map Prod.fst) r))
 val:∀ d o,(d,o)∈au→AV H (r d) o
theorem jJ (ks:List af) (r:af→V) (d:af):(dZ (kR ks r) (kd d)).isSome = decide (d∈ks):=by
 rw [iw]
 by_cases h:d∈ks
 ·rw [if_pos h,decide_eq_true h]; rfl
 ·rw [if_neg h,decide_eq_false h]; rfl
theorem dA {H:Hp} {a:Addr} {o:HO} (o':HO) (h:H a = some o) (no:∀ xs,o≠.tup xs):∀ c xs,H c = some (.tup xs)→upd H a o' c = some (.tup xs):=fun c xs e=>by
 rw [ak (fun z=>by rw [z,h] at e; injection e with e; exact no xs e)]
 exact e
theorem nG.get {H:Hp} {t:Addr} {cT:List (af×Option af)} {r:af→V} (A:nG H t cT r) {b:Addr} {d:af} (hb:H b = some (.tup ((kd d).map kV))) (hd:d∈cT.map Prod.fst):cW H t (.ref b) (some (r d)):=by
 have:=cW.t (k:=kd d) A.top hb
 rw [iw,if_pos hd] at this
 exact this
theorem cF.get {H:Hp} {wy:Addr} {n:Nat} {N:af→af→Prop} {au:List (List Key×V)} {g:af→Addr} {ks:af→List af} (W:cF H wy n N au g ks) {b:Addr} {d:af} (hb:H b = some (.tup ((kd d).map kV))) (hd:d.1 < n):cW H wy (.ref b) (some (.ref (g d))):=by
 have:=cW.t (k:=kd d) W.top hb
 rw [W.val d hd] at this
 exact this
theorem nG.add {H H':Hp} {t:Addr} {cT:List (af×Option af)} {r:af→V} (A:nG H t cT r) {c:Addr} {e x:af} (ne:e∉cT.map Prod.fst) (hc:H' c = some (.tup ((kd x).map kV))) (h:H' t = some (.dT (putK (kR (cT.map Prod.fst) r) (kd e) (.ref c)))) (tu:∀ c xs,H c = some (.tup xs)→H' c = some (.tup xs)):nG H' t (cT ++ [(e,some x)]) (fun y=>if y = e then .ref c else r y):=by
 refine ⟨by rw [h,jI ne,List.map_append]; rfl,fun d o hd=>?_⟩
 rcases List.mem_append.mp hd with hd | hd
 ·rw [if_neg (show ¬ d = e from fun z=>ne (z▸List.mem_map.mpr ⟨_,hd,rfl⟩))]
  exact (A.val d o hd).mono tu
 ·have:=List.mem_singleton.mp hd
  injection this with h1 h2
  subst h1; subst h2
  rw [if_pos rfl]
  exact ⟨c,rfl,hc⟩
theorem nG.keep {H H':Hp} {t:Addr} {cT:List (af×Option af)} {r:af→V} (A:nG H t cT r) (h:H' t = H t) (tu:∀ c xs,H c = some (.tup xs)→H' c = some (.tup xs)):nG H' t cT r:=⟨h.trans A.top,fun d o hd=>(A.val d o hd).mono tu⟩
def xD (cT:List (af×Option af)) (v:Option V) (H:Hp):Nat:=
 match v with
 | some (.ref c)=>(match H c with | some (.tup [.int p,.int s])=>rk cT (p.toNat,decide (s = 1)) | _=>0)
 | _=>0
theorem iC {cT:List (af×Option af)} {H:Hp} {c:Addr} {y:af} (h:H c = some (.tup ((kd y).map kV))):xD cT (some (.ref c)) H = rk cT y:=by
 unfold xD
 dsimp only
 rw [h]
 obtain ⟨p,s⟩:=y
 cases s <;> rfl
theorem cF.push {H H':Hp} {wy:Addr} {n:Nat} {T:Nat→Nat→Prop} {f:Flow} {au:List (List Key×V)} {g:af→Addr} {ks:af→List af} (W:cF H wy n (Res T f) au g ks) {p x:af} (pn:p.1 < n) (xn:x.1 < n)
  (sym:∀ a b,T a b→T b a) (tQ:∀ a,¬ T a a) (gJ:∀ u v,f.F u v = true→T u v) (r:Res T f p x) (lx lp:List af) (nx:lx.Nodup) (mx:∀ e,e∈lx↔e∈ks x∨e = p) (np:lp.Nodup) (mp:∀ e,e∈lp↔e∈ks p∧(e = x→¬ (p.1 = x.1∨p.2 = false)))
  (hx:H' (g x) = some (.dT (kR lx fun _=>.bl true))) (hp:H' (g p) = some (.dT (kR lp fun _=>.bl true))) (Ce:∀ b,b≠g x→b≠g p→H' b = H b):cF H' wy n (Res T (f.push p x)) au g (fun d=>if d = x then lx else if d = p then lp else ks d):=by
 have px:p≠x:=fun z=>by rw [z] at r; exact r.yf rfl
 have zO:∀ c,f.F c c = false:=fun c=>by
  cases h:f.F c c with
  | false=>rfl
  | true=>exact absurd (gJ _ _ h) (tQ c)
 refine ⟨?_,W.val,fun d hd=>?_,fun d hd=>?_,fun d e hd=>?_,fun d e hd hN=>?_,W.inj,W.off⟩
 ·rw [Ce wy (W.off x xn).symm (W.off p pn).symm]; exact W.top
 ·by_cases h1:d = x
  ·rw [if_pos h1,h1]; exact hx
  ·rw [if_neg h1]
   by_cases h2:d = p
   ·rw [if_pos h2,h2]; exact hp
   ·rw [if_neg h2,Ce (g d) (fun z=>h1 (W.inj _ _ hd xn z)) (fun z=>h2 (W.inj _ _ hd pn z))]; exact W.row d hd
 ·by_cases h1:d = x
  ·rw [if_pos h1]; exact nx
  ·rw [if_neg h1]
   by_cases h2:d = p
   ·rw [if_pos h2]; exact np
   ·rw [if_neg h2]; exact W.nd d hd
 ·by_cases h1:d = x
  ·rw [if_pos h1,mx,h1]
   by_cases h3:e = p
   ·rw [h3]; exact ⟨fun _=>vQ sym gJ r,fun _=>.inr rfl⟩
   ·rw [fP x e (fun z=>px z.1.symm) (fun z=>h3 z.2),← W.mem x e xn]
    exact ⟨fun z=>z.resolve_right h3,.inl⟩
  ·rw [if_neg h1]
   by_cases h2:d = p
   ·rw [if_pos h2,mp,h2]
    by_cases h3:e = x
    ·rw [h3,tM tQ zO r,W.mem p x pn]
     exact ⟨fun z=>z.2 rfl,fun z=>⟨r,fun _=>z⟩⟩
    ·rw [fP p e (fun z=>h3 z.2) (fun z=>px z.1),← W.mem p e pn]
     exact ⟨fun z=>z.1,fun z=>⟨z,fun y=>absurd y h3⟩⟩
   ·rw [if_neg h2,fP d e (fun z=>h2 z.1) (fun z=>h1 z.1)]
    exact W.mem d e hd
 ·by_cases h1:d = p∧e = x
  ·rw [h1.2]; exact xn
  ·by_cases h2:d = x∧e = p
   ·rw [h2.2]; exact pn
   ·exact W.rg d e hd ((fP d e h1 h2).mp hN)
end Fw
end
section
namespace Fw
open PySem L2 Gm
def Tw (L:List (List Int)) (a b:Nat) (p q:Nat):Prop:=(∃ l,L[p]? = some l∧(q:Int)∈l)∧¬ ((p = a∧q = b)∨(p = b∧q = a))
theorem Tw.Ei {L:List (List Int)} {a b:Nat} (m:aI L) (ha:a < L.length) (hb:b < L.length) (ne:a≠b):Net L.length (Tw L a b) a b:=by
 have rg:∀ p q,Tw L a b p q→p < L.length∧q < L.length:=fun p q ⟨⟨l,h1,h2⟩,_⟩=>⟨(List.getElem?_eq_some_iff.mp h1).1,by have:=(m.rg p l h1 _ h2).2.1; omega⟩
 refine ⟨fun p q h=>?_,fun p ⟨⟨l,h1,h2⟩,_⟩=>(m.rg p l h1 _ h2).2.2 rfl,rg,fun h=>h.2 (.inl ⟨rfl,rfl⟩),ha,hb,ne⟩
 have hq:=(rg p q h).2
 obtain ⟨⟨l,h1,h2⟩,h3⟩:=h
 refine ⟨⟨L[q],List.getElem?_eq_getElem hq,m.sy p l h1 _ h2 q rfl _ (List.getElem?_eq_getElem hq)⟩,fun z=>h3 ?_⟩
 rcases z with ⟨z1,z2⟩ | ⟨z1,z2⟩
 ·exact .inr ⟨z2,z1⟩
 ·exact .inl ⟨z2,z1⟩
def gn (f:Flow) (l:List Int) (x:Nat):List Int:=l.filter fun v=>f.F x v.toNat
theorem jU {α : Type} {q : α→Bool} {y : α}:∀ {l:List α},l.Nodup→y∈l→q y = true→(∀ z∈l,q z = true→z = y)→l.filter q = [y]
 | [],_,h,_,_=>by cases h
 | x :: l,nd,h,hq,un=>by
  rw [List.nodup_cons] at nd
  by_cases e:x = y
  ·subst e
   rw [List.filter_cons,if_pos hq]
   congr 1
   rw [List.filter_eq_nil_iff]
   intro z hz c
   exact nd.1 (un z (.tail _ hz) c▸hz)
  ·have hl:y∈l:=(List.mem_cons.mp h).resolve_left fun z=>e z.symm
   have:¬ q x = true:=fun c=>e (un x (.head _) c)
   rw [List.filter_cons,if_neg this]
   exact jU nd.2 hl hq fun z hz=>un z (.tail _ hz)
section
variable {n:Nat} {T:Nat→Nat→Prop} {a b:Nat} {i:Int} {f:Flow}
structure Rd (f:Flow) (a b:Nat) (rd:List Nat):Prop where
 len:2≤rd.length
 hd:rd[0]? = some a
 nd:rd.Nodup
 go:∀ (j u v:Nat),rd[j]? = some u→rd[j + 1]? = some v→f.F u v = true
 nb:∀ j,j + 1 < rd.length→rd[j]?≠some b
theorem Rd.start (F:Fl n T a b i f) (N:Net n T a b) {c:Nat} (h:f.F a c = true):Rd f a b [a,c]:=by
 have ac:a≠c:=fun z=>N.tQ a (by have:=F.gJ _ _ h; rwa [← z] at this)
 refine ⟨by simp,rfl,by simp [ac],fun j u v h1 h2=>?_,fun j hj=>?_⟩
 ·cases j with
  | zero=>injection h1 with h1; injection h2 with h2; rw [← h1,← h2]; exact h
  | succ j=>simp at h2
 ·have:j = 0:=by simp at hj; omega
  subst this
  intro z
  injection z with z
  exact N.ne z
theorem Rd.last (R:Rd f a b rd) {x:Nat} (hx:rd[rd.length - 1]? = some x):∃ u,f.F u x = true:=by
 have:=R.len
 obtain ⟨u,hu⟩:∃ u,rd[rd.length - 2]? = some u:=⟨_,List.getElem?_eq_getElem (by omega)⟩
 exact ⟨u,R.go _ _ _ hu (by rw [show rd.length - 2 + 1 = rd.length - 1 by omega]; exact hx)⟩
theorem Rd.step (F:Fl n T a b i f) (N:Net n T a b) {rd:List Nat} (R:Rd f a b rd) {x y:Nat} (hx:rd[rd.length - 1]? = some x) (xb:x≠b) (h:f.F x y = true):Rd f a b (rd ++ [y]):=by
 have l2:=R.len
 have ny:y∉rd:=fun hy=>by
  obtain ⟨j,hj⟩:=List.mem_iff_getElem?.mp hy
  have jl:=(List.getElem?_eq_some_iff.mp hj).1
  cases j with
  | zero=>
   rw [R.hd] at hj
   injection hj with hj
   subst hj
   rw [F.uW N] at h
   cases h
  | succ j=>
   obtain ⟨u,hu⟩:∃ u,rd[j]? = some u:=⟨_,List.getElem?_eq_getElem (by omega)⟩
   have h1:=R.go _ _ _ hu hj
   by_cases yb:y = b
   ·subst yb
    by_cases jj:j + 1 + 1 < rd.length
    ·exact R.nb _ jj hj
    ·have:j + 1 = rd.length - 1:=by omega
     rw [this,hx] at hj
     injection hj with hj
     exact xb hj
   ·have:=F.oB N yb h1 h
    subst this
    have e1:=List.getElem?_eq_some_iff.mp hu
    have e2:=List.getElem?_eq_some_iff.mp hx
    have:=(List.getElem_inj R.nd).mp (e1.2.trans e2.2.symm)
    omega
 refine ⟨by rw [List.length_append]; omega,by rw [List.getElem?_append_left (by omega)]; exact R.hd,?_,fun j u v h1 h2=>?_,fun j hj=>?_⟩
 ·refine List.nodup_append.mpr ⟨R.nd,by simp,fun d hd d' rQ z=>ny ?_⟩
  rw [← List.mem_singleton.mp rQ,← z]; exact hd
 ·by_cases hl:j + 1 < rd.length
  ·rw [List.getElem?_append_left (by omega)] at h1 h2
   exact R.go j u v h1 h2
  ·rw [List.getElem?_append_right (by omega)] at h2
   have:j + 1 - rd.length = 0:=by
    have:=(List.getElem?_eq_some_iff.mp h2).1
    rw [List.length_singleton] at this
    omega
   rw [this] at h2
   injection h2 with h2
   subst h2
   rw [List.getElem?_append_left (by omega),show j = rd.length - 1 by omega,hx] at h1
   injection h1 with h1
   subst h1
   exact h
 ·rw [List.length_append,List.length_singleton] at hj
  rw [List.getElem?_append_left (by omega)]
  by_cases hl:j + 1 < rd.length
  ·exact R.nb j hl
  ·rw [show j = rd.length - 1 by omega,hx]
   intro z
   injection z with z
   exact xb z
theorem Rd.rg (F:Fl n T a b i f) (N:Net n T a b) {rd:List Nat} (R:Rd f a b rd):∀ x∈rd,x < n:=fun x hx=>by
 obtain ⟨j,hj⟩:=List.mem_iff_getElem?.mp hx
 cases j with
 | zero=>rw [R.hd] at hj; injection hj with hj; rw [← hj]; exact N.ha
 | succ j=>
  have jl:=(List.getElem?_eq_some_iff.mp hj).1
  obtain ⟨u,hu⟩:∃ u,rd[j]? = some u:=⟨_,List.getElem?_eq_getElem (by omega)⟩
  exact (N.rg _ _ (F.gJ _ _ (R.go _ _ _ hu hj))).2
theorem Rd.lC (F:Fl n T a b i f) (N:Net n T a b) {rd:List Nat} (R:Rd f a b rd):rd.length≤n:=by
 have:=R.nd.length_le_of_subset (l₂:=List.range n) fun x hx=>List.mem_range.mpr (R.rg F N x hx)
 simpa using this
end
theorem vK {l:List Int} {n:Nat} {y:Int} (hl:l.length = n + 1) (h:l[n]? = some y):j3 (l.map V.int) (-1) = some (V.int y):=by
 have e:l = l.take n ++ [y]:=by
  have:=List.take_succ (l:=l) (i:=n)
  rw [h,List.take_of_length_le (by omega)] at this
  exact this
 rw [e,List.map_append]
 exact vL _ _
theorem cF.congr {H:Hp} {wy:Addr} {n:Nat} {N N':af→af→Prop} {au:List (List Key×V)} {g:af→Addr} {ks:af→List af} (W:cF H wy n N au g ks) (h:∀ d e,d.1 < n→(N d e↔N' d e)):cF H wy n N' au g ks:=
 ⟨W.top,W.val,W.row,W.nd,fun d e hd=>(W.mem d e hd).trans (h d e hd),fun d e hd hN=>W.rg d e hd ((h d e hd).mpr hN),W.inj,W.off⟩
theorem cF.put {H:Hp} {wy:Addr} {n:Nat} {N:af→af→Prop} {au:List (List Key×V)} {g:af→Addr} {ks:af→List af} (W:cF H wy n N au g ks) {x p:af} (xn:x.1 < n) (pn:p.1 < n) :
  ∃ jF,cF (upd H (g x) (.dT (putK (kR (ks x) fun _=>V.bl true) (kd p) (V.bl true)))) wy n (fun d e=>N d e∨(d = x∧e = p)) au g jF:=by
 obtain ⟨lx,ex,nx,mx⟩:∃ lx:List af,putK (kR (ks x) fun _=>V.bl true) (kd p) (V.bl true) = kR lx (fun _=>V.bl true)∧lx.Nodup∧∀ e,e∈lx↔e∈ks x∨e = p:=by
  by_cases h:p∈ks x
  ·exact ⟨ks x,jG h,W.nd x xn,fun e=>⟨.inl,fun z=>z.elim id fun z=>z▸h⟩⟩
  ·refine ⟨ks x ++ [p],jH h,?_,fun e=>by simp⟩
   refine List.nodup_append.mpr ⟨W.nd x xn,by simp,fun d hd d' rQ z=>h ?_⟩
   rw [← List.mem_singleton.mp rQ,← z]; exact hd
 rw [ex]
 refine ⟨fun d=>if d = x then lx else ks d,(ak (W.off x xn).symm).trans W.top,W.val,fun d hd=>?_,fun d hd=>?_,fun d e hd=>?_,fun d e hd hN=>?_,W.inj,W.off⟩
 ·by_cases h1:d = x
  ·rw [if_pos h1,h1]; exact ae
  ·rw [if_neg h1,ak (fun z=>h1 (W.inj _ _ hd xn z))]; exact W.row d hd
 ·by_cases h1:d = x
  ·rw [if_pos h1]; exact nx
  ·rw [if_neg h1]; exact W.nd d hd
 ·by_cases h1:d = x
  ·rw [if_pos h1,mx,h1,W.mem x e xn]
   exact ⟨fun z=>z.imp id fun y=>⟨rfl,y⟩,fun z=>z.imp id And.right⟩
  ·rw [if_neg h1,W.mem d e hd]
   exact ⟨.inl,fun z=>z.resolve_right fun y=>h1 y.1⟩
 ·rcases hN with z | z
  ·exact W.rg d e hd z
  ·rw [z.2]; exact pn
def N0 (d e:af):Prop:=d.2 = false∧e = (d.1,true)
theorem cF.lay {H H':Hp} {wy:Addr} {i:Nat} {dl:List af} {g:af→Addr} {ks:af→List af} (W:cF H wy i N0 (kR dl fun d=>.ref (g d)) g ks) (vY:∀ d,d∈dl↔d.1 < i) {p1 p2:Addr}
  (h0:∀ b,b≠wy→∀ o,H b = some o→H' b = some o) (f1:H p1 = none) (f2:H p2 = none) (Bd:p1≠p2) (h1:H' p1 = some (.dT (kR [(i,true)] fun _=>.bl true))) (h2:H' p2 = some (.dT (kR [] fun _=>.bl true)))
  (ht:H' wy = some (.dT (putK (putK (kR dl fun d=>.ref (g d)) (kd (i,false)) (.ref p1)) (kd (i,true)) (.ref p2)))) :
  ∃ C6 g' jF,(∀ d,d∈C6↔d.1 < i + 1)∧C6.length = dl.length + 2∧cF H' wy (i + 1) N0 (kR C6 fun d=>.ref (g' d)) g' jF∧∀ d:af,d.1 < i + 1→g' d = p1∨g' d = p2∨(d.1 < i∧g' d = g d):=by
 have n1:(i,false)∉dl:=fun z=>by have:=(vY _).mp z; exact absurd this (Nat.lt_irrefl _)
 have n2:((i,true):af)∉dl ++ [(i,false)]:=fun z=>by
  rcases List.mem_append.mp z with z | z
  ·have:=(vY _).mp z; exact absurd this (Nat.lt_irrefl _)
  ·have:=List.mem_singleton.mp z; injection this with _ y; cases y
 rw [jI n1,jI n2] at ht
 let g':af→Addr:=fun d=>if d = (i,true) then p2 else if d = (i,false) then p1 else g d
 have eg:(fun e:af=>if e = (i,true) then V.ref p2 else if e = (i,false) then V.ref p1 else V.ref (g e)) = fun e=>V.ref (g' e):=by
  funext e
  show _ = V.ref (if e = (i,true) then p2 else if e = (i,false) then p1 else g e)
  split
  ·rfl
  ·split <;> rfl
 rw [eg] at ht
 have two:∀ d:af,d.1 < i + 1→d = (i,true)∨d = (i,false)∨d.1 < i:=fun d hd=>by
  obtain ⟨p,s⟩:=d
  by_cases e:p = i
  ·subst e; cases s
   ·exact .inr (.inl rfl)
   ·exact .inl rfl
  ·exact .inr (.inr (by show p < i; have:p < i + 1:=hd; omega))
 have gt:g' (i,true) = p2:=if_pos rfl
 have gf:g' (i,false) = p1:=(if_neg (by simp)).trans (if_pos rfl)
 have go:∀ d:af,d.1 < i→g' d = g d:=fun d hd=>(if_neg (fun z=>by rw [z] at hd; exact absurd hd (Nat.lt_irrefl _))).trans (if_neg (fun z=>by rw [z] at hd; exact absurd hd (Nat.lt_irrefl _)))
 have r1:∀ d:af,d.1 < i→g d≠p1:=fun d hd z=>by have:=W.row d hd; rw [z,f1] at this; cases this
 have r2:∀ d:af,d.1 < i→g d≠p2:=fun d hd z=>by have:=W.row d hd; rw [z,f2] at this; cases this
 have w1:p1≠wy:=fun z=>by rw [z,W.top] at f1; cases f1
 have w2:p2≠wy:=fun z=>by rw [z,W.top] at f2; cases f2
 have hm:∀ d,d∈dl ++ [(i,false)] ++ [(i,true)]↔d.1 < i + 1:=fun d=>by
  rw [List.mem_append,List.mem_append,List.mem_singleton,List.mem_singleton,vY]
  constructor
  ·rintro ((z | z) | z)
   ·omega
   ·rw [z]; exact Nat.lt_succ_self _
   ·rw [z]; exact Nat.lt_succ_self _
  ·intro z
   rcases two d z with y | y | y
   ·exact .inr y
   ·exact .inl (.inr y)
   ·exact .inl (.inl y)
 refine ⟨dl ++ [(i,false)] ++ [(i,true)],g',fun d=>if d = (i,true) then [] else if d = (i,false) then [(i,true)] else ks d,hm,by simp,⟨ht,fun d hd=>?_,fun d hd=>?_,fun d hd=>?_,fun d e hd=>?_,fun d e hd hN=>?_,fun d e hd he hg=>?_,fun d hd=>?_⟩,fun d hd=>?_⟩
 ·rw [iw,if_pos ((hm d).mpr hd)]
 ·rcases two d hd with z | z | z
  ·rw [z,gt,if_pos rfl]; exact h2
  ·rw [z,gf,if_neg (by simp),if_pos rfl]; exact h1
  ·rw [go d z,if_neg (fun y=>by rw [y] at z; exact absurd z (Nat.lt_irrefl _)),if_neg (fun y=>by rw [y] at z; exact absurd z (Nat.lt_irrefl _))]
   exact h0 _ (W.off d z) _ (W.row d z)
 ·rcases two d hd with z | z | z
  ·rw [if_pos z]; simp
  ·rw [z,if_neg (by simp),if_pos rfl]; simp
  ·rw [if_neg (fun y=>by rw [y] at z; exact absurd z (Nat.lt_irrefl _)),if_neg (fun y=>by rw [y] at z; exact absurd z (Nat.lt_irrefl _))]
   exact W.nd d z
 ·rcases two d hd with z | z | z
  ·rw [if_pos z,z]; simp [N0]
  ·rw [z,if_neg (by simp),if_pos rfl]; simp [N0]
  ·rw [if_neg (fun y=>by rw [y] at z; exact absurd z (Nat.lt_irrefl _)),if_neg (fun y=>by rw [y] at z; exact absurd z (Nat.lt_irrefl _))]
   exact W.mem d e z
 ·rw [hN.2]; exact hd
 ·rcases two d hd with z | z | z <;> rcases two e he with y | y | y
  ·rw [z,y]
  ·rw [z,y,gt,gf] at hg; exact absurd hg.symm Bd
  ·rw [z,gt,go e y] at hg; exact absurd hg.symm (r2 e y)
  ·rw [z,y,gt,gf] at hg; exact absurd hg Bd
  ·rw [z,y]
  ·rw [z,gf,go e y] at hg; exact absurd hg.symm (r1 e y)
  ·rw [y,gt,go d z] at hg; exact absurd hg (r2 d z)
  ·rw [y,gf,go d z] at hg; exact absurd hg (r1 d z)
  ·rw [go d z,go e y] at hg; exact W.inj d e z y hg
 ·rcases two d hd with z | z | z
  ·rw [z,gt]; exact w2
  ·rw [z,gf]; exact w1
  ·rw [go d z]; exact W.off d z
 ·rcases two d hd with z | z | z
  ·rw [z]; exact .inr (.inl gt)
  ·rw [z]; exact .inl gf
  ·exact .inr (.inr ⟨z,go d z⟩)
def Nk (T:List (Int×Int)) (a b k:Nat) (d e:af):Prop:=N0 d e∨(d.2 = true∧e.2 = false∧(((d.1:Int),(e.1:Int))∈T.take k∨((e.1:Int),(d.1:Int))∈T.take k)∧¬ ((d.1 = a∧e.1 = b)∨(d.1 = b∧e.1 = a)))
theorem xR {T:List (Int×Int)} {a b:Nat} (d e:af):N0 d e↔Nk T a b 0 d e:=by
 unfold Nk
 simp
theorem fS {α : Type} {T:List α} {k:Nat} {t x : α} (h:T[k]? = some t):x∈T.take (k + 1)↔x∈T.take k∨x = t:=by
 rw [List.take_add_one,h]
 simp
theorem xS {T:List (Int×Int)} {a b k u v:Nat} (h:T[k]? = some ((u:Int),(v:Int))) (ex:(u = a∧v = b)∨(u = b∧v = a)) (d e:af):Nk T a b k d e↔Nk T a b (k + 1) d e:=by
 unfold Nk
 rw [fS h,fS h]
 refine or_congr Iff.rfl (and_congr Iff.rfl (and_congr Iff.rfl ⟨fun z=>⟨z.1.imp .inl .inl,z.2⟩,fun z=>⟨?_,z.2⟩⟩))
 rcases z.1 with (y | y) | (y | y)
 ·exact .inl y
 ·injection y with y1 y2; exact absurd (by omega) z.2
 ·exact .inr y
 ·injection y with y1 y2; exact absurd (by omega) z.2
theorem A2 {T:List (Int×Int)} {a b k u v:Nat} (h:T[k]? = some ((u:Int),(v:Int))) (ex:¬ ((u = a∧v = b)∨(u = b∧v = a))) (d e:af):((Nk T a b k d e∨(d = (u,true)∧e = (v,false)))∨(d = (v,true)∧e = (u,false)))↔Nk T a b (k + 1) d e:=by
 unfold Nk
 rw [fS h,fS h]
 obtain ⟨p,s⟩:=d
 obtain ⟨q,t⟩:=e
 constructor
 ·rintro ((z | z) | z)
  ·rcases z with z | ⟨z1,z2,z3,z4⟩
   ·exact .inl z
   ·exact .inr ⟨z1,z2,z3.imp .inl .inl,z4⟩
  ·obtain ⟨z1,z2⟩:=z
   injection z1 with z1 z3
   injection z2 with z2 z4
   subst z1; subst z2; subst z3; subst z4
   exact .inr ⟨rfl,rfl,.inl (.inr rfl),ex⟩
  ·obtain ⟨z1,z2⟩:=z
   injection z1 with z1 z3
   injection z2 with z2 z4
   subst z1; subst z2; subst z3; subst z4
   refine .inr ⟨rfl,rfl,.inr (.inr rfl),fun z=>ex ?_⟩
   dsimp only at z
   omega
 ·rintro (z | ⟨z1,z2,z3,z4⟩)
  ·exact .inl (.inl (.inl z))
  ·dsimp only at z1 z2 z3
   subst z1; subst z2
   rcases z3 with (y | y) | (y | y)
   ·exact .inl (.inl (.inr ⟨rfl,rfl,.inl y,z4⟩))
   ·injection y with y1 y2
    have:p = u:=by omega
    have:q = v:=by omega
    subst p; subst q
    exact .inl (.inr ⟨rfl,rfl⟩)
   ·exact .inl (.inl (.inr ⟨rfl,rfl,.inr y,z4⟩))
   ·injection y with y1 y2
    have:q = u:=by omega
    have:p = v:=by omega
    subst p; subst q
    exact .inr ⟨rfl,rfl⟩
def f0:Flow:=⟨fun _=>false,fun _ _=>false⟩
theorem AZ {L:List (List Int)} {a b:Nat} (m:aI L) (d e:af) (hd:d.1 < L.length):Nk (dq L L.length) a b (dq L L.length).length d e↔Res (Tw L a b) f0 d e:=by
 unfold Nk
 rw [List.take_length]
 obtain ⟨p,s⟩:=d
 obtain ⟨q,t⟩:=e
 have hp:p < L.length:=hd
 have row:rowOf L (p:Int) = L[p]:=iq (List.getElem?_eq_getElem hp)
 have key:((((p:Int),(q:Int))∈dq L L.length∨((q:Int),(p:Int))∈dq L L.length))↔∃ l,L[p]? = some l∧(q:Int)∈l:=by
  rw [dc (Nat.le_refl _),dc (Nat.le_refl _)]
  dsimp only
  constructor
  ·rintro (z | z)
   ·exact ⟨L[p],List.getElem?_eq_getElem hp,by rw [← row]; exact z.2.2.2.2⟩
   ·have hq:q < L.length:=by omega
    have zh:rowOf L (q:Int) = L[q]:=iq (List.getElem?_eq_getElem hq)
    rw [zh] at z
    exact ⟨L[p],List.getElem?_eq_getElem hp,m.sy q _ (List.getElem?_eq_getElem hq) _ z.2.2.2.2 p rfl _ (List.getElem?_eq_getElem hp)⟩
  ·rintro ⟨l,h1,h2⟩
   have r:=m.rg p l h1 _ h2
   have hq:q < L.length:=by omega
   have el:l = L[p]:=by rw [List.getElem?_eq_getElem hp] at h1; injection h1 with h1; exact h1.symm
   by_cases c:p < q
   ·exact .inl ⟨by omega,by omega,by omega,by omega,by rw [row,← el]; exact h2⟩
   ·have zh:rowOf L (q:Int) = L[q]:=iq (List.getElem?_eq_getElem hq)
    exact .inr ⟨by omega,by omega,by omega,by omega,by rw [zh]; exact m.sy p l h1 _ h2 q rfl _ (List.getElem?_eq_getElem hq)⟩
 cases s <;> cases t
 ·simp [N0,Res]
 ·rw [cx]
  simp [N0,f0]
  exact eq_comm
 ·rw [dy]
  dsimp only
  rw [key]
  unfold Tw N0
  simp [f0]
 ·simp [N0,Res]
theorem CZ {n:Nat} {T:Nat→Nat→Prop} {a b:Nat}:Fl n T a b ((0:Nat):Int) f0:=by
 refine ⟨fun u v h=>absurd h Bool.false_ne_true,rfl,rfl,fun x _=>?_⟩
 obtain ⟨p,s⟩:=x
 have z:Dt.sm n (fun _=>bi false) = 0:=Dt.fT fun i _=>rfl
 cases s
 ·show Dt.sm n (fun u=>bi (f0.F u p)) - bi (f0.U p) = _
  rw [show (fun u=>bi (f0.F u p)) = fun _=>bi false from rfl,z]
  show (0:Int) - 0 = _
  grind
 ·show bi (f0.U p) - Dt.sm n (fun v=>bi (f0.F p v)) = _
  rw [show (fun u=>bi (f0.F p u)) = fun _=>bi false from rfl,z]
  show (0:Int) - 0 = _
  grind
theorem gm (c:Nat→Bool) (j:Nat):(List.range (j + 1)).filter c = (List.range j).filter c ++ if c j = true then [j] else []:=by
 rw [List.range_succ,List.filter_append]
 congr 1
 cases h:c j <;> simp [h]
theorem sE (c:Nat→Bool) (j:Nat):((List.range j).filter c).length≤j:=Nat.le_trans (List.length_filter_le _ _) (by simp)
def lenOf (v:Option V) (H:Hp):Nat:=
 match v with
 | some (.ref c)=>(match H c with | some (.lst xs)=>xs.length | _=>0)
 | _=>0
theorem ow {H:Hp} {c:Addr} {xs:List V} (h:H c = some (.lst xs)):lenOf (some (.ref c)) H = xs.length:=by
 unfold lenOf
 dsimp only
 rw [h]
end Fw
end
section
namespace Fw
open PySem L2 Gm
end Fw
end
section
namespace iH
open PySem
def gI (xs:Array Nat):Prop:=∀ i j a b:Nat,xs[i]? = some a→xs[j]? = some b→i < j→a < b
theorem m4 {xs:Array Nat} (hr:gI xs) (j:Nat):∀ (fuel lo hi:Nat),hi≤xs.size→lo≤hi→hi - lo < fuel + 1→(∀ i a,xs[i]? = some a→i < lo→a < j)→(∀ i a,xs[i]? = some a→hi≤i→j≤a)→
  lo≤SetTable.below.go xs j fuel lo hi∧SetTable.below.go xs j fuel lo hi≤hi∧(∀ i a,xs[i]? = some a→i < SetTable.below.go xs j fuel lo hi→a < j)∧(∀ i a,xs[i]? = some a→SetTable.below.go xs j fuel lo hi≤i→j≤a)
 | 0,lo,hi,h1,h2,h3,h4,h5=>by
  have:lo = hi:=by omega
  subst this
  exact ⟨Nat.le_refl _,Nat.le_refl _,h4,h5⟩
 | fuel + 1,lo,hi,h1,h2,h3,h4,h5=>by
  unfold SetTable.below.go
  by_cases c:lo < hi
  ·rw [if_pos c]
   dsimp only
   have ml:(lo + hi) / 2 < xs.size:=by omega
   have em:xs[(lo + hi) / 2]? = some xs[(lo + hi) / 2]:=Array.getElem?_eq_getElem ml
   have eg:xs.getD ((lo + hi) / 2) j = xs[(lo + hi) / 2]:=by rw [Array.getD_eq_getD_getElem?,em]; rfl
   rw [eg]
   by_cases d:xs[(lo + hi) / 2] < j
   ·rw [if_pos d]
    obtain ⟨a1,a2,a3,a4⟩:=m4 hr j fuel ((lo + hi) / 2 + 1) hi h1 (by omega) (by omega) (fun i a tR hl=>by
     by_cases e:i = (lo + hi) / 2
     ·subst e; rw [em] at tR; injection tR with tR; omega
     ·have:=hr i _ a _ tR em (by omega); omega) h5
    exact ⟨by omega,a2,a3,a4⟩
   ·rw [if_neg d]
    obtain ⟨a1,a2,a3,a4⟩:=m4 hr j fuel lo ((lo + hi) / 2) (by omega) (by omega) (by omega) h4 (fun i a tR hl=>by
     by_cases e:i = (lo + hi) / 2
     ·subst e; rw [em] at tR; injection tR with tR; omega
     ·have:=hr _ i _ a em tR (by omega); omega)
    exact ⟨a1,by omega,a3,a4⟩
  ·rw [if_neg c]
   have:lo = hi:=by omega
   subst this
   exact ⟨Nat.le_refl _,Nat.le_refl _,h4,h5⟩
theorem gH {xs:Array Nat} (hr:gI xs) (j:Nat):SetTable.below xs j≤xs.size∧(∀ i a,xs[i]? = some a→i < SetTable.below xs j→a < j)∧(∀ i a,xs[i]? = some a→SetTable.below xs j≤i→j≤a):=by
 unfold SetTable.below
 obtain ⟨_,a2,a3,a4⟩:=m4 hr j xs.size 0 xs.size (Nat.le_refl _) (Nat.zero_le _) (by omega) (fun i a _ h=>absurd h (Nat.not_lt_zero _)) (fun i a h hl=>by
  have:=(Array.getElem?_eq_some_iff.mp h).1
  omega)
 exact ⟨a2,a3,a4⟩
theorem Ad {xs:Array Nat} {p:Nat} (hp:p≤xs.size) (x i:Nat):(SetTable.insertAt xs p x)[i]? = if i < p then xs[i]? else if i = p then some x else xs[i - 1]?:=by
 unfold SetTable.insertAt
 have e1:(xs.extract 0 p).size = p:=by rw [Array.size_extract]; omega
 by_cases h1:i < p
 ·rw [if_pos h1,Array.getElem?_append_left (by rw [Array.size_push,e1]; omega),Array.getElem?_push,if_neg (by rw [e1]; omega),Array.getElem?_extract]
  rw [if_pos (by omega)]
  congr 1
  omega
 ·rw [if_neg h1]
  by_cases h2:i = p
  ·subst h2
   rw [if_pos rfl,Array.getElem?_append_left (by rw [Array.size_push,e1]; omega),Array.getElem?_push,if_pos e1.symm]
  ·rw [if_neg h2,Array.getElem?_append_right (by rw [Array.size_push,e1]; omega),Array.size_push,e1,Array.getElem?_extract]
   by_cases h3:i - 1 < xs.size
   ·rw [if_pos (by omega)]
    congr 1
    omega
   ·rw [if_neg (by omega)]
    exact (Array.getElem?_eq_none (by omega)).symm
theorem gI.put {xs:Array Nat} (hr:gI xs) {j:Nat} (hn:xs[SetTable.below xs j]?≠some j):gI (SetTable.insertAt xs (SetTable.below xs j) j):=by
 obtain ⟨h1,h2,h3⟩:=gH hr j
 have big:∀ i a,xs[i]? = some a→SetTable.below xs j≤i→j < a:=fun i a hi hl=>by
  rcases Nat.lt_or_eq_of_le (h3 i a hi hl) with z | z
  ·exact z
  ·subst z
   rcases Nat.lt_or_eq_of_le hl with y | y
   ·have il:=(Array.getElem?_eq_some_iff.mp hi).1
    have e:xs[SetTable.below xs j]? = some xs[SetTable.below xs j]:=Array.getElem?_eq_getElem (by omega)
    have:=hr _ _ _ _ e hi y
    have:=h3 _ _ e (Nat.le_refl _)
    omega
   ·rw [← y] at hi; exact absurd hi hn
 intro i k a b hi hk ik
 rw [Ad h1] at hi hk
 by_cases c1:i < SetTable.below xs j
 ·rw [if_pos c1] at hi
  have la:=h2 i a hi c1
  by_cases c2:k < SetTable.below xs j
  ·rw [if_pos c2] at hk; exact hr i k a b hi hk ik
  ·rw [if_neg c2] at hk
   by_cases c3:k = SetTable.below xs j
   ·rw [if_pos c3] at hk; injection hk with hk; omega
   ·rw [if_neg c3] at hk
    have:=big (k - 1) b hk (by omega)
    omega
 ·rw [if_neg c1] at hi
  by_cases c3:i = SetTable.below xs j
  ·rw [if_pos c3] at hi
   injection hi with hi
   rw [if_neg (by omega),if_neg (by omega)] at hk
   have:=big (k - 1) b hk (by omega)
   omega
  ·rw [if_neg c3] at hi
   rw [if_neg (by omega),if_neg (by omega)] at hk
   exact hr (i - 1) (k - 1) a b hi hk (by omega)
theorem gI.range (n:Nat):gI (Array.range n):=by
 intro i j a b hi hj ij
 have h1:=Array.getElem?_eq_some_iff.mp hi
 have h2:=Array.getElem?_eq_some_iff.mp hj
 obtain ⟨_,h1⟩:=h1
 obtain ⟨_,h2⟩:=h2
 rw [Array.getElem_range] at h1 h2
 omega
structure Tb (led:Bool) (t:SetTable):Prop where
 rise:gI t.place
 dm:t.dummies = #[]
 ld:t.led = led
theorem Tb.fresh (led:Bool):Tb led (.fresh 0 0 led):=⟨fun i j a b h=>by simp [SetTable.fresh] at h,rfl,rfl⟩
theorem Tb.standIn {led:Bool} {t:SetTable} (h:Tb led t) (n:Nat):Tb led (t.standIn n):=⟨gI.range n,rfl,h.ld⟩
theorem has_none (j:Nat):SetTable.has #[] j = false:=rfl
theorem Tb.slot {led:Bool} {t:SetTable} (h:Tb led t) {j:Nat} (e:t.slot j = .empty):t.place[SetTable.below t.place j]?≠some j:=by
 intro z
 unfold SetTable.slot at e
 dsimp only at e
 rw [if_pos (by rw [z]; exact beq_self_eq_true _)] at e
 cases e
theorem Tb.wY {led:Bool} {t:SetTable} (h:Tb led t) (j:Nat):t.slot j≠.dummy:=by
 intro e
 unfold SetTable.slot at e
 dsimp only at e
 rw [h.dm,has_none] at e
 split at e
 ·cases e
 ·rw [if_neg (by decide)] at e; cases e
theorem Tb.probe {led:Bool} {t:SetTable} (h:Tb led t) {ha:Nat→Int} {hs:Int}:∀ (fuel:Nat) (p:SetTable.Probe) (j:Nat) (d:Option Nat),p.dummy = none→SetTable.probe.go t ha hs fuel p = some (.empty j d)→t.slot j = .empty∧d = none
 | 0,p,j,d,_,e=>by cases e
 | fuel + 1,p,j,d,hp,e=>by
  unfold SetTable.probe.go at e
  cases c:t.slot p.j with
  | empty=>
   rw [c] at e
   injection e with e
   injection e with e1 e2
   exact ⟨by rw [← e1]; exact c,by rw [← e2]; exact hp⟩
  | dummy=>exact absurd c (h.wY _)
  | live i=>
   rw [c] at e
   dsimp only at e
   split at e
   ·injection e with e; cases e
   ·refine h.probe fuel (t.advance p) j d ?_ e
    unfold SetTable.advance
    split
    ·exact hp
    ·exact hp
theorem Tb.free {led:Bool} {t:SetTable} (h:Tb led t) {hs:Int} {j:Nat} {b:Bool} (e:t.freeSlot hs = some (j,b)):t.slot j = .empty:=by
 unfold SetTable.freeSlot at e
 split at e
 ·rename_i j' d hp
  obtain ⟨h1,h2⟩:=h.probe _ _ j' d rfl hp
  subst h2
  injection e with e
  injection e with e1 e2
  rw [← e1]
  exact h1
 ·cases e
theorem Tb.put {led:Bool} {t:SetTable} (h:Tb led t) {j:Nat} (e:t.slot j = .empty):Tb led (t.put j).1:=by
 refine ⟨h.rise.put (h.slot e),?_,h.ld⟩
 show (if SetTable.has t.dummies j = true then _ else t.dummies) = #[]
 rw [h.dm,has_none,if_neg (by decide)]
theorem Tb.layNew {led:Bool} {t:SetTable} (h:Tb led t) (es:Array (Int×Value)) (hs:Int) (x:Value):Tb led (layNew t es hs x).2.1:=by
 unfold PySem.layNew
 split
 ·rename_i slot wd e
  dsimp only
  unfold SetTable.orStandIn
  have:=h.put (h.free e)
  split
  ·exact this
  ·exact this.standIn _
 ·exact h.standIn _
theorem gI.live {owner:Nat→Option Nat} (n:Nat):gI ((((List.range n).filterMap fun j=>(owner j).map (j,·)).map (·.1)).toArray):=by
 have pw:(((List.range n).filterMap fun j=>(owner j).map (j,·)).map (·.1)).Pairwise (· < ·):=by
  rw [List.pairwise_map]
  refine List.Pairwise.filterMap _ ?_ (List.pairwise_lt_range (n:=n))
  intro a b ab c hc d hd
  obtain ⟨u,_,rfl⟩:=Option.map_eq_some_iff.mp hc
  obtain ⟨v,_,rfl⟩:=Option.map_eq_some_iff.mp hd
  exact ab
 intro i j a b hi hj ij
 rw [List.getElem?_toArray] at hi hj
 obtain ⟨h1,h2⟩:=List.getElem?_eq_some_iff.mp hi
 obtain ⟨h3,h4⟩:=List.getElem?_eq_some_iff.mp hj
 rw [← h2,← h4]
 exact List.pairwise_iff_getElem.mp pw i j h1 h3 ij
theorem Tb.relaid {led:Bool} {t t':SetTable} {order:Array Nat} (h:Tb led t) {hs:Array Int} {wanted:Nat} (e:t.relaid hs wanted = some (t',order)):Tb led t':=by
 unfold SetTable.relaid SetTable.laid at e
 cases c:SetTable.layClean (SetTable.sizeAbove wanted - 1) hs with
 | none=>rw [c] at e; cases e
 | some owner=>
  rw [c] at e
  injection e with e
  injection e with e1 e2
  subst e1
  exact ⟨gI.live (owner:=fun j=>owner.getD j none) _,rfl,h.ld⟩
theorem Tb.relayAll {led:Bool} {t:SetTable} (h:Tb led t) (es:Array (Int×Value)) (wanted:Nat):Tb led (relayAll t es wanted).2.1:=by
 unfold PySem.relayAll
 split
 ·rename_i t' order e
  dsimp only
  split
  ·exact h.relaid e
  ·exact h.standIn _
 ·exact h.standIn _
end iH
end
section
namespace iH
open PySem PySem.Spec PyProof.Rows
section
variable {prog:Program} {w:World} {A:Around} {E:Value→Shared→Prop} {s:Shared} {led:Bool}
def dw (prog:Program) (w:World) (led:Bool) (h:Heap) (a:Addr) (S:Int→Bool) (n:Nat):Prop:=
 ∃ o es ep t,h.get? a = some o∧o.ExactSet∧o.data = .set es ep t∧ElemsOf (intKind prog w) es.toList∧(∀ k,S k = true↔∃ e∈es.toList,(intKind prog w).is k e.2 = true)∧es.size < scanBound∧t.fits es.size = true∧es.size = n∧Tb led t
theorem dw.stored {h:Heap} {a:Addr} {o:Obj} {es sZ:Array (Int×Value)} {ep:Nat} {t t':SetTable} (ho:h.get? a = some o) (hex:o.ExactSet) (hd:o.data = .set es ep t) {S:Int→Bool}
  (oD:ElemsOf (intKind prog w) sZ.toList) (fK:∀ k,S k = true↔∃ e∈sZ.toList,(intKind prog w).is k e.2 = true) (hb:sZ.size < scanBound) (hf:t'.fits sZ.size = true) (ht:Tb led t') :
  (h.update a (Obj.putSet sZ t')).get? a = some { o with data:=.set sZ (ep + 1) t' }∧dw prog w led (h.update a (Obj.putSet sZ t')) a S sZ.size:=by
 obtain ⟨hg,_⟩:=SetOf_store (knd:=intKind prog w) ho hex hd oD fK hb hf
 exact ⟨hg,_,sZ,ep + 1,t',hg,hex,rfl,oD,fK,hb,hf,rfl,ht⟩
theorem Tb.rf {t:SetTable} (h:Tb led t) (b:Bool):Tb led (if b = true then t else { t with plain:=false }):=by
 cases b
 ·exact ⟨h.rise,h.dm,h.ld⟩
 ·exact h
theorem ua {g:Bool→Sem Unit} (hg:∀ (b:Bool) (s₁ : Shared) (Q':Unit→Shared→Prop),Q' () s₁→wpAny (model prog w) A (g b) Q' E s₁)
  {a:Addr} {o:Obj} {es ic:Array (Int×Value)} {ep:Nat} {t t2:SetTable} {S:Int→Bool} (ho:s.heap.get? a = some o) (hex:o.ExactSet) (hd:o.data = .set es ep t)
  (oD:ElemsOf (intKind prog w) ic.toList) (fK:∀ k,S k = true↔∃ e∈ic.toList,(intKind prog w).is k e.2 = true) (hb:ic.size < scanBound) (hf:t2.fits ic.size = true) (tb:Tb led t2) {wd:Bool} {R:Option Bool→Shared→Prop}
  (h:∀ h',Heap.SameBut a s.heap h'→dw prog w led h' a S ic.size→R (some true) { s with heap:=h' }) :
  wpAny (model prog w) A (do
    storeSet a ic t2
    if (
      !wd && t2.tooFull) = true then do
      g (relayAll t2 ic (SetTable.grown ic.size)).2.2
      storeSet a (relayAll t2 ic (SetTable.grown ic.size)).1 (relayAll t2 ic (SetTable.grown ic.size)).2.1
      pure (some true)
     else pure (some true)) R E s:=by
 obtain ⟨o1,h1⟩:=dw.stored ho hex hd oD fK hb hf tb
 have JV:=Heap.SameBut.update s.heap a (Obj.putSet ic t2)
 refine wpAny_bind (wpAny_storeSet_of ho hd ?_ (fits_of_scanBound hb))
 split
 ·have p2:=relayAll_perm t2 ic (SetTable.grown ic.size)
  have f2:=relayAll_fits t2 ic (SetTable.grown ic.size)
  have t3:=tb.relayAll ic (SetTable.grown ic.size)
  generalize relayAll t2 ic (SetTable.grown ic.size) = N at p2 f2 t3 ⊢
  obtain ⟨Io,tt,gv⟩:=N
  dsimp only at p2 f2 t3 ⊢
  have z2:Io.size = ic.size:=by rw [← Array.length_toList,p2.length_eq,Array.length_toList]
  have yH:Io.size < scanBound:=by rw [z2]; exact hb
  obtain ⟨_,h2⟩:=dw.stored (S:=S) (led:=led) (prog:=prog) (w:=w) o1 hex rfl (oD.perm p2) (fun k=>(fK k).trans ⟨fun ⟨e,he,q⟩=>⟨e,p2.mem_iff.mpr he,q⟩,fun ⟨e,he,q⟩=>⟨e,p2.mem_iff.mp he,q⟩⟩) yH f2 t3
  rw [z2] at h2
  exact wpAny_bind (hg _ _ _ (wpAny_bind (wpAny_storeSet_of o1 rfl (wpAny_pure (h _ (JV.trans (Heap.SameBut.update _ a _)) h2)) (fits_of_scanBound yH))))
 ·exact wpAny_pure (h _ JV h1)
theorem Dy {a:Addr} {S:Int→Bool} {n:Nat} {k:Int} {x:Value} {Q:Bool→Shared→Prop} (oC:(intKind prog w).is k x = true) (Hs:x.scannable = true) (hS:dw prog w led s.heap a S n) (KG:n + 1 < scanBound)
  (h:∀ h',Heap.SameBut a s.heap h'→dw prog w led h' a (fun k'=>S k' || decide (k' = k)) (if S k then n else n + 1)→Q (!S k) { s with heap:=h' }) :
  wpAny (model prog w) A (setAddHashed a x ((intKind prog w).hash k)) Q E s:=by
 obtain ⟨o,es,ep,t,ho,hex,hd,oD,fK,hb,hf,hn,tb⟩:=hS
 unfold setAddHashed setAddHashedIn
 refine wpAny_holding (wpAny_bind (wpAny_setState_of ho hd hf ?_))
 dsimp only
 rw [byScan_of Hs hb oD,if_pos rfl]
 unfold setAddByScan
 refine wpAny_bind (wpAny_bind (wpAny_rule (wpAny_bind (wpAny_setScan_of oC ho hd hf oD ?_))))
 cases hr:List.findIdx? (fun e=>(intKind prog w).is k e.2) es.toList with
 | some j=>
  dsimp only
  obtain ⟨hj,OE,_⟩:=List.findIdx?_eq_some_iff_getElem.mp hr
  have EC:S k = true:=(fK k).mpr ⟨es.toList[j],List.getElem_mem hj,OE⟩
  have eS:(fun k'=>S k' || decide (k' = k)) = S:=by
   funext k'
   by_cases e:k' = k
   ·subst e; rw [EC]; rfl
   ·rw [decide_eq_false e,Bool.or_false]
  have:=h s.heap (Heap.SameBut.refl a s.heap)
  rw [eS,EC,if_pos rfl] at this
  exact wpAny_pure (wpAny_pure (this ⟨o,es,ep,t,ho,hex,hd,oD,fK,hb,hf,hn,tb⟩))
 | none=>
  dsimp only
  have EC:S k = false:=by
   cases c:S k with
   | false=>rfl
   | true=>
    obtain ⟨e,he,hp⟩:=(fK k).mp c
    have:=List.findIdx?_eq_none_iff.mp hr e he
    rw [hp] at this
    cases this
  have h:=fun h'=>h h'
  rw [EC] at h
  have p1:=layNew_perm t es ((intKind prog w).hash k) x
  have f1:=layNew_fits t es ((intKind prog w).hash k) x
  have t1:=tb.layNew es ((intKind prog w).hash k) x
  generalize layNew t es ((intKind prog w).hash k) x = N at p1 f1 t1 ⊢
  obtain ⟨ic,tt,wd,Pq⟩:=N
  dsimp only at p1 f1 t1 ⊢
  rw [Array.toList_push] at p1
  have z1:ic.size = n + 1:=by rw [← Array.length_toList,p1.length_eq,List.length_append,Array.length_toList,hn]; rfl
  have Li:ElemsOf (intKind prog w) ic.toList:=(oD.push oC Hs).perm p1
  have m1:∀ k',(S k' || decide (k' = k)) = true↔∃ e∈ic.toList,(intKind prog w).is k' e.2 = true:=mem_push_iff oC fK p1
  have C1:∀ h',Heap.SameBut a s.heap h'→dw prog w led h' a (fun k'=>S k' || decide (k' = k)) ic.size→Q true { s with heap:=h' }:=fun h' sb qd=>by
   rw [z1] at qd
   exact h h' sb qd
  have gw:∀ (b:Bool) (s₁ : Shared) (Q':Unit→Shared→Prop),Q' () s₁→wpAny (model prog w) A (match b with | true=>rule "set.scan.the-table-gave-way" | false=>pure ()) Q' E s₁:=fun b s₁ Q' hq=>by
   cases b
   ·exact wpAny_pure hq
   ·exact wpAny_rule hq
  refine wpAny_bind (gw _ _ _ ?_)
  have fp:∀ b:Bool,(if b = true then tt else { tt with plain:=false }).fits ic.size = true:=fun b=>by
   cases b
   ·exact SetTable.fits_plain_off f1
   ·exact f1
  split
  ·refine wpAny_bind ?_
   rw [hashByValue_scannable 8 Hs]
   refine wpAny_pure ?_
   refine ua ?_ ho hex hd Li m1 (by omega) (fp _) (t1.rf _) ?_
   ·intro b s₁ Q' hq
    cases b
    ·exact wpAny_pure hq
    ·exact wpAny_rule hq
   ·intro h' sb qd
    dsimp only
    exact wpAny_pure (C1 h' sb qd)
  ·refine wpAny_bind (wpAny_pure ?_)
   refine ua ?_ ho hex hd Li m1 (by omega) (fp _) (t1.rf _) ?_
   ·intro b s₁ Q' hq
    cases b
    ·exact wpAny_pure hq
    ·exact wpAny_rule hq
   ·intro h' sb qd
    dsimp only
    exact wpAny_pure (C1 h' sb qd)
end
end iH
end
section
namespace iH
open PySem PySem.Spec PyProof.Rows
section
variable {prog:Program} {w:World} {A:Around} {led:Bool}
theorem dw.keep {h h':Heap} {a:Addr} {S:Int→Bool} {n:Nat} (x:dw prog w led h a S n) (k:∀ o,h.get? a = some o→h'.get? a = some o):dw prog w led h' a S n:=by
 obtain ⟨o,es,ep,t,h1,rest⟩:=x
 exact ⟨o,es,ep,t,k o h1,rest⟩
theorem dw.turn {h:Heap} {a:Addr} {val:Nat→Int} {i:Nat} (x:dw prog w led h a (fun k'=>(firstMet val i).any (· == k') || decide (k' = val i)) (if (firstMet val i).any (· == val i) then (firstMet val i).length else (firstMet val i).length + 1)) :
  dw prog w led h a (fun k'=>(firstMet val (i + 1)).any (· == k')) (firstMet val (i + 1)).length:=by
 have e1:(fun k'=>(firstMet val (i + 1)).any (· == k')) = fun k'=>(firstMet val i).any (· == k') || decide (k' = val i):=by
  funext k'
  rw [firstMet_succ,step_any]
 rw [e1,firstMet_succ,step_length]
 exact x
variable {R:Result→Shared→Prop} {I:Addr} {fp wr:List Addr} {G:Array GenState→Array GenState→Prop} {n:Nat} {P:Nat→Value→Prop} {St:Nat→Shared→Prop}
theorem zR (W:WalksS prog w A.in1 I fp wr G n P St) {c:Addr} (hc:c∉fp) (val:Nat→Int) (Ag:∀ i v,P i v→∃ t,v = .int (val i) t) (hb:n + 1 < scanBound) (m:Nat) :
  ∀ (i:Nat) (s:Shared),n - i = m→i≤n→St i s→dw prog w led s.heap c (fun k'=>(firstMet val i).any (· == k')) (firstMet val i).length→
   (∀ s',Moved (c :: wr) G s s'→dw prog w led s'.heap c (fun k'=>(firstMet val n).any (· == k')) (firstMet val n).length→R (.ok (.ret .none)) s')→
   codeAny (model prog w) A (.builtin "set.update.loop" ⟨[.ref c,.ref I],[]⟩) R s:=by
 have cw:c∉wr:=fun h=>hc (W.sub _ h)
 have up:∀ b∈wr,b∈c :: wr:=fun b hb=>List.mem_cons_of_mem _ hb
 induction m with
 | zero=>
  intro i s hm hi st hS hR
  obtain rfl:i = n:=by omega
  refine codeAny_builtin F.entry_set_update_loop ?_
  rw [Around.under_plainId F.plain_set_update_loop _]
  show wpAny _ A.in1 (pyNext (.ref I) >>= _) _ _ s
  refine wpAny_bind (W.done s _ _ st fun s' mv=>?_)
  show wpAny _ A.in1 (ret Value.none) _ _ s'
  exact wpAny_pure (hR s' (mv.mono up) (hS.keep fun o ho=>mv.heap c o cw ho))
 | succ m ih=>
  intro i s hm hi st hS hR
  have lt:i < n:=by omega
  have lC:=firstMet_length_le val i
  refine codeAny_builtin F.entry_set_update_loop ?_
  rw [Around.under_plainId F.plain_set_update_loop _]
  show wpAny _ A.in1 (pyNext (.ref I) >>= _) _ _ s
  refine wpAny_bind (W.item i s _ _ lt st fun v s' hP vT mv=>?_)
  obtain ⟨tk,rfl⟩:=Ag i v hP
  have qd:=hS.keep fun o ho=>mv.heap c o cw ho
  show wpAny _ A.in1 (holding [Value.int (val i) tk] (setAdd c (.int (val i) tk)) >>= _) _ _ s'
  refine wpAny_bind (wpAny_holding ?_)
  unfold setAdd
  refine wpAny_holding (wpAny_bind ((intKind prog w).pyHash (k:=val i) (intKind_is _ _ _ _) ?_))
  refine Dy (led:=led) (s:={ s' with toks:=s'.toks + 1 }) (intKind_is _ _ _ _) rfl qd (by omega) fun h' sb Pf=>?_
  refine wpAny_pure ⟨plainId_quiet F.plain_set_update_loop _,ih (i + 1) _ (by omega) lt (W.frame _ s' _ _ vT (Nat.le_succ _) fun b hb o e=>?_) Pf.turn fun BV GV Ih=>?_⟩
  ·rw [sb.2 b (fun z:b = c=>hc (z▸hb))]; exact e
  ·refine hR BV (Moved.trans W.gtrans ((mv.mono up).then_heap (Nat.le_succ _) fun b o hb e=>?_) GV) Ih
   rw [sb.2 b (fun z:b = c=>hb (z▸List.mem_cons_self))]; exact e
end
end iH
end
section
namespace iH
open PySem PySem.Spec PyProof.Rows
section
variable {prog:Program} {w:World} {A:Around} {E:Value→Shared→Prop} {s:Shared}
def cq (w:World):Bool:=!w.params.followText "set-order"
def kC (w:World):Obj:={ cls:=.type "set",dict:=none,data:=.set #[] 0 (.fresh 0 0 (cq w)) }
theorem Cn (a:Value) {Q:Value→Shared→Prop} (h:Q (.ref s.heap.objs.size) { s with heap:=s.heap.push (kC w) }) :
  codeAny (model prog w) A (.call (.builtin "set.__new__") ⟨[.type "set",a],[]⟩) (wants Q E) s:=by
 refine codeAny_of_tree ?_
 show wpAny _ A.in1 (do checkBuiltinCall "set.__new__" ⟨[.type "set",a],[]⟩; again (.builtin "set.__new__" ⟨[.type "set",a],[]⟩)) _ _ s
 refine wpAny_bind (wpAny_of_eq (F.newCall_set_1 a) (wpAny_pure ⟨plainId_quiet F.plain_set_new _,codeAny_builtin F.entry_set_new ?_⟩))
 rw [Around.under_plainId F.plain_set_new _]
 unfold Builtin.«set.__new__» Builtin.Frozenset.newClass
 have Ho:=sub_set_self
 obtain ⟨hp,g,d,tk,os⟩:=s
 dsimp only
 wp_walk
 refine wpAny_askSetting (wpAny_pure ?_)
 dsimp only
 simp only [newObj]
 refine wpAny_bind (wpAny_alloc (wpAny_pure ?_))
 exact wpAny_pure h
theorem dw.fresh {h:Heap} {a:Addr} (e:h.get? a = some (kC w)):dw prog w (cq w) h a (fun _=>false) 0:=
 ⟨_,#[],0,_,e,⟨rfl,rfl,rfl⟩,rfl,fun e he=>by simp at he,fun k=>by simp,by decide,by rfl,rfl,Tb.fresh _⟩
set_option maxHeartbeats 3200000 in
theorem AM {l:Addr} {items:Array Value} {ns:List Int} {Q:Value→Shared→Prop} (hh:A.handled = none) (hl:s.heap.IsList l items) (hi:IntsAre items.toList ns) (hb:items.size + 1 < scanBound)
  (h:∀ (h':Heap) (tk:Nat),dw prog w (cq w) h' s.heap.objs.size (fun k'=>(firstMet (fun i=>ns.getD i 0) items.size).any (· == k')) (firstMet (fun i=>ns.getD i 0) items.size).length→
   (∀ b o,b < s.heap.objs.size→s.heap.get? b = some o→h'.get? b = some o)→Q (.ref s.heap.objs.size) { s with heap:=h',toks:=tk }) :
  wpAny (model prog w) A (call (.type "set") [.ref l]) Q E s:=by
 obtain ⟨c,tl,OP⟩:=F.called_set.mro
 have KP:=F.called_set.made
 have Ho:=F.called_set.sub
 refine wpAny_call (codeAny_of_tree ?_)
 show wpAny _ _ (callAny (.type "set") _) _ _ _
 refine wpAny_pure ⟨Code.quiet_builtin _ (by decide +kernel),codeAny_builtin F.entry_type_call ?_⟩
 rw [Around.under_plain (weight_type_call_type "set" [.ref l] []) rfl]
 have h1:=F.called_set.notType
 have h2:=F.called_set.canCreate
 have RS:=F.typeCall_set_1 (.ref l)
 repeat (any_goals (first | assumption | wp_step))
 refine codeAny_mono (Cn (.ref l) (E:=E) (Q:=fun obj s₁=>obj = .ref s.heap.objs.size∧s₁ = { s with heap:=s.heap.push (kC w) }) ⟨rfl,rfl⟩) fun r s₁ hr=>?_
 cases r with
 | error e=>exact hr
 | ok fl=>
  cases fl with
  | ret obj=>
   obtain ⟨rfl,rfl⟩:=hr
   have hS:(s.heap.push (kC w)).get? s.heap.objs.size = some (kC w):=Heap.get?_push_size _ rfl
   have hT:Shared.TypeIs { s with heap:=s.heap.push (kC w) } (.ref s.heap.objs.size) "set":=⟨_,hS,rfl⟩
   have RL:=F.called_set.init.lookup
   have RU:=F.called_set.init.bind (.ref s.heap.objs.size)
   repeat (any_goals (first | assumption | wp_step))
   refine codeAny_mono (codeAny_call_builtin (R:=wants (fun r s₂=>r = .none∧∃ h' tk,s₂ = { s with heap:=h',toks:=tk }∧dw prog w (cq w) h' s.heap.objs.size (fun k'=>(firstMet (fun i=>ns.getD i 0) items.size).any (· == k')) (firstMet (fun i=>ns.getD i 0) items.size).length∧
     (∀ b o,b < s.heap.objs.size→s.heap.get? b = some o→h'.get? b = some o)) E) F.called_set.init.plain F.entry_set_init (check_set_init_1 hT ?_)) fun r₂ s₂ hr₂=>?_
   ·obtain ⟨ol,KJ,yF,nl,vY⟩:=hl
    obtain ⟨Nv,Cg,Kc,zH⟩:=ol
    simp only at yF vY
    subst yF; subst vY
    have HC:(s.heap.push (kC w)).get? l = some { cls:=.type "list",dict:=Cg,data:=.seq items nl,slots:=zH }:=Heap.get?_push_of_some _ KJ
    have Oq:=F.sub_list_set
    have Ot:=F.sub_list_frozenset
    have hJ:(Value.type "list" == Value.type "dict") = false:=by decide
    have CL:(s.heap.push (kC w)).IsList l items:=⟨_,HC,rfl,nl,rfl⟩
    unfold Builtin.«set.__init__» noKeywords Builtin.Frozenset.updateFrom
    generalize Pj:pyIter = PI
    wp_walk
    subst Pj
    refine wpAny_pyIter_list CL ?_
    refine wpAny_bind (wpAny_runValue ?_)
    have ls:l < s.heap.objs.size:=Heap.lt_size KJ
    have h3:A.in1.in1.in1.handled = none:=by simp [hh]
    have lI:l≠(s.heap.push (kC w)).objs.size:=by rw [Heap.size_push]; exact Nat.ne_of_lt (Nat.lt_succ_of_lt ls)
    have cf:s.heap.objs.size∉[(s.heap.push (kC w)).objs.size,l]:=by
     rw [Heap.size_push]
     simp only [List.mem_cons,List.not_mem_nil,or_false,not_or]
     exact ⟨Nat.ne_of_lt (Nat.lt_succ_self _),Nat.ne_of_gt ls⟩
    have Ag:∀ (i:Nat) (v:Value),items[i]? = some v→∃ t,v = .int ((fun i=>ns.getD i 0) i) t:=fun i v hv=>IntsAre.int_at hi i v (by rw [Array.getElem?_toList]; exact hv)
    refine zR (led:=cq w) ((Walks.list h3 _ l lI items).toS) cf (fun i=>ns.getD i 0) Ag hb items.size 0 _ (by omega) (Nat.zero_le _) ⟨⟨_,Heap.get?_push_size _ rfl,rfl,rfl⟩,CL.push _⟩ ?_ ?_
    ·exact dw.fresh (Heap.get?_push_of_some _ hS)
    ·intro s' mv qd
     obtain ⟨h',g',d',LX,Gh⟩:=s'
     have eg:g' = s.gens:=mv.gens
     have ed:d' = s.drawn:=mv.drawn
     have eo:Gh = s.os:=mv.os
     subst eg; subst ed; subst eo
     show wpAny _ _ _ _ _ _
     refine wpAny_pure ?_
     show wpAny _ _ (ret Value.none) _ _ _
     refine wpAny_pure ⟨rfl,h',LX,rfl,qd,fun b o hb e=>?_⟩
     refine mv.heap b o ?_ (Heap.get?_push_of_some _ (Heap.get?_push_of_some _ e))
     simp only [List.mem_cons,List.not_mem_nil,or_false,not_or]
     exact ⟨Nat.ne_of_lt hb,by rw [Heap.size_push]; exact Nat.ne_of_lt (Nat.lt_succ_of_lt hb)⟩
   ·cases r₂ with
    | error e=>exact hr₂
    | ok fl₂=>
     cases fl₂ with
     | ret r=>
      obtain ⟨rfl,h',tk,rfl,qd,Et⟩:=hr₂
      repeat (any_goals (first | assumption | wp_step))
      exact h _ _ qd Et
     | _=>exact hr₂.elim
  | _=>exact hr.elim
end
end iH
end
section
namespace iH
open PySem PySem.Spec
theorem i5 {α : Type}:∀ {l:List α} {i:Nat} {x : α},l[i]? = some x→(x :: l.eraseIdx i).Perm l
 | [],i,x,h=>by simp at h
 | y :: l,0,x,h=>by
  injection h with h
  subst h
  exact .refl _
 | y :: l,i + 1,x,h=>by
  have:=i5 (l:=l) (i:=i) (x:=x) (by simpa using h)
  exact (List.Perm.swap y x _).trans (this.cons y)
theorem ri {α : Type} (next:Nat→Nat):∀ (fuel k:Nat) (left:List α) (out:Array α),left.length≤fuel→(pickOrder.go next fuel k left out).toList.Perm (out.toList ++ left)
 | 0,k,left,out,h=>by
  have:left = []:=List.length_eq_zero_iff.mp (by omega)
  subst this
  unfold pickOrder.go
  rw [List.append_nil]
 | fuel + 1,k,left,out,h=>by
  unfold pickOrder.go
  cases e:left[next k % left.length]? with
  | none=>
   have:left = []:=by
    cases left with
    | nil=>rfl
    | cons y l=>
     have:=List.getElem?_eq_none_iff.mp e
     have:=Nat.mod_lt (next k) (show 0 < (y :: l).length by simp)
     omega
   subst this
   dsimp only
   rw [List.append_nil]
  | some x=>
   dsimp only
   have il:=(List.getElem?_eq_some_iff.mp e).1
   have:=ri next fuel (k + 1) (left.eraseIdx (next k % left.length)) (out.push x) (by rw [List.length_eraseIdx_of_lt il]; omega)
   refine this.trans ?_
   rw [Array.toList_push,List.append_assoc]
   exact (i5 e).append_left _
theorem fW {α : Type} (next:Nat→Nat) (xs:Array α):(pickOrder next xs).toList.Perm xs.toList:=by
 have:=ri next xs.size 0 xs.toList #[] (by simp)
 exact this
theorem ql {xs:Array Nat} (hr:gI xs) {i j:Nat} (h:xs[i]? = some j):SetTable.below xs (j + 1) = i + 1:=by
 obtain ⟨h1,h2,h3⟩:=gH hr (j + 1)
 have il:=(Array.getElem?_eq_some_iff.mp h).1
 rcases Nat.lt_trichotomy (SetTable.below xs (j + 1)) (i + 1) with z | z | z
 ·have:=h3 i j h (by omega)
  omega
 ·exact z
 ·have e:xs[i + 1]? = some xs[i + 1]:=Array.getElem?_eq_getElem (by omega)
  have:=h2 (i + 1) _ e (by omega)
  have:=hr i (i + 1) j _ h e (by omega)
  omega
theorem qk {xs:Array Nat} (hr:gI xs):SetTable.below xs 0 = 0:=by
 obtain ⟨h1,h2,h3⟩:=gH hr 0
 rcases Nat.eq_zero_or_pos (SetTable.below xs 0) with z | z
 ·exact z
 ·have e:xs[0]? = some xs[0]:=Array.getElem?_eq_getElem (by omega)
  have:=h2 0 _ e z
  omega
section
variable {M:Model} {A:Around} {E:Value→Shared→Prop}
theorem lT {src:Source} {n:Nat} {s:Shared} {Q:Nat→Shared→Prop} (hn:n≠0) (h:∀ i d,i < n→Q i { s with drawn:=d }):wpAny M A (choose src n) Q E s:=fun Γ p _=>by
 show Sem.wp M Γ (.choose src n .pure) _ _ p s
 rw [Sem.wp_choose]
 exact ⟨hn,h _ _ (Nat.mod_lt _ (Nat.pos_of_ne_zero hn))⟩
theorem lG {α : Type}:∀ (n:Nat) (xs:List α) (s:Shared) (Q:List α→Shared→Prop),xs.length≤n→(∀ ys d,ys.Perm xs→Q ys { s with drawn:=d })→wpAny M A (drawOrder n xs) Q E s
 | 0,xs,s,Q,h,q=>by
  have:xs = []:=List.length_eq_zero_iff.mp (by omega)
  subst this
  unfold drawOrder
  exact wpAny_pure (q [] s.drawn (.refl _))
 | n + 1,[],s,Q,h,q=>by
  unfold drawOrder
  exact wpAny_pure (q [] s.drawn (.refl _))
 | n + 1,x :: xs,s,Q,h,q=>by
  unfold drawOrder
  refine wpAny_bind (lT (by simp) fun i d hi=>?_)
  have e:(x :: xs)[i]? = some (x :: xs)[i]:=List.getElem?_eq_getElem hi
  rw [e]
  dsimp only
  refine wpAny_bind (lG n ((x :: xs).eraseIdx i) _ _ (by rw [List.length_eraseIdx_of_lt hi]; simp at h ⊢; omega) fun ys d' p=>?_)
  exact wpAny_pure (q _ d' ((p.cons _).trans (i5 e)))
end
end iH
end
section
namespace iH
open PySem PySem.Spec
theorem slot_next:Slot "set_iterator" "__next__" "set_iterator.__next__" :=
 .of (owner:= "set_iterator") (n:= "__next__") (by rw [typeLookup_type,builtinLookup_eq_fast]; kernel_rfl) (by decide +kernel) (by decide +kernel) (by decide +kernel)
  (by first | exact .inl (by decide +kernel) | exact .inr (by decide +kernel)) (by rw [isSubtype_type]; kernel_rfl)
theorem entry_next:entryFor table "set_iterator.__next__" = some Builtin.«set_iterator.__next__»:=entryFor_of_tree (by kernel_rfl)
theorem n8:Manifest.owners.lookup (String.ofList ['r','o','t','a','r','e','t','i','_','t','e','s'].reverse) = some Manifest.sig_set_iterator:=by kernel_rfl
theorem args_next (a:Value):argsOk "set_iterator.__next__" ⟨[a],[]⟩:=by
 unfold argsOk; rw [signature?_of (id:= "set_iterator.__next__") (n:=['_','_','t','x','e','n','_','_']) (o:=['r','o','t','a','r','e','t','i','_','t','e','s']) (by kernel_rfl) n8]; kernel_rfl
theorem qg:entryFor table "set.__iter__" = some Builtin.«frozenset.__iter__»:=
 entryFor_alias (id':= "frozenset.__iter__") (by kernel_rfl) rfl (by decide +kernel) (by kernel_rfl)
end iH
end
section
namespace iH
open PySem PySem.Spec PyProof.Rows
section
variable {prog:Program} {w:World} {A:Around} {E:Value→Shared→Prop} {s:Shared} {a:Addr} {o:Obj} {es:Array (Int×Value)} {ep:Nat} {t:SetTable}
theorem hV {Q:Bool→Shared→Prop} (q:Q (!cq w) s):wpAny (model prog w) A setsByText Q E s:=by
 unfold setsByText
 refine wpAny_bind (wpAny_askSetting (wpAny_pure ?_))
 unfold cq at q
 rw [Bool.not_not] at q
 exact q
def At (t:SetTable) (i slot:Nat):Prop:=(i = 0∧slot = 0)∨∃ k j,i = k + 1∧t.place[k]? = some j∧slot = j + 1
theorem At.below {t:SetTable} {i slot:Nat} (h:At t i slot) (hr:gI t.place):SetTable.below t.place slot = i:=by
 rcases h with ⟨h1,h2⟩ | ⟨k,j,h1,h2,h3⟩
 ·subst h1; subst h2; exact qk hr
 ·subst h1; subst h3; exact ql hr h2
theorem iM {Q:Option (Value×Nat)→Shared→Prop} (ho:s.heap.get? a = some o) (hd:o.data = .set es ep t) (hf:t.fits es.size = true) (tb:Tb (cq w) t) (led:cq w = true) (pl:¬ (t.plain = false∧1 < es.size)) {i slot given:Nat} (h:At t i slot)
  (q1:∀ (hi:i < es.size) (j:Nat),At t (i + 1) (j + 1)→Q (some (es[i].2,j + 1)) s) (q2:es.size≤i→Q none s):wpAny (model prog w) A (setNext a slot given ep) Q E s:=by
 have ps:t.place.size = es.size:=by
  unfold SetTable.fits at hf
  simp at hf
  exact hf.1
 unfold setNext
 refine wpAny_bind (wpAny_setState_of ho hd hf ?_)
 dsimp only
 refine wpAny_bind (hV ?_)
 rw [led,if_neg (by decide)]
 split
 ·rename_i rQ
  have rQ:(!t.plain && decide (es.size > 1)) = true:=rQ
  refine absurd ?_ pl
  simp at rQ
  exact rQ
 ·refine wpAny_bind ?_
  show wpAny _ A (if (!t.led && !es.isEmpty) = true then unsupported "set:maker-not-led" else pure ()) _ E s
  rw [tb.ld,led,if_neg (by simp)]
  refine wpAny_pure ?_
  rw [h.below tb.rise]
  refine wpAny_pure ?_
  by_cases hi:i < es.size
  ·have e1:es[i]? = some es[i]:=Array.getElem?_eq_getElem hi
   have e2:t.place[i]? = some t.place[i]:=Array.getElem?_eq_getElem (by omega)
   rw [e1,e2]
   exact q1 hi _ (.inr ⟨i,_,rfl,e2,rfl⟩)
  ·have e1:es[i]? = none:=Array.getElem?_eq_none (by omega)
   rw [e1]
   exact q2 (by omega)
theorem kY {Q:Option (Value×Nat)→Shared→Prop} (ho:s.heap.get? a = some o) (hd:o.data = .set es ep t) (hf:t.fits es.size = true) (led:cq w = false) {slot given:Nat}
  (q:Q (((pickOrder (w.params.setOrder a ep) es)[given]?).map fun e=>(e.2,slot)) s):wpAny (model prog w) A (setNext a slot given ep) Q E s:=by
 unfold setNext
 refine wpAny_bind (wpAny_setState_of ho hd hf ?_)
 dsimp only
 refine wpAny_bind (hV ?_)
 rw [led,if_pos (by decide),if_neg (by simp)]
 refine wpAny_bind ?_
 unfold setWalk
 refine wpAny_bind (wpAny_setState_of ho hd hf ?_)
 dsimp only
 refine wpAny_bind (hV ?_)
 rw [led,if_pos (by decide)]
 exact wpAny_bind (wpAny_askSetting (wpAny_pure (wpAny_pure q)))
theorem pY {Q:Value→Shared→Prop} (ho:s.heap.get? a = some o) (hd:o.data = .set es ep t) (hf:t.fits es.size = true) {i:Nat} (hi:i < es.size) (q:Q es[i].2 s):wpAny (model prog w) A (setNextDrawn a i ep) Q E s:=by
 unfold setNextDrawn
 refine wpAny_bind (wpAny_setState_of ho hd hf ?_)
 dsimp only
 rw [if_neg (by simp),Array.getElem?_eq_getElem hi]
 exact wpAny_pure q
end
end iH
end
section
namespace iH
open PySem PySem.Spec PyProof.Rows PySem.Calls
def gg (h:Heap) (ik a:Addr) (first:Value) (i size ep:Nat):Prop:=∃ oi,h.get? ik = some oi∧oi.cls = .type "set_iterator"∧oi.data = .fields #[first,.int i 0,.ref a,.int size 0,.int ep 0]
section
variable {prog:Program} {w:World} {ar:Around} {E:Value→Shared→Prop} {s:Shared} {a ik:Addr} {o:Obj} {es:Array (Int×Value)} {ep:Nat} {t:SetTable}
theorem gg.ty {first:Value} {i n ep:Nat} (h:gg s.heap ik a first i n ep):s.TypeIs (.ref ik) "set_iterator":=by
 obtain ⟨oi,h1,h2,_⟩:=h
 exact ⟨oi,h1,h2⟩
theorem rE {slot i nx:Nat} {x:Value} (hit:gg s.heap ik a (.int slot 0) i es.size ep) (ho:s.heap.get? a = some o) (hd:o.data = .set es ep t) (hf:t.fits es.size = true)
  (hn:∀ (A':Around) (Q':Option (Value×Nat)→Shared→Prop) (E':Value→Shared→Prop),Q' (some (x,nx)) s→wpAny (model prog w) A' (setNext a slot i ep) Q' E' s) {Q:Option Value→Shared→Prop}
  (q:∀ h',gg h' ik a (.int nx 0) (i + 1) es.size ep→Heap.SameBut ik s.heap h'→Q (some x) { s with heap:=h' }):wpAny (model prog w) ar (pyNext (.ref ik)) Q E s:=by
 obtain ⟨oi,gi,ci,di⟩:=id hit
 unfold pyNext
 refine wpAny_bind (wpAny_attempt (wpAny_callSpecial?_slot (name:=Str.ofString "__next__") hit.ty slot_next (wpAny_call_entry slot_next hit.ty entry_next ?_ (args_next _))))
 unfold Builtin.«set_iterator.__next__»
 refine wpAny_bind (wpAny_pure (wpAny_bind (wpAny_fieldsOf gi di ?_)))
 dsimp only
 refine wpAny_bind (wpAny_setEntries_of ho hd hf ?_)
 rw [if_neg (by simp)]
 refine wpAny_bind ?_
 simp only [Int.toNat_natCast]
 refine hn _ _ _ ?_
 dsimp only
 refine wpAny_bind (wpAny_setField gi di (by simp) ?_)
 have g1:=Heap.get?_update_self (Obj.mapFields (·.setIfInBounds 0 (rawInt (nx:Int)))) gi (Obj.isFreed_of_fields (Obj.data_mapFields di _))
 have d1:=Obj.data_mapFields di (·.setIfInBounds 0 (rawInt (nx:Int)))
 refine wpAny_bind (wpAny_setField g1 d1 (by simp) ?_)
 have g2:=Heap.get?_update_self (Obj.mapFields (·.setIfInBounds 1 (rawInt ((i:Int) + 1)))) g1 (Obj.isFreed_of_fields (Obj.data_mapFields d1 _))
 have d2:=Obj.data_mapFields d1 (·.setIfInBounds 1 (rawInt ((i:Int) + 1)))
 refine wpAny_pure ⟨_,rfl,wpAny_pure (q _ ⟨_,g2,(Obj.cls_mapFields ..).trans ((Obj.cls_mapFields ..).trans ci),?_⟩ ((Heap.SameBut.update ..).trans (Heap.SameBut.update ..)))⟩
 rw [d2]
 simp [rawInt]
theorem rD {slot i:Nat} (hh:ar.handled = none) (hit:gg s.heap ik a (.int slot 0) i es.size ep) (ho:s.heap.get? a = some o) (hd:o.data = .set es ep t) (hf:t.fits es.size = true)
  (hn:∀ (A':Around) (Q':Option (Value×Nat)→Shared→Prop) (E':Value→Shared→Prop),Q' none s→wpAny (model prog w) A' (setNext a slot i ep) Q' E' s) {Q:Option Value→Shared→Prop}
  (q:∀ h',Heap.ExtBut ik s.heap h'→Q none { s with heap:=h' }):wpAny (model prog w) ar (pyNext (.ref ik)) Q E s:=by
 obtain ⟨oi,gi,ci,di⟩:=id hit
 unfold pyNext
 refine wpAny_bind (wpAny_attempt (wpAny_callSpecial?_slot (name:=Str.ofString "__next__") hit.ty slot_next (wpAny_call_entry slot_next hit.ty entry_next ?_ (args_next _))))
 unfold Builtin.«set_iterator.__next__»
 refine wpAny_bind (wpAny_pure (wpAny_bind (wpAny_fieldsOf gi di ?_)))
 dsimp only
 refine wpAny_bind (wpAny_setEntries_of ho hd hf ?_)
 rw [if_neg (by simp)]
 refine wpAny_bind ?_
 simp only [Int.toNat_natCast]
 refine hn _ _ _ ?_
 dsimp only
 refine wpAny_bind (wpAny_setField gi di (by simp) (show wpAny _ _ (newExc (.type "StopIteration") [] >>= _) _ _ _ from wpAny_bind ?_))
 simp only [newExc,newTuple]
 refine wpAny_bind (wpAny_newObj_type (wpAny_bind (m:=firstArgMember _ _) (wpAny_of_eq (a:=Value.none) (by first | rfl | (simp only [firstArgMember]; rfl)) (wpAny_newObj_type ?_ (by size_fits)))) (by size_fits))
 simp only [raiseNew]
 refine wpAny_bind (wpAny_handled ?_)
 rw [show ar.in1.handled = none from hh]
 refine wpAny_bind (wpAny_pure (wpAny_throw ?_))
 refine wpAny_bind (wpAny_isInstance (b:=true) (T:= "StopIteration") ⟨_,Heap.get?_push_size _ rfl,rfl⟩ isSubtype_stop ?_)
 exact wpAny_pure (q _ (((Heap.SameBut.update ..).extBut.push _).push _))
theorem xG {i m:Nat} {tp:Addr} {ot:Obj} {ps:Array Value} {np:Nat} {tk:Tok} (hit:gg s.heap ik a (.ref tp) i es.size ep) (ho:s.heap.get? a = some o) (hd:o.data = .set es ep t) (hf:t.fits es.size = true)
  (hp:s.heap.get? tp = some ot) (dp:ot.data = .seq ps np) (hm:ps[i]? = some (.int (m:Int) tk)) (hi:m < es.size) {Q:Option Value→Shared→Prop}
  (q:∀ h',gg h' ik a (.ref tp) (i + 1) es.size ep→Heap.SameBut ik s.heap h'→Q (some es[m].2) { s with heap:=h' }):wpAny (model prog w) ar (pyNext (.ref ik)) Q E s:=by
 obtain ⟨oi,gi,ci,di⟩:=id hit
 unfold pyNext
 refine wpAny_bind (wpAny_attempt (wpAny_callSpecial?_slot (name:=Str.ofString "__next__") hit.ty slot_next (wpAny_call_entry slot_next hit.ty entry_next ?_ (args_next _))))
 unfold Builtin.«set_iterator.__next__»
 refine wpAny_bind (wpAny_pure (wpAny_bind (wpAny_fieldsOf gi di ?_)))
 dsimp only
 refine wpAny_bind (wpAny_setEntries_of ho hd hf ?_)
 rw [if_neg (by simp)]
 refine wpAny_bind ?_
 unfold seqItems?
 dsimp only
 refine wpAny_bind (wpAny_load hp ?_)
 rw [dp]
 dsimp only
 refine wpAny_pure ?_
 dsimp only
 rw [Int.toNat_natCast,hm]
 dsimp only
 rw [Int.toNat_natCast,Int.toNat_natCast]
 refine wpAny_bind (pY ho hd hf hi ?_)
 refine wpAny_bind (wpAny_setField gi di (by simp) ?_)
 have g1:=Heap.get?_update_self (Obj.mapFields (·.setIfInBounds 1 (rawInt ((i:Int) + 1)))) gi (Obj.isFreed_of_fields (Obj.data_mapFields di _))
 have d1:=Obj.data_mapFields di (·.setIfInBounds 1 (rawInt ((i:Int) + 1)))
 refine wpAny_pure ⟨_,rfl,wpAny_pure (q _ ⟨_,g1,(Obj.cls_mapFields ..).trans ci,?_⟩ (Heap.SameBut.update ..))⟩
 rw [d1]
 simp [rawInt]
theorem xF {i:Nat} {tp:Addr} {ot:Obj} {ps:Array Value} {np:Nat} (hh:ar.handled = none) (hit:gg s.heap ik a (.ref tp) i es.size ep) (ho:s.heap.get? a = some o) (hd:o.data = .set es ep t) (hf:t.fits es.size = true)
  (hp:s.heap.get? tp = some ot) (dp:ot.data = .seq ps np) (hm:ps[i]? = none) {Q:Option Value→Shared→Prop}
  (q:∀ h',Heap.ExtBut ik s.heap h'→Q none { s with heap:=h' }):wpAny (model prog w) ar (pyNext (.ref ik)) Q E s:=by
 obtain ⟨oi,gi,ci,di⟩:=id hit
 unfold pyNext
 refine wpAny_bind (wpAny_attempt (wpAny_callSpecial?_slot (name:=Str.ofString "__next__") hit.ty slot_next (wpAny_call_entry slot_next hit.ty entry_next ?_ (args_next _))))
 unfold Builtin.«set_iterator.__next__»
 refine wpAny_bind (wpAny_pure (wpAny_bind (wpAny_fieldsOf gi di ?_)))
 dsimp only
 refine wpAny_bind (wpAny_setEntries_of ho hd hf ?_)
 rw [if_neg (by simp)]
 refine wpAny_bind ?_
 unfold seqItems?
 dsimp only
 refine wpAny_bind (wpAny_load hp ?_)
 rw [dp]
 dsimp only
 refine wpAny_pure ?_
 dsimp only
 rw [Int.toNat_natCast,hm]
 dsimp only
 refine wpAny_bind (wpAny_setField gi di (by simp) ?_)
 have g1:=Heap.get?_update_self (Obj.mapFields (·.setIfInBounds 0 (rawInt 0))) gi (Obj.isFreed_of_fields (Obj.data_mapFields di _))
 have d1:=Obj.data_mapFields di (·.setIfInBounds 0 (rawInt 0))
 refine wpAny_bind (wpAny_setField g1 d1 (by simp) (show wpAny _ _ (newExc (.type "StopIteration") [] >>= _) _ _ _ from wpAny_bind ?_))
 simp only [newExc,newTuple]
 refine wpAny_bind (wpAny_newObj_type (wpAny_bind (m:=firstArgMember _ _) (wpAny_of_eq (a:=Value.none) (by first | rfl | (simp only [firstArgMember]; rfl)) (wpAny_newObj_type ?_ (by size_fits)))) (by size_fits))
 simp only [raiseNew]
 refine wpAny_bind (wpAny_handled ?_)
 rw [show ar.in1.handled = none from hh]
 refine wpAny_bind (wpAny_pure (wpAny_throw ?_))
 refine wpAny_bind (wpAny_isInstance (b:=true) (T:= "StopIteration") ⟨_,Heap.get?_push_size _ rfl,rfl⟩ isSubtype_stop ?_)
 exact wpAny_pure (q _ ((((Heap.SameBut.update ..).trans (Heap.SameBut.update ..)).extBut.push _).push _))
end
end iH
end
section
namespace iH
open PySem PySem.Spec PyProof.Rows PySem.Calls
section
variable {prog:Program} {w:World} {ar:Around} {E:Value→Shared→Prop} {s:Shared} {a ik:Addr} {o:Obj} {es:Array (Int×Value)} {ep:Nat} {t:SetTable}
theorem xE {Q:Bool→Shared→Prop} (ho:s.heap.get? a = some o) (hd:o.data = .set es ep t) (hf:t.fits es.size = true) (q:Q (cq w && (!t.plain && decide (es.size > 1))) s):wpAny (model prog w) ar (setDrawn a) Q E s:=by
 unfold setDrawn
 refine wpAny_bind (wpAny_setState_of ho hd hf ?_)
 dsimp only
 refine wpAny_bind (hV ?_)
 refine wpAny_pure ?_
 rw [Bool.not_not]
 exact q
theorem zZ {Q:Value→Shared→Prop} (ho:s.heap.get? a = some o) (hex:o.ExactSet) (hd:o.data = .set es ep t) (hf:t.fits es.size = true) (hb:es.size≤4000)
  (q1:(cq w && (!t.plain && decide (es.size > 1))) = false→Q (.ref s.heap.objs.size) { s with heap:=s.heap.push { cls:=.type "set_iterator",data:=.fields #[.int 0 0,.int 0 0,.ref a,.int es.size 0,.int ep 0] } })
  (q2:∀ (d':_) (ps:List Nat),(cq w && (!t.plain && decide (es.size > 1))) = true→ps.Perm (List.range es.size)→Q (.ref (s.heap.objs.size + 1)) { s with heap:=(s.heap.push { cls:=.type "tuple",data:=.seq (ps.map fun i:Nat=>rawInt i).toArray }).push { cls:=.type "set_iterator",data:=.fields #[.ref s.heap.objs.size,.int 0 0,.ref a,.int es.size 0,.int ep 0] },drawn:=d' }) :
  wpAny (model prog w) ar (pyIter (.ref a)) Q E s:=by
 have ty:s.TypeIs (.ref a) "set":=⟨o,ho,hex.1⟩
 refine wpAny_pyIter_slot ty F.slot_set_iter (wpAny_call_entry F.slot_set_iter ty qg ?_ (F.args_set_iter_1 _))
 unfold Builtin.«frozenset.__iter__»
 refine wpAny_bind (m:=Builtin.Frozenset.slot0 _ _) (show wpAny _ _ (pure a) _ _ s from wpAny_pure ?_)
 unfold Builtin.Frozenset.sizeOf
 refine wpAny_bind (wpAny_bind (wpAny_setEntries_of ho hd hf (wpAny_pure ?_)))
 refine wpAny_bind (xE ho hd hf ?_)
 dsimp only
 split
 ·rename_i HV
  refine wpAny_bind (lG _ _ _ _ (by simp) fun ps d' hp=>?_)
  unfold newTuple
  refine wpAny_bind (wpAny_newObj_type ?_ (by
   show (List.map (fun i:Nat=>rawInt (i:Int)) ps).toArray.size≤sizeLine
   rw [List.size_toArray,List.length_map,hp.length_eq,List.length_range]
   exact Nat.le_trans hb (by rw [PySem.sizeLine_eq]; decide)))
  refine wpAny_bind (wpAny_setEpoch_of (s:={ s with heap:=s.heap.push _,drawn:=d' }) (Heap.get?_push_of_some _ ho) hd hf ?_)
  unfold newFields
  refine wpAny_bind (wpAny_newObj_type ?_ (by size_fits))
  refine wpAny_pure ⟨_,rfl, "set_iterator",_,⟨_,Heap.get?_push_size _ rfl,rfl⟩,slot_next.lookup,?_⟩
  have:=q2 d' ps HV hp
  simpa [rawInt,Heap.size_push] using this
 ·rename_i HV
  refine wpAny_bind (wpAny_pure ?_)
  refine wpAny_bind (wpAny_setEpoch_of ho hd hf ?_)
  unfold newFields
  refine wpAny_bind (wpAny_newObj_type ?_ (by size_fits))
  refine wpAny_pure ⟨_,rfl, "set_iterator",_,⟨_,Heap.get?_push_size _ rfl,rfl⟩,slot_next.lookup,?_⟩
  have:=q1 (by simpa using HV)
  simpa [rawInt] using this
end
end iH
end
section
namespace iH
open PySem PySem.Spec PyProof.Rows PySem.Calls
theorem slot_self:Slot "set_iterator" "__iter__" "set_iterator.__iter__" :=
 .of (owner:= "set_iterator") (n:= "__iter__") (by rw [typeLookup_type,builtinLookup_eq_fast]; kernel_rfl) (by decide +kernel) (by decide +kernel) (by decide +kernel)
  (by first | exact .inl (by decide +kernel) | exact .inr (by decide +kernel)) (by rw [isSubtype_type]; kernel_rfl)
theorem entry_self:entryFor table "set_iterator.__iter__" = some Builtin.«dict_keyiterator.__iter__»:=
 entryFor_alias (id':= "dict_keyiterator.__iter__") (by kernel_rfl) rfl (by decide +kernel) (by kernel_rfl)
theorem args_self (a:Value):argsOk "set_iterator.__iter__" ⟨[a],[]⟩:=by
 unfold argsOk; rw [signature?_of (id:= "set_iterator.__iter__") (n:=['_','_','r','e','t','i','_','_']) (o:=['r','o','t','a','r','e','t','i','_','t','e','s']) (by kernel_rfl) n8]; kernel_rfl
section
variable {prog:Program} {w:World} {A:Around} {E:Value→Shared→Prop} {s:Shared} {a ik:Addr} {o:Obj} {es:Array (Int×Value)} {ep:Nat} {t:SetTable}
theorem pA {first:Value} {i n:Nat} {Q:Value→Shared→Prop} (hit:gg s.heap ik a first i n ep) (q:Q (.ref ik) s):wpAny (model prog w) A (pyIter (.ref ik)) Q E s:=by
 refine wpAny_pyIter_slot hit.ty slot_self (wpAny_call_entry slot_self hit.ty entry_self ?_ (args_self _))
 show wpAny _ _ (ret (.ref ik)) _ _ s
 exact wpAny_pure ⟨_,rfl, "set_iterator",_,hit.ty,slot_next.lookup,q⟩
theorem gg.at {h h':Heap} {first:Value} {i n:Nat} (x:gg h ik a first i n ep) (e:∀ o,h.get? ik = some o→h'.get? ik = some o):gg h' ik a first i n ep:=let ⟨o,ho,r⟩:=x; ⟨o,e _ ho,r⟩
theorem nH (hh:A.handled = none) (hJ:a≠ik) (hd:o.data = .set es ep t) (hf:t.fits es.size = true) (tb:Tb (cq w) t) (led:cq w = true) (pl:¬ (t.plain = false∧1 < es.size)) :
  Walks prog w A ik [ik,a] [ik] es.size (fun i v=>es[i]?.map (·.2) = some v) (fun i h=>(∃ slot:Nat,At t i slot∧gg h ik a (.int slot 0) i es.size ep)∧h.get? a = some o) where
 sub:=fun b hb=>by simp at hb; simp [hb]
 frame:=fun _ _ _ st hk=>⟨let ⟨sl,h1,h2⟩:=st.1; ⟨sl,h1,h2.at fun o e=>hk ik (by simp) o e⟩,hk a (by simp) _ st.2⟩
 item:=fun i s Q E hi st hQ=>by
  obtain ⟨⟨slot,h1,h2⟩,h3⟩:=st
  have bl:=h1.below tb.rise
  have ps:t.place.size = es.size:=by
   unfold SetTable.fits at hf
   simp at hf
   exact hf.1
  have e2:t.place[i]? = some (t.place[i]'(by omega)):=Array.getElem?_eq_getElem (by omega)
  refine rE (x:=es[i].2) (nx:=t.place[i]'(by omega) + 1) h2 h3 hd hf (fun A' Q' E' q'=>iM h3 hd hf tb led pl h1 (fun tR j hj=>?_) (fun h=>absurd hi (by omega))) fun h' qb sb=>?_
  ·have:=hj.below tb.rise
   rcases hj with ⟨z,_⟩ | ⟨k,j',z1,z2,z3⟩
   ·omega
   ·have:k = i:=by omega
    subst this
    rw [e2] at z2
    injection z2 with z2
    have:j = t.place[k]'(by omega):=by omega
    rw [this]
    exact q'
  ·exact hQ _ h' s.toks (by simp [hi]) ⟨⟨_,.inr ⟨i,_,rfl,e2,rfl⟩,qb⟩,sb.extBut a _ hJ h3⟩ fun b o hb e=>sb.extBut b o (fun h=>hb (by simp [h])) e
 done:=fun s Q E st hQ=>by
  obtain ⟨⟨slot,h1,h2⟩,h3⟩:=st
  exact rD hh h2 h3 hd hf (fun A' Q' E' q'=>iM h3 hd hf tb led pl h1 (fun tR=>absurd tR (Nat.lt_irrefl _)) (fun _=>q')) fun h' he=>hQ h' s.toks fun b o hb e=>he b o (fun h=>hb (by simp [h])) e
 self:=fun _ _ _ _ st hQ=>let ⟨_,_,h2⟩:=st.1; pA h2 hQ
theorem si (hh:A.handled = none) (hJ:a≠ik) (hd:o.data = .set es ep t) (hf:t.fits es.size = true) (led:cq w = false) :
  Walks prog w A ik [ik,a] [ik] es.size (fun i v=>(pickOrder (w.params.setOrder a ep) es)[i]?.map (·.2) = some v) (fun i h=>gg h ik a (.int (0:Nat) 0) i es.size ep∧h.get? a = some o) where
 sub:=fun b hb=>by simp at hb; simp [hb]
 frame:=fun _ _ _ st hk=>⟨st.1.at fun o e=>hk ik (by simp) o e,hk a (by simp) _ st.2⟩
 item:=fun i s Q E hi st hQ=>by
  obtain ⟨h2,h3⟩:=st
  have sz:(pickOrder (w.params.setOrder a ep) es).size = es.size:=by
   have:=(fW (w.params.setOrder a ep) es).length_eq
   simpa using this
  have e1:(pickOrder (w.params.setOrder a ep) es)[i]? = some ((pickOrder (w.params.setOrder a ep) es)[i]'(by omega)):=Array.getElem?_eq_getElem (by omega)
  refine rE (x:=((pickOrder (w.params.setOrder a ep) es)[i]'(by omega)).2) (nx:=0) h2 h3 hd hf (fun A' Q' E' q'=>kY h3 hd hf led (by rw [e1]; exact q')) fun h' qb sb=>?_
  exact hQ _ h' s.toks (by rw [e1]; rfl) ⟨qb,sb.extBut a _ hJ h3⟩ fun b o hb e=>sb.extBut b o (fun h=>hb (by simp [h])) e
 done:=fun s Q E st hQ=>by
  obtain ⟨h2,h3⟩:=st
  have sz:(pickOrder (w.params.setOrder a ep) es).size = es.size:=by
   have:=(fW (w.params.setOrder a ep) es).length_eq
   simpa using this
  have e1:(pickOrder (w.params.setOrder a ep) es)[es.size]? = none:=Array.getElem?_eq_none (by omega)
  exact rD hh h2 h3 hd hf (fun A' Q' E' q'=>kY h3 hd hf led (by rw [e1]; exact q')) fun h' he=>hQ h' s.toks fun b o hb e=>he b o (fun h=>hb (by simp [h])) e
 self:=fun _ _ _ _ st hQ=>pA st.1 hQ
theorem o7 {tp:Addr} {ot:Obj} {np:Nat} {ps:List Nat} (hh:A.handled = none) (hJ:a≠ik) (OM:tp≠ik) (hd:o.data = .set es ep t) (hf:t.fits es.size = true) (dp:ot.data = .seq (ps.map fun i:Nat=>rawInt i).toArray np) (hp:ps.Perm (List.range es.size)) :
  Walks prog w A ik [ik,a,tp] [ik] es.size (fun i v=>∃ m,ps[i]? = some m∧es[m]?.map (·.2) = some v) (fun i h=>gg h ik a (.ref tp) i es.size ep∧h.get? a = some o∧h.get? tp = some ot) where
 sub:=fun b hb=>by simp at hb; simp [hb]
 frame:=fun _ _ _ st hk=>⟨st.1.at fun o e=>hk ik (by simp) o e,hk a (by simp) _ st.2.1,hk tp (by simp) _ st.2.2⟩
 item:=fun i s Q E hi st hQ=>by
  obtain ⟨h2,h3,h4⟩:=st
  have sz:ps.length = es.size:=by rw [hp.length_eq,List.length_range]
  have e1:ps[i]? = some (ps[i]'(by omega)):=List.getElem?_eq_getElem (by omega)
  have ml:ps[i]'(by omega) < es.size:=List.mem_range.mp (hp.mem_iff.mp (List.mem_of_getElem? e1))
  refine xG (m:=ps[i]'(by omega)) (tk:=0) h2 h3 hd hf h4 dp (by rw [List.getElem?_toArray,List.getElem?_map,e1]; rfl) ml fun h' qb sb=>?_
  exact hQ _ h' s.toks ⟨_,e1,by rw [Array.getElem?_eq_getElem ml]; rfl⟩ ⟨qb,sb.extBut a _ hJ h3,sb.extBut tp _ OM h4⟩ fun b o hb e=>sb.extBut b o (fun h=>hb (by simp [h])) e
 done:=fun s Q E st hQ=>by
  obtain ⟨h2,h3,h4⟩:=st
  have sz:ps.length = es.size:=by rw [hp.length_eq,List.length_range]
  exact xF hh h2 h3 hd hf h4 dp (by rw [List.getElem?_toArray,List.getElem?_map,List.getElem?_eq_none (by omega)]; rfl) fun h' he=>hQ h' s.toks fun b o hb e=>he b o (fun h=>hb (by simp [h])) e
 self:=fun _ _ _ _ st hQ=>pA st.1 hQ
end
end iH
end
section
namespace iH
open PySem PySem.Spec PyProof.Rows PySem.Calls
theorem mN {α : Type} [DecidableEq α]:∀ {l m:List α},l.Nodup→(∀ x∈l,x∈m)→m.length≤l.length→l.Perm m
 | [],m,_,_,h=>by
  have:m = []:=List.length_eq_zero_iff.mp (by simpa using h)
  rw [this]
 | x :: l,m,hn,hs,h=>by
  have hx:x∈m:=hs x List.mem_cons_self
  have Es:=List.nodup_cons.mp hn
  have p:=List.perm_cons_erase hx
  have pl:=p.length_eq
  rw [List.length_cons] at pl h
  refine (List.Perm.cons x (mN Es.2 (fun y hy=>?_) (by omega))).trans p.symm
  have hJ:y≠x:=fun e=>Es.1 (e▸hy)
  exact (List.mem_erase_of_ne hJ).mpr (hs y (List.mem_cons_of_mem _ hy))
def vInt:Value→Int
 | .int k _=>k
 | _=>0
theorem ints_of:∀ (vs:List Value),(∀ v∈vs,∃ k t,v = .int k t)→IntsAre vs (vs.map vInt)
 | [],_=>.nil
 | v :: vs,h=>by
  obtain ⟨k,t,rfl⟩:=h v List.mem_cons_self
  exact .cons k t (ints_of vs fun u hu=>h u (List.mem_cons_of_mem _ hu))
section
variable {prog:Program} {w:World} {A:Around} {E:Value→Shared→Prop} {s:Shared} {a:Addr}
theorem Ap {Q:Bool→Shared→Prop} (hT:s.TypeIs (.ref a) "set") (q:Q false s):wpAny (model prog w) A (Builtin.List.listLengthHint (.ref a)) Q E s:=by
 unfold Builtin.List.listLengthHint
 refine wpAny_bind (wpAny_specialOf hT PySem.F.slot_set_len.lookup ?_)
 generalize KW:("set.__len__" : String) = nm
 wp_delta
 rw [show splitId nm = some ("set", "__len__") from by subst KW; decide +kernel]
 subst KW
 refine wpAny_bind (wpAny_isInstance (T:= "set") (b:=true) hT (by rw [isSubtype_type]; kernel_rfl) ?_)
 refine wpAny_ite_split (fun z=>absurd z (by decide)) (fun _=>?_)
 refine wpAny_ite_split (fun _=>?_) (fun z=>absurd (by decide +kernel) z)
 exact wpAny_bind (wpAny_typeOf hT (wpAny_pure q))
def Met (S:Int→Bool) (n:Nat) (vs:List Value):Prop:=∃ ns:List Int,IntsAre vs ns∧ns.length = n∧∀ k,S k = true↔k∈ns
theorem jB {S:Int→Bool} {es:Array (Int×Value)} {vs:List Value} (oD:ElemsOf (intKind prog w) es.toList) (hm:∀ k,S k = true↔∃ e∈es.toList,(intKind prog w).is k e.2 = true) (p:vs.Perm (es.toList.map (·.2))):Met S es.size vs:=by
 have sh:∀ v∈vs,∃ k t,v = .int k t:=fun v hv=>by
  obtain ⟨e,he,rfl⟩:=List.mem_map.mp (p.mem_iff.mp hv)
  obtain ⟨⟨k,hk,_⟩,_⟩:=oD e he
  obtain ⟨t,ht⟩:=Value.isInt_shape hk
  exact ⟨k,t,ht⟩
 refine ⟨vs.map vInt,ints_of vs sh,?_,fun k=>?_⟩
 ·rw [List.length_map,p.length_eq,List.length_map,Array.length_toList]
 ·rw [hm,List.mem_map]
  constructor
  ·rintro ⟨e,he,hk⟩
   obtain ⟨t,ht⟩:=Value.isInt_shape hk
   exact ⟨e.2,p.mem_iff.mpr (List.mem_map.mpr ⟨e,he,rfl⟩),by rw [ht]; rfl⟩
  ·rintro ⟨v,hv,rfl⟩
   obtain ⟨e,he,rfl⟩:=List.mem_map.mp (p.mem_iff.mp hv)
   obtain ⟨⟨k,hk,_⟩,_⟩:=oD e he
   refine ⟨e,he,?_⟩
   obtain ⟨t,ht⟩:=Value.isInt_shape hk
   rw [ht]
   rw [ht] at hk
   exact hk
theorem j4 {acc:Array Value} {n:Nat} {P:Nat→Value→Prop} {L:List Value} (h:ItemsOf P acc n) (hl:L.length = n) (hP:∀ i v,i < n→P i v→L[i]? = some v):acc.toList = L:=by
 obtain ⟨h1,h2⟩:=h
 apply List.ext_getElem?
 intro i
 by_cases hi:i < n
 ·have e:acc[i]? = some (acc[i]'(by omega)):=Array.getElem?_eq_getElem (by omega)
  rw [Array.getElem?_toList,e,hP i _ hi (h2 i _ e)]
 ·rw [List.getElem?_eq_none (by rw [Array.length_toList]; omega),List.getElem?_eq_none (by omega)]
theorem vg {S:Int→Bool} {n:Nat} (hh:A.handled = none) (hS:dw prog w (cq w) s.heap a S n) (hn:n≤4000) :
  wpAny (model prog w) A (pyIter (.ref a)) (fun it s1=>∃ I d' h1 fp P St,it = .ref I∧s1 = { s with heap:=h1,drawn:=d' }∧(∀ b o,s.heap.get? b = some o→h1.get? b = some o)∧s.heap.objs.size≤I∧
   Walks prog w A I fp [I] n P St∧St 0 h1∧(∀ b∈fp,s.heap.objs.size≤b∨b = a)∧(∀ acc,ItemsOf P acc n→Met S n acc.toList)) E s:=by
 obtain ⟨o,es,ep,t,ho,hex,hd,oD,fK,hb,hf,rfl,tb⟩:=hS
 have lt:=Heap.lt_size ho
 refine zZ ho hex hd hf hn (fun q=>?_) (fun d' ps q hp=>?_)
 ·have keep:∀ (x:Obj) b o,s.heap.get? b = some o→(s.heap.push x).get? b = some o:=fun x b o e=>Heap.get?_push_of_some _ e
  have hit:gg (s.heap.push { cls:=.type "set_iterator",data:=.fields #[.int 0 0,.int 0 0,.ref a,.int es.size 0,.int ep 0] }) s.heap.objs.size a (.int (0:Nat) 0) 0 es.size ep:=⟨_,Heap.get?_push_size _ rfl,rfl,rfl⟩
  by_cases led:cq w = true
  ·have pl:¬ (t.plain = false∧1 < es.size):=fun ⟨z1,z2⟩=>by
    rw [led,z1] at q
    simp at q
    omega
   refine ⟨_,s.drawn,_,_,_,_,rfl,rfl,keep _,Nat.le_refl _,nH hh (Nat.ne_of_lt lt) hd hf tb led pl,⟨⟨0,.inl ⟨rfl,rfl⟩,hit⟩,keep _ _ _ ho⟩,fun b hb=>?_,fun acc ha=>?_⟩
   ·rcases List.mem_cons.mp hb with rfl | hb
    ·exact .inl (Nat.le_refl _)
    ·exact .inr (by simpa using hb)
   ·refine jB oD fK ?_
    rw [j4 (L:=es.toList.map (·.2)) ha (by simp) fun i v hi hv=>by simpa using hv]
  ·have GZ:cq w = false:=by simpa using led
   refine ⟨_,s.drawn,_,_,_,_,rfl,rfl,keep _,Nat.le_refl _,si hh (Nat.ne_of_lt lt) hd hf GZ,⟨hit,keep _ _ _ ho⟩,fun b hb=>?_,fun acc ha=>?_⟩
   ·rcases List.mem_cons.mp hb with rfl | hb
    ·exact .inl (Nat.le_refl _)
    ·exact .inr (by simpa using hb)
   ·refine jB oD fK ?_
    have pp:=fW (w.params.setOrder a ep) es
    rw [j4 (L:=(pickOrder (w.params.setOrder a ep) es).toList.map (·.2)) ha (by rw [List.length_map,pp.length_eq,Array.length_toList]) fun i v hi hv=>by simpa using hv]
    exact pp.map _
 ·have sz:ps.length = es.size:=by rw [hp.length_eq,List.length_range]
  have n1:a≠s.heap.objs.size + 1:=Nat.ne_of_lt (Nat.lt_succ_of_lt lt)
  refine ⟨s.heap.objs.size + 1,d',_,_,_,_,rfl,rfl,fun b o e=>Heap.get?_push_of_some _ (Heap.get?_push_of_some _ e),Nat.le_succ _,o7 (tp:=s.heap.objs.size) (ot:={ cls:=.type "tuple",data:=.seq (ps.map fun i:Nat=>rawInt i).toArray }) hh n1 (Nat.ne_of_lt (Nat.lt_succ_self _)) hd hf rfl hp,⟨⟨{ cls:=.type "set_iterator",data:=.fields #[.ref s.heap.objs.size,.int 0 0,.ref a,.int es.size 0,.int ep 0] },?_,rfl,rfl⟩,Heap.get?_push_of_some _ (Heap.get?_push_of_some _ ho),?_⟩,fun b hb=>?_,fun acc ha=>?_⟩
  ·refine Eq.trans (congrArg _ (size_push' s.heap _).symm) (Heap.get?_push_size _ rfl)
  ·exact Heap.get?_push_of_some _ (Heap.get?_push_size _ rfl)
  ·rcases List.mem_cons.mp hb with rfl | hb
   ·exact .inl (Nat.le_succ _)
   ·rcases List.mem_cons.mp hb with rfl | hb
    ·exact .inr rfl
    ·exact .inl (Nat.le_of_eq (List.mem_singleton.mp hb).symm)
  ·refine jB oD fK ?_
   have e:acc.toList = ps.map fun m=>((es[m]?).map (·.2)).getD Value.none:=j4 ha (by rw [List.length_map,sz]) fun i v hi hv=>by
    obtain ⟨m,e1,e2⟩:=hv
    rw [List.getElem?_map,e1,Option.map_some,e2]
    rfl
   rw [e]
   refine (hp.map _).trans (.of_eq ?_)
   apply List.ext_getElem?
   intro i
   by_cases hi:i < es.size
   ·simp [hi]
   ·simp [hi]
theorem tE {S:Int→Bool} {n:Nat} {Q:List Value→Shared→Prop} (hh:A.handled = none) (hS:dw prog w (cq w) s.heap a S n) (hn:n≤4000)
  (hQ:∀ h' tk d' vs,(∀ b o,s.heap.get? b = some o→h'.get? b = some o)→s.heap.objs.size≤h'.objs.size→Met S n vs→Q vs { s with heap:=h',toks:=tk,drawn:=d' }):wpAny (model prog w) A (collect (.ref a)) Q E s:=by
 have hT:∀ h',(∀ b o,s.heap.get? b = some o→h'.get? b = some o)→∀ s':Shared,s'.heap = h'→s'.TypeIs (.ref a) "set":=fun h' hk s' e=>by
  obtain ⟨o,es,ep,t,ho,hex,_⟩:=hS
  exact ⟨o,by rw [e]; exact hk _ _ ho,hex.1⟩
 have lt:a < s.heap.objs.size:=by
  obtain ⟨o,es,ep,t,ho,hex,_⟩:=hS
  exact Heap.lt_size ho
 have hl:n≤sizeLine:=by rw [sizeLine_eq]; omega
 have k1:∀ b o,s.heap.get? b = some o→(s.heap.push { cls:=.type "list",data:=.seq ([]:List Value).toArray }).get? b = some o:=fun b o e=>Heap.get?_push_of_some _ e
 have Pg:dw prog w (cq w) (s.heap.push { cls:=.type "list",data:=.seq ([]:List Value).toArray }) a S n:=by
  obtain ⟨o,es,ep,t,ho,r⟩:=hS
  exact ⟨o,es,ep,t,k1 _ _ ho,r⟩
 unfold collect
 refine wpAny_bind (wpAny_runValue (codeAny_builtin F.entry_proto_collect ?_))
 rw [Around.under_plainId F.plain_proto_collect _]
 refine wpAny_bind (m:=newList []) (wpAny_newObj_type ?_)
 refine wpAny_pure ⟨plainId_quiet F.plain_list_iadd _,codeAny_builtin F.entry_list_iadd ?_⟩
 rw [Around.under_plainId F.plain_list_iadd _]
 show wpAny _ A.in1 (Builtin.List.listExtendWith (.ref s.heap.objs.size) (.ref a) (.ref s.heap.objs.size)) _ _ _
 unfold Builtin.List.listExtendWith
 refine wpAny_bind (wpAny_typeOf (T:= "set") (hT _ k1 _ rfl) ?_)
 have e1:Builtin.List.listSameRef (.ref s.heap.objs.size) (.ref a) = false:=by simp [Builtin.List.listSameRef,Nat.ne_of_gt lt]
 have e2:(Value.type "set" == Value.type "list") = false:=by decide
 have e3:(Value.type "set" == Value.type "tuple") = false:=by decide
 simp only [e1,e2,e3,Bool.or_false,Bool.false_eq_true,if_false]
 refine wpAny_bind (wpAny_mono (vg (A:=A.in1) (by simp [hh]) Pg hn) (fun it s1 m=>?_) (fun _ _ e=>e))
 obtain ⟨I,d',h1,fp,P,St,rfl,rfl,hk,hI,W,st,K0,met⟩:=m
 rw [Heap.size_push] at hI K0
 have k2:∀ b o,s.heap.get? b = some o→h1.get? b = some o:=fun b o e=>hk _ _ (k1 _ _ e)
 have o1:h1.get? s.heap.objs.size = some { cls:=.type "list",data:=.seq ([]:List Value).toArray }:=hk _ _ (Heap.get?_push_size _ rfl)
 have K8:s.heap.objs.size∉fp:=fun z=>by
  rcases K0 _ z with z | z
  ·exact absurd z (Nat.not_succ_le_self _)
  ·exact Nat.ne_of_gt lt z
 refine wpAny_bind (wpAny_holding (Ap (hT _ k2 _ rfl) ?_))
 refine wpAny_ite_split (fun _=>?_) (fun z=>absurd (by decide +kernel) z)
 refine wpAny_bind (wpAny_rule ?_)
 refine wpAny_bind ?_
 show wpAny _ _ (updateSeq s.heap.objs.size (·.push .none) >>= fun _=>updateSeq s.heap.objs.size (·.pop)) _ _ _
 refine wpAny_bind (wpAny_updateSeq o1 rfl ?_)
 have o2:=Heap.get?_update_self (Obj.mapSeq (·.push Value.none)) o1 rfl
 refine wpAny_updateSeq (hz:=by seq_fits) o2 rfl ?_
 have o3:=Heap.get?_update_self (Obj.mapSeq (·.pop)) o2 rfl
 have Ce:∀ b o,b≠s.heap.objs.size→h1.get? b = some o→((h1.update s.heap.objs.size (Obj.mapSeq (·.push Value.none))).update s.heap.objs.size (Obj.mapSeq (·.pop))).get? b = some o:=
  fun b o hb e=>(Heap.get?_update_other _ _ (Ne.symm hb)).trans ((Heap.get?_update_other _ _ (Ne.symm hb)).trans e)
 refine wpAny_pure ⟨plainId_quiet F.plain_extend_loop _,codeAny_extend_loopS W.toS hl s.heap.objs.size K8 _ n 0 _ _ _ rfl (Nat.zero_le _) (W.frame 0 _ _ st fun b hb o e=>Ce b o (fun z=>K8 (z▸hb)) e) o3 (ItemsOf.nil _) fun s' Jo c' hm qd bR=>?_⟩
 show wpAny _ A (load s.heap.objs.size >>= _) _ _ s'
 refine wpAny_bind (wpAny_load qd (wpAny_pure ?_))
 rw [Moved.eq_with hm]
 refine hQ s'.heap s'.toks d' Jo.toList (fun b o e=>?_) (Nat.le_of_lt (Heap.lt_size qd)) (met _ bR)
 have lb:=Heap.lt_size e
 refine hm.heap b o (fun z=>?_) (Ce b o (Nat.ne_of_lt lb) (k2 _ _ e))
 rcases List.mem_cons.mp z with z | z
 ·exact absurd z (Nat.ne_of_lt lb)
 ·have:=List.mem_singleton.mp z
  rw [this] at lb
  exact absurd (Nat.lt_of_lt_of_le (Nat.lt_succ_self _) hI) (Nat.not_lt_of_lt lb)
end
end iH
end
section
namespace iH
open PySem PySem.Spec PyProof.Rows PySem.Calls
section
variable {prog:Program} {w:World} {A:Around} {E:Value→Shared→Prop} {s:Shared} {a:Addr}
theorem uj {S:Int→Bool} {n:Nat} {Q:Value→Shared→Prop} (hh:A.handled = none) (hS:dw prog w (cq w) s.heap a S n) (hn:n < 64)
  (q:∀ h' tk d' p ep (vs:List Value) (ns:List Int),(∀ b o,s.heap.get? b = some o→h'.get? b = some o)→s.heap.objs.size≤p→IntsAre vs ns→ns.length = n→(∀ k,S k = true↔k∈ns)→ns.Pairwise (·≤·)→
   h'.get? p = some (seqObj "list" vs.toArray ep)→Q (.ref p) { s with heap:=h',toks:=tk,drawn:=d' }) :
  wpAny (model prog w) A (call (.builtin "sorted") [.ref a]) Q E s:=by
 refine Calls.call_function_entry kind_sorted plain_sorted entry_sorted (args_sorted1 _) ?_
 unfold Builtin.«sorted»
 refine wpAny_bind (m:=checkCount "sorted" 1 1 _) (wpAny_pure (wpAny_bind (tE (by simp [hh]) hS (by omega) fun h1 tk d' vs k sz met=>?_)))
 obtain ⟨ns,hI,hl,hm⟩:=met
 have RF:vs.length = n:=by rw [hI.length,hl]
 refine wpAny_bind (wpAny_newList ?_ (by rw [sizeLine_eq]; omega))
 have o1:(h1.push (seqObj "list" vs.toArray 0)).get? h1.objs.size = some (seqObj "list" vs.toArray 0):=Heap.get?_push_size _ rfl
 show wpAny _ _ _ _ _ { s with heap:=h1.push (seqObj "list" vs.toArray 0),toks:=tk,drawn:=d' }
 refine wpAny_bind (wpAny_holding (wpAny_call_entry slot_list_sort ⟨_,o1,rfl⟩ entry_list_sort (list_sort_tree o1 hI (by omega) fun out ff a1 a2 a3=>⟨_,rfl,?_⟩) (args_list_sort _)))
 obtain ⟨ep,OK⟩:=sortedHeap_at (out:=out) o1
 refine wpAny_pure ⟨_,rfl,q _ tk d' h1.objs.size ep out.toList ff (fun b o e=>?_) sz a1 (by rw [a2.length_eq,hl]) (fun k'=>by rw [hm,a2.mem_iff]) a3 OK⟩
 have lt:=Heap.lt_size (k _ _ e)
 rw [sortedHeap_old (Nat.ne_of_lt lt) (by rw [size_push']; exact Nat.lt_succ_of_lt lt),Heap.get?_push_ne _ _ _ (Nat.ne_of_lt lt)]
 exact k _ _ e
end
end iH
namespace L2
open PySem PySem.Spec PySem.W PySem.Calls PyProof.Rows
theorem i8:∀ (ns σ : List Int),σ.Nodup→(ns.foldl step_dedup σ).Nodup∧∀ k,k∈ns.foldl step_dedup σ↔k∈σ∨k∈ns
 | [],σ,h=>⟨h,fun k=>by simp⟩
 | x :: ns,σ,h=>by
  rw [List.foldl_cons]
  by_cases e:x∈σ
  ·have e1:step_dedup σ x = σ:=by unfold step_dedup; rw [if_pos (by simpa using e)]
   rw [e1]
   obtain ⟨h1,h2⟩:=i8 ns σ h
   refine ⟨h1,fun k=>?_⟩
   rw [h2,List.mem_cons]
   constructor
   ·rintro (z | z)
    ·exact .inl z
    ·exact .inr (.inr z)
   ·rintro (z | z | z)
    ·exact .inl z
    ·exact .inl (z▸e)
    ·exact .inr z
  ·have e1:step_dedup σ x = σ ++ [x]:=by unfold step_dedup; rw [if_neg (by simpa using e)]
   rw [e1]
   obtain ⟨h1,h2⟩:=i8 ns (σ ++ [x]) ((List.perm_append_singleton x σ).nodup_iff.mpr (List.nodup_cons.mpr ⟨e,h⟩))
   refine ⟨h1,fun k=>?_⟩
   rw [h2]
   simp only [List.mem_append,List.mem_singleton,List.mem_cons,or_assoc,List.not_mem_nil,false_or]
theorem gG (ns:List Int):(fg ns).Nodup:=(i8 ns [] .nil).1
theorem u5 {ns:List Int} {k:Int}:k∈fg ns↔k∈ns:=by
 have:=(i8 ns [] .nil).2 k
 simpa [fg] using this
theorem Inv.dr {X:Cx} {pins:List (Addr×Obj)} {σ : St} {H:Hp} {s:Shared} (I:Inv X pins σ H s) (d':Drawn):Inv X pins σ H { s with drawn:=d' }:=
 ⟨I.ok,I.os,I.bare,I.base,I.loc,I.cell,I.free,I.eu,I.pin,I.bz,I.len⟩
def nI (K:Frag) (te:TE):TE:=fun σ H Q=>te σ H fun x H1=>∃ (a:Addr) (ns:List Int),x = .ref a∧aG K H1 a (ns.map V.int)∧ns.length < 64∧
 ∀ (ff:List Int) (p:Addr),ff.Perm (fg ns)→ff.Pairwise (·≤·)→H1 p = none→Q (.ref p) (upd H1 p (.lst (ff.map V.int)))
theorem sF {K:Frag} {te:TE} {σ : St} {H:Hp} {Q:VK} (h:te σ H fun x H1=>∃ (a:Addr) (ns:List Int),x = .ref a∧aG K H1 a (ns.map V.int)∧ns.length < 64∧
 ∀ (ff:List Int) (p:Addr),ff.Perm (fg ns)→ff.Pairwise (·≤·)→H1 p = none→Q (.ref p) (upd H1 p (.lst (ff.map V.int)))):nI K te σ H Q:=h
theorem nk:bootBuiltins "sorted" = some (.builtin "sorted"):=by decide +kernel
theorem tL:bootBuiltins "set" = some (.type "set"):=by decide +kernel
theorem pN {X:Cx} {l:Expr} {tl:TE} {p p2 pos wL:Pos} (hc:X.calm = true) (hm:X.mg "set" = none) (HH:X.mg "sorted" = none) (ha:PE X l tl) (hg:Gl X "set":=by rfl) (O1:Gl X "sorted":=by rfl)
  (he:starEach [l] X.env = (false,eval l X.env) :: starEach [] X.env:=by rfl)
  (Eu:starEach [.Call (.Name "set" p) [l] [] pos] X.env = (false,eval (.Call (.Name "set" p) [l] [] pos) X.env) :: starEach [] X.env:=by rfl) :
  PE X (.Call (.Name "sorted" p2) [.Call (.Name "set" p) [l] [] pos] [] wL) (nI X.K tl):=by
 intro pins s σ H Q I h
 refine Call_ (fJ I O1 HH nk (PyProof.Rows.callWith_builtin1 ?_ Eu rfl))
 rw [Eu]
 show wpAny _ _ (spliced ((false,eval (.Call (.Name "set" p) [l] [] pos) X.env) :: backTo wL (starEach [] X.env))) _ _ s
 refine Calls.spliced_cons ?_
 refine Call_ (fJ I hg hm tL (PyProof.Rows.callWith_type1 ?_ he rfl))
 rw [he]
 show wpAny _ _ (spliced ((false,eval l X.env) :: backTo pos (starEach [] X.env))) _ _ s
 refine Calls.spliced_cons (b5 (ha pins s σ H _ I h) fun u1 s1 ⟨x,H1,I1,r1,q1⟩=>?_)
 refine Calls.spliced_nil ?_
 obtain ⟨a,ns,rfl,hs,hl,q⟩:=q1
 cases r1
 obtain ⟨aO,rv,pl,hz⟩:=I1.list hs
 have hi:IntsAre aO ns:=intsAre_of rv
 have zl:=hi.length
 have ez:aO.toArray.size = ns.length:=by rw [List.size_toArray]; exact zl
 refine iH.AM (I1.ok.hd hc) pl.isList (by simpa using hi) (by rw [ez]; exact Nat.lt_of_le_of_lt (Nat.succ_le_of_lt hl) (by decide)) fun h' tk hS kk=>?_
 rw [ez,jT] at hS
 have dl:(fg ns).length≤ns.length:=by
  have:=foldl_step_dedup_length_le [] ns
  simpa [fg] using this
 refine Calls.spliced_nil ?_
 have I2:Inv X pins σ H1 { s1 with heap:=h',toks:=tk }:=I1.kept fun b o e=>kk b o (Heap.lt_size e) e
 refine iH.uj (s:={ s1 with heap:=h',toks:=tk }) (I2.ok.hd hc) hS (by omega) fun h3 JK d3 p3 ep vs ff k3 Er HP RM OS Ox o3=>?_
 have pp:ff.Perm (fg ns):=by
  refine (iH.mN (gG ns) (fun k hk=>(OS k).mp ?_) (by omega)).symm
  simpa using hk
 have I3:Inv X pins σ (upd H1 p3 (.lst (ff.map V.int))) { s1 with heap:=h3,toks:=JK }:=by
  refine I2.laid (t':=JK) k3 Er ⟨?_,vs,ep,fQ HP,by simpa [seqObj] using o3⟩
  rw [List.length_map,PySem.sizeLine_eq,pp.length_eq]
  omega
 exact ⟨.ref p3,_,I3.dr d3,rfl,q ff p3 pp Ox (I2.bz.fresh Er)⟩
end L2
end
section
namespace Gm
open PySem L2
def Cd (L:List (List Int)) (r:List Int) (c:Nat):List Int:=put (rowOf L (cy r c)) ((rowOf L (cy r c)).idxOf (cy r (c + (r.length - 1)))) L.length
def Cc (L:List (List Int)) (r:List Int) (cs:List Nat):List (List Int):=cs.foldl (fun M c=>M.set (cy r c).toNat (Cd L r c)) L
def Nb (L:List (List Int)) (r:List Int) (cs:List Nat):List (List Int):=Cc L r cs ++ [cs.map (cy r)]
def QD (r:List Int) (cs:List Nat):Prop:=cs≠[]∧cs.Pairwise (· < ·)∧(cs.map (cy r)).Nodup
theorem qI:∀ {a b:List Int},a.Perm b→a.Pairwise (·≤·)→b.Pairwise (·≤·)→a = b
 | [],b,p,_,_=>by rw [p.nil_eq]
 | x :: a,[],p,_,_=>by have:=p.length_eq; simp at this
 | x :: a,y :: b,p,h1,h2=>by
  have yI:=List.pairwise_cons.mp h1
  have Bm:=List.pairwise_cons.mp h2
  have e:x = y:=by
   have hx:x∈y :: b:=p.mem_iff.mp List.mem_cons_self
   have hy:y∈x :: a:=p.mem_iff.mpr List.mem_cons_self
   rcases List.mem_cons.mp hx with z | z
   ·exact z
   ·rcases List.mem_cons.mp hy with w | w
    ·exact w.symm
    ·exact Int.le_antisymm (yI.1 y w) (Bm.1 x z)
  subst e
  rw [qI (List.perm_cons x |>.mp p) yI.2 Bm.2]
end Gm
end
section
namespace L2
open PySem
end L2
namespace Gm
open PySem L2
def aK (cs:List Nat):List Int:=cs.map fun c:Nat=>(c:Int)
theorem xc {cs:List Nat}:(aK cs).Pairwise (· < ·)↔cs.Pairwise (· < ·):=by
 unfold aK
 rw [List.pairwise_map]
 constructor
 ·exact List.Pairwise.imp fun h=>by omega
 ·exact List.Pairwise.imp fun h=>by omega
theorem uT {ns:List Int} (h1:ns.Nodup) (h2:ns.Pairwise (·≤·)):ns.Pairwise (· < ·):=
 List.Pairwise.imp (fun ⟨a,b⟩=>by omega) (List.Pairwise.and h1 h2)
theorem pf {ns s:List Int} (p:s.Perm (fg ns)) (h:s.Pairwise (·≤·)):ns = s↔ns.Pairwise (· < ·):=by
 constructor
 ·intro e
  rw [e]
  exact uT (p.nodup_iff.mpr (gG ns)) h
 ·intro q
  have nd:ns.Nodup:=List.Pairwise.imp (fun h=>by omega) q
  refine qI (List.Perm.symm ?_) (List.Pairwise.imp (fun h=>by omega) q) h
  exact p.trans (iH.mN (gG ns) (fun x hx=>u5.mp hx) (by rw [(oO ns).mpr nd]; exact Nat.le_refl _))
end Gm
end
section
namespace Fw
open PySem L2 Gm
structure Road (L:List (List Int)) (a b:Nat) (rd:List Nat):Prop where
 len:2≤rd.length
 hd:rd[0]? = some a
 lst:rd[rd.length - 1]? = some b
 nd:rd.Nodup
 rg:∀ x∈rd,x < L.length
 go:∀ (j u v:Nat),rd[j]? = some u→rd[j + 1]? = some v→∃ l,L[u]? = some l∧(v:Int)∈l
def bx (rd:List Nat):List Nat:=(rd.drop 1).take (rd.length - 2)
structure rZ (L:List (List Int)) (a b:Nat) (ρ : List (List Nat)):Prop where
 len : ρ.length = 3
 road:∀ r∈ρ,Road L a b r
 bx:(ρ.map bx).flatten.Nodup
 one:(ρ.filter fun r=>decide (r.length = 2)).length < 2
theorem rY {rd:List Nat} {x:Nat} (h:x∈bx rd):∃ i,rd[i + 1]? = some x∧i + 2 < rd.length:=by
 unfold bx at h
 obtain ⟨i,hi⟩:=List.mem_iff_getElem?.mp h
 have l:=(List.getElem?_eq_some_iff.mp hi).1
 rw [List.length_take,List.length_drop] at l
 rw [List.getElem?_take,if_pos (by omega),List.getElem?_drop] at hi
 exact ⟨i,by rw [show i + 1 = 1 + i by omega]; exact hi,by omega⟩
theorem xM {rd:List Nat} (h:rd.Nodup):(bx rd).Nodup:=(List.take_sublist _ _).nodup ((List.drop_sublist _ _).nodup h)
section
variable {L:List (List Int)} {a b:Nat} {i:Int} {f:Flow} {n:Nat} {T:Nat→Nat→Prop}
theorem Rd.LD {rd:List Nat} (R:Rd f a b rd) {j:Nat} (h:rd[j]? = some a):j = 0:=by
 have e1:=List.getElem?_eq_some_iff.mp h
 have e2:=List.getElem?_eq_some_iff.mp R.hd
 exact (List.getElem_inj R.nd).mp (e1.2.trans e2.2.symm)
theorem Rd.meet (F:Fl n T a b i f) (N:Net n T a b) {rd B1:List Nat} (R:Rd f a b rd) (R':Rd f a b B1):∀ (j k x:Nat),rd[j + 1]? = some x→B1[k + 1]? = some x→x≠b→rd[1]? = B1[1]?
 | 0,0,x,h1,h2,_=>h1.trans h2.symm
 | 0,k + 1,x,h1,h2,xb=>by
  have g1:=R.go 0 a x R.hd h1
  obtain ⟨u,hu⟩:∃ u,B1[k + 1]? = some u:=⟨_,List.getElem?_eq_getElem (by have:=(List.getElem?_eq_some_iff.mp h2).1; omega)⟩
  have g2:=R'.go (k + 1) u x hu h2
  have e:=F.oB N xb g1 g2
  subst e
  exact absurd (R'.LD hu) (by omega)
 | j + 1,0,x,h1,h2,xb=>by
  have g2:=R'.go 0 a x R'.hd h2
  obtain ⟨u,hu⟩:∃ u,rd[j + 1]? = some u:=⟨_,List.getElem?_eq_getElem (by have:=(List.getElem?_eq_some_iff.mp h1).1; omega)⟩
  have g1:=R.go (j + 1) u x hu h1
  have e:=F.oB N xb g2 g1
  subst e
  exact absurd (R.LD hu) (by omega)
 | j + 1,k + 1,x,h1,h2,xb=>by
  obtain ⟨u,hu⟩:∃ u,rd[j + 1]? = some u:=⟨_,List.getElem?_eq_getElem (by have:=(List.getElem?_eq_some_iff.mp h1).1; omega)⟩
  obtain ⟨v,hv⟩:∃ v,B1[k + 1]? = some v:=⟨_,List.getElem?_eq_getElem (by have:=(List.getElem?_eq_some_iff.mp h2).1; omega)⟩
  have g1:=R.go (j + 1) u x hu h1
  have g2:=R'.go (k + 1) v x hv h2
  have e:=F.oB N xb g1 g2
  subst e
  refine Rd.meet F N R R' j k u hu hv fun z=>?_
  rw [z,F.uV N] at g1
  cases g1
structure oW (f:Flow) (a b:Nat) (gs:List Int) (ρ : List (List Nat)):Prop where
 len : ρ.length = gs.length
 road:∀ (k:Nat) (r:List Nat),ρ[k]? = some r→Rd f a b r∧r[r.length - 1]? = some b∧∃ c:Nat,r[1]? = some c∧gs[k]? = some (c:Int)
theorem oW.nil:oW f a b [] []:=⟨rfl,fun k r h=>by simp at h⟩
theorem oW.snoc {gs:List Int} {ρ : List (List Nat)} {r:List Nat} {c:Nat} (h:oW f a b gs ρ) (R:Rd f a b r) (e:r[r.length - 1]? = some b) (h1:r[1]? = some c):oW f a b (gs ++ [(c:Int)]) (ρ ++ [r]):=by
 refine ⟨by rw [List.length_append,List.length_append,h.len]; rfl,fun k r' hk=>?_⟩
 by_cases z:k < ρ.length
 ·rw [List.getElem?_append_left z] at hk
  obtain ⟨r1,r2,c',r3,r4⟩:=h.road k r' hk
  exact ⟨r1,r2,c',r3,by rw [List.getElem?_append_left (by rw [← h.len]; exact z)]; exact r4⟩
 ·rw [List.getElem?_append_right (by omega)] at hk
  have k0:k - ρ.length = 0:=by
   have:=(List.getElem?_eq_some_iff.mp hk).1
   rw [List.length_singleton] at this
   omega
  rw [k0] at hk
  injection hk with hk
  subst hk
  refine ⟨R,e,c,h1,?_⟩
  have:k = gs.length:=by rw [← h.len]; omega
  rw [this,List.getElem?_append_right (Nat.le_refl _),Nat.sub_self]
  rfl
theorem Aw (m:aI L) {l:List Int} (hl:L[a]? = some l) (hb:b < L.length) (nF:a≠b) (F:Fl L.length (Tw L a b) a b i f):((gn f l a).length:Int) = i:=by
 have ha:a < L.length:=(List.getElem?_eq_some_iff.mp hl).1
 have N:=Tw.Ei m ha hb nF
 have xx:=F.iG (a,true) ha
 have e1:dl ((a,true):af) (b,false) = 0:=fO (by simp)
 rw [e1,m8] at xx
 have xx:bi (f.U a) - f.out L.length a = i * 0 - i * 1:=xx
 rw [F.u1,j2] at xx
 have ho:f.out L.length a = (((List.range L.length).filter (f.F a)).length:Int):=ip (f.F a) L.length
 have e:(gn f l a).length = ((List.range L.length).filter (f.F a)).length:=by
  apply Nat.le_antisymm
  ·have nd:((gn f l a).map Int.toNat).Nodup:=by
    rw [List.Nodup,List.pairwise_map]
    refine List.Pairwise.imp_of_mem ?_ ((m.nd a l hl).filter fun v=>f.F a v.toNat)
    intro x y hx hy hJ z
    have x0:=(m.rg a l hl x (List.mem_filter.mp hx).1).1
    have y0:=(m.rg a l hl y (List.mem_filter.mp hy).1).1
    omega
   have:=nd.length_le_of_subset (l₂:=(List.range L.length).filter (f.F a)) fun x hx=>by
    obtain ⟨y,hy,rfl⟩:=List.mem_map.mp hx
    obtain ⟨h1,h2⟩:=List.mem_filter.mp hy
    have r:=m.rg a l hl y h1
    exact List.mem_filter.mpr ⟨List.mem_range.mpr (by omega),h2⟩
   rwa [List.length_map] at this
  ·have nd:(((List.range L.length).filter (f.F a)).map fun x:Nat=>(x:Int)).Nodup:=by
    rw [List.Nodup,List.pairwise_map]
    refine List.Pairwise.imp ?_ (List.nodup_range.filter (f.F a))
    intro x y hJ z
    omega
   have:=nd.length_le_of_subset (l₂:=gn f l a) fun x hx=>by
    obtain ⟨y,hy,rfl⟩:=List.mem_map.mp hx
    obtain ⟨h1,h2⟩:=List.mem_filter.mp hy
    obtain ⟨⟨l',h3,h4⟩,_⟩:=F.gJ _ _ h2
    rw [hl] at h3
    injection h3 with h3
    subst h3
    exact List.mem_filter.mpr ⟨h4,by simpa using h2⟩
   rwa [List.length_map] at this
 omega
theorem tY (m:aI L) {l:List Int} (hl:L[a]? = some l) (hb:b < L.length) (nF:a≠b) {f:Flow} (F:Fl L.length (Tw L a b) a b (if (b:Int)∈l then 2 else 3) f) {ρ : List (List Nat)} (R:oW f a b (gn f l a) ρ) :
  rZ L a b ((if (b:Int)∈l then [[a,b]] else []) ++ ρ):=by
 have ha:a < L.length:=(List.getElem?_eq_some_iff.mp hl).1
 have N:=Tw.Ei m ha hb nF
 have gl:=Aw m hl hb nF F
 have Pp:(gn f l a).Nodup:=(m.nd a l hl).filter _
 have rl:=R.len
 have long:∀ (k:Nat) (r:List Nat),ρ[k]? = some r→3≤r.length:=fun k r hk=>by
  obtain ⟨h1,h2,c,h3,h4⟩:=R.road k r hk
  have l2:=h1.len
  refine Classical.byContradiction fun z=>?_
  rw [show r.length - 1 = 1 by omega] at h2
  have g:=h1.go 0 a b h1.hd h2
  exact (F.gJ _ _ g).2 (.inl ⟨rfl,rfl⟩)
 have zi:∀ r∈ρ,Road L a b r:=fun r hr=>by
  obtain ⟨k,hk⟩:=List.mem_iff_getElem?.mp hr
  obtain ⟨h1,h2,_⟩:=R.road k r hk
  exact ⟨h1.len,h1.hd,h2,h1.nd,h1.rg F N,fun j u v e1 e2=>(F.gJ _ _ (h1.go j u v e1 e2)).1⟩
 have am:(ρ.map bx).flatten.Nodup:=by
  rw [List.Nodup,List.pairwise_flatten]
  refine ⟨fun x hx=>?_,?_⟩
  ·obtain ⟨r,hr,rfl⟩:=List.mem_map.mp hx
   exact xM (zi r hr).nd
  ·rw [List.pairwise_map,List.pairwise_iff_getElem]
   intro j k hj hk RN z x y y' ee
   subst ee
   have ej:=List.getElem?_eq_getElem hj
   have ek:=List.getElem?_eq_getElem hk
   obtain ⟨r1,r2,c,r3,r4⟩:=R.road j _ ej
   obtain ⟨q1,q2,d,q3,q4⟩:=R.road k _ ek
   obtain ⟨u,hu,ul⟩:=rY x
   obtain ⟨v,hv,vl⟩:=rY y'
   have zb:z≠b:=fun e=>by
    subst e
    have e1:=List.getElem?_eq_some_iff.mp hu
    have e2:=List.getElem?_eq_some_iff.mp r2
    have:=(List.getElem_inj r1.nd).mp (e1.2.trans e2.2.symm)
    omega
   have e:=r1.meet F N q1 u v z hu hv zb
   rw [r3,q3] at e
   injection e with e
   subst e
   have e1:=List.getElem?_eq_some_iff.mp r4
   have e2:=List.getElem?_eq_some_iff.mp q4
   have:=(List.getElem_inj Pp).mp (e1.2.trans e2.2.symm)
   omega
 have yz : ρ.filter (fun r=>decide (r.length = 2)) = []:=by
  rw [List.filter_eq_nil_iff]
  intro r hr
  obtain ⟨k,hk⟩:=List.mem_iff_getElem?.mp hr
  have:=long k r hk
  simp
  omega
 by_cases vX:(b:Int)∈l
 ·rw [if_pos vX] at gl ⊢
  refine ⟨by rw [List.length_append,List.length_singleton]; omega,fun r hr=>?_,?_,?_⟩
  ·rcases List.mem_append.mp hr with z | z
   ·rw [List.mem_singleton.mp z]
    refine ⟨by simp,rfl,rfl,by simp [nF],fun x hx=>?_,fun j u v e1 e2=>?_⟩
    ·simp at hx
     rcases hx with rfl | rfl
     ·exact ha
     ·exact hb
    ·cases j with
     | zero=>
      injection e1 with e1
      injection e2 with e2
      subst e1 e2
      exact ⟨l,hl,vX⟩
     | succ j=>simp at e2
   ·exact zi r z
  ·rw [List.map_append,List.flatten_append]
   exact am
  ·rw [List.filter_append,yz]
   simp
 ·rw [if_neg vX] at gl ⊢
  refine ⟨by rw [List.nil_append]; omega,fun r hr=>zi r (by simpa using hr),by simpa using am,?_⟩
  rw [List.nil_append,yz]
  simp
structure vP (L:List (List Int)) (a b:Nat) (l:List Int) (S:List Nat):Prop where
 inc:S.Pairwise (· < ·)
 na:a∉S
 nb:b∉S
 lC:S.length≤if (b:Int)∈l then 1 else 2
 rg:∀ x∈S,x < L.length
 off:∀ M:List (List Int),(∀ (p:Nat) (q:Int) (r:List Int),M[p]? = some r→q∈r→∃ y:Nat,q = (y:Int)∧Tw L a b p y)→¬ oV M (aK S) (a:Int) (b:Int)
theorem wz (m:aI L) {l:List Int} (hl:L[a]? = some l) (hb:b < L.length) (nF:a≠b) {f:Flow} {i:Nat} {D:af→Bool} {S:List Nat} (hi:i < if (b:Int)∈l then 2 else 3) (F:Fl L.length (Tw L a b) a b (i:Int) f)
  (da:D (a,true) = true) (db:D (b,false) = false) (P7:D (b,true) = false) (cl:∀ d e,D d = true→Res (Tw L a b) f d e→D e = true) (hS:S = (List.range L.length).filter (fun p=>D (p,false) && !D (p,true))):vP L a b l S:=by
 have ha:a < L.length:=(List.getElem?_eq_some_iff.mp hl).1
 have N:=Tw.Ei m ha hb nF
 have len:(i:Int) = (S.length:Int):=by rw [F.cut N D da db cl,ip,hS]
 have mS:∀ x,x∈S↔x < L.length∧D (x,false) = true∧D (x,true) = false:=fun x=>by
  rw [hS,List.mem_filter,List.mem_range]
  simp
 refine ⟨?_,fun z=>?_,fun z=>?_,?_,fun x hx=>((mS x).mp hx).1,fun M hM r=>?_⟩
 ·rw [hS]
  exact List.Pairwise.filter _ List.pairwise_lt_range
 ·rw [((mS a).mp z).2.2] at da; cases da
 ·rw [((mS b).mp z).2.1] at db; cases db
 ·split at hi
  ·rename_i h; rw [if_pos h]; omega
  ·rename_i h; rw [if_neg h]; omega
 ·have key:∀ z:Int,oV M (aK S) (a:Int) z→0≤z∧D (z.toNat,true) = true:=fun z r=>by
   induction r with
   | here=>exact ⟨by omega,by rw [Int.toNat_natCast]; exact da⟩
   | @step j lj z h1 h2 h3 h4 ih=>
    have hj:=ih.2
    rw [Int.toNat_natCast] at hj
    obtain ⟨y,rfl,t⟩:=hM j z lj h2 h3
    rw [Int.toNat_natCast]
    refine ⟨by omega,?_⟩
    have h1:=cl _ _ hj (dy.mpr (.inl t))
    cases h2:D (y,true) with
    | true=>rfl
    | false=>exact absurd (List.mem_map.mpr ⟨y,(mS y).mpr ⟨(N.rg _ _ t).2,h1,h2⟩,rfl⟩) h4
  have:=(key _ r).2
  rw [Int.toNat_natCast,P7] at this
  cases this
end
theorem uo {zs:List Addr} {rd:List Nat} (h:2≤rd.length):zs.map V.ref≠(aK rd).map V.int:=by
 cases rd with
 | nil=>simp at h
 | cons x rd=>
  cases zs with
  | nil=>simp [aK]
  | cons z zs=>simp [aK]
theorem mK {H:Hp} {t u:Addr} {bs cs:List Addr} {ρ : List (List Nat)} (g:aV H t bs (ρ.map aK)) (h:∀ r∈ρ,2≤r.length) (hu:H u = some (.lst (cs.map V.ref))):u∉bs:=fun z=>by
 obtain ⟨k,hk⟩:=List.mem_iff_getElem?.mp z
 have kl:=(List.getElem?_eq_some_iff.mp hk).1
 rw [g.len,List.length_map] at kl
 have e : ρ[k]? = some ρ[k]:=List.getElem?_eq_getElem kl
 have:=g.row k u (aK ρ[k]) hk (by rw [List.getElem?_map,e]; rfl)
 rw [hu] at this
 injection this with this
 injection this with this
 exact uo (h _ (List.mem_of_getElem? e)) this
end Fw
end
section
namespace AU
open PySem L2 Fr Gm Fw
local macro_rules | `(tactic| walk_at "rd1")=>`(tactic| first
 | with_reducible refine r_seq ?_ | with_reducible refine r_asg ?_ | with_reducible refine r_gname ?_ | with_reducible refine r_op ?_ | with_reducible refine r_c ?_
 | ((with_reducible refine' r_var ?hv ?_); case' hv=>exact rfl)
 | with_reducible refine uv ?_ | with_reducible refine zo ?_ | with_reducible refine zq ?_ | with_reducible refine uE ?_ | with_reducible refine uy ?_
 | with_reducible refine uu ?_ | with_reducible refine ur ?_ | with_reducible refine pJ ?_ | with_reducible refine uB ?_ | with_reducible refine pE ?_ | with_reducible refine FO ?_ | with_reducible refine zv ?_
 | with_reducible refine ux ?_ | with_reducible refine uG ?_ | with_reducible refine zt ?_ | with_reducible refine pM ?_ | with_reducible refine yj ?_ | with_reducible refine pF ?_ | with_reducible refine yl ?_
 | with_reducible refine jt ?_ | with_reducible refine eL ?_ | with_reducible refine pL ?_ | with_reducible refine sG ?_ | with_reducible refine uq ?_ | with_reducible refine uz ?_ | with_reducible refine pH ?_
 | with_reducible refine mD ?_ | with_reducible refine pI ?_ | with_reducible refine uw ?_ | with_reducible refine Em ?_ | with_reducible refine Hk ?_ | with_reducible refine Ae ?_ | with_reducible refine Cv ?_
 | ((with_reducible refine wB ?hc ?_); case' hc=>walk_at "side")
 | ((with_reducible refine' uA ?hp ?hi ?_); (case' hp=>walk_at "seq"); (case' hi=>exact rfl))
 | ((with_reducible refine' aQ ?hp ?hi ?_); (case' hp=>walk_at "seq"); (case' hi=>exact rfl))
 | ((with_reducible refine' mC ?hp ?hi ?_); (case' hp=>walk_at "seq"); (case' hi=>exact rfl))
 | ((with_reducible refine And.intro ?hl ?_); case' hl=>(first | exact BQ | exact BP))
 | with_reducible refine zu ?_ | with_reducible refine yo ?_ | with_reducible refine mw ?_ | with_reducible refine yk ?_ | with_reducible refine pG ?_ | with_reducible refine qS ?_ | with_reducible refine qR ?_ | with_reducible refine ju ?_ | with_reducible refine uF ?_ | with_reducible refine pK ?_
 | dsimp only)
local macro_rules | `(tactic| walk_at "rd")=>`(tactic| repeat walk_at "rd1")
local macro_rules | `(tactic| walk_at "blk_vis")=>`(tactic| first | exact Or.inl rfl | exact Or.inr (Or.inl rfl) | exact Or.inr (Or.inr rfl))
local macro_rules | `(tactic| walk_at "blk_ok")=>`(tactic| exact ⟨rfl,by decide +kernel,by decide +kernel,rfl,by (first | exact trivial | exact ⟨rfl,trivial⟩ | exact ⟨rfl,rfl,trivial⟩ | exact ⟨rfl,rfl,rfl,trivial⟩ | exact ⟨rfl,rfl,rfl,rfl,trivial⟩ | exact ⟨rfl,rfl,rfl,rfl,rfl,trivial⟩),rfl,
 by (first | exact aD | exact ai ⟨rfl,by walk_at "blk_vis",rfl,rfl⟩ aD | exact ai ⟨rfl,by walk_at "blk_vis",rfl,rfl⟩ (ai ⟨rfl,by walk_at "blk_vis",rfl,rfl⟩ aD) | exact ai ⟨rfl,by walk_at "blk_vis",rfl,rfl⟩ (ai ⟨rfl,by walk_at "blk_vis",rfl,rfl⟩ (ai ⟨rfl,by walk_at "blk_vis",rfl,rfl⟩ aD)) | exact ai ⟨rfl,by walk_at "blk_vis",rfl,rfl⟩ (ai ⟨rfl,by walk_at "blk_vis",rfl,rfl⟩ (ai ⟨rfl,by walk_at "blk_vis",rfl,rfl⟩ (ai ⟨rfl,by walk_at "blk_vis",rfl,rfl⟩ aD)))),
 by (first | exact ai rfl (ai rfl (ai rfl (ai rfl aD))) | exact aD | exact ai rfl aD | exact ai rfl (ai rfl aD) | exact ai rfl (ai rfl (ai rfl aD)))⟩)
local macro_rules | `(tactic| walk_at "blk_ok1")=>`(tactic| exact ⟨rfl,fun _=>rfl,fun _=>rfl,by decide +kernel,rfl,by (first | exact trivial | exact ⟨rfl,trivial⟩ | exact ⟨rfl,rfl,trivial⟩ | exact ⟨rfl,rfl,rfl,trivial⟩ | exact ⟨rfl,rfl,rfl,rfl,trivial⟩),rfl,
 by (first | exact aD | exact ai ⟨rfl,by walk_at "blk_vis",⟨rfl,rfl⟩,rfl⟩ aD | exact ai ⟨rfl,by walk_at "blk_vis",⟨rfl,rfl⟩,rfl⟩ (ai ⟨rfl,by walk_at "blk_vis",⟨rfl,rfl⟩,rfl⟩ aD) | exact ai ⟨rfl,by walk_at "blk_vis",⟨rfl,rfl⟩,rfl⟩ (ai ⟨rfl,by walk_at "blk_vis",⟨rfl,rfl⟩,rfl⟩ (ai ⟨rfl,by walk_at "blk_vis",⟨rfl,rfl⟩,rfl⟩ aD))),
 by (first | exact aD | exact ai rfl aD | exact ai rfl (ai rfl aD) | exact ai rfl (ai rfl (ai rfl aD)))⟩)
local macro_rules | `(tactic| walk_at "side")=>`(tactic| first | assumption | exact (show (0:Int) < _ by decide) | exact nh (by decide) (by decide) | exact ni (by decide) (by decide) | exact mulL (by decide) (by decide))
local macro_rules | `(tactic| walk_at "seq")=>`(tactic| first | assumption | exact SqT.of (by assumption))
def top (i:Nat):Stmt:=PySem.Challenge.pw_standup_k32_whole_roads.main.body.getD i (.Pass ⟨0,0,0,0⟩)
abbrev fq:Stmt:=top 1
abbrev bS:Stmt:=top 5
abbrev bF:Stmt:=top 6
abbrev dQ:Stmt:=top 7
abbrev cM:Stmt:=top 8
abbrev cL:Stmt:=top 9
abbrev dP:Stmt:=top 10
abbrev br:Stmt:=top 12
abbrev bG:Stmt:=top 13
abbrev bL:Stmt:=top 14
abbrev bJ:Stmt:=top 15
abbrev b6:Stmt:=top 16
abbrev bI:Stmt:=top 17
abbrev bo:Stmt:=top 18
abbrev bb:Stmt:=top 19
abbrev bK:Stmt:=top 20
abbrev bq:Stmt:=top 21
abbrev bp:Stmt:=top 22
abbrev bH:Stmt:=top 23
abbrev bU:Stmt:=top 24
abbrev bT:Stmt:=top 25
abbrev gP:Stmt:=top 26
structure LR where
structure Txt (K:PySem.W.Frag) (mg:Str→Option Value) (Z:LR):Prop where
 len:mg "len" = none
 range:mg "range" = none
 min:mg "min" = none
 max:mg "max" = none
 list:mg "list" = none
 enumerate:mg "enumerate" = none
 sorted:mg "sorted" = none
 isinstance:mg "isinstance" = none
 int:mg "int" = none
 bool:mg "bool" = none
 set:mg "set" = none
 tuple:mg "tuple" = none
 str:mg "str" = none
 g_IN:∃ t,mg "IN" = some (.int 0 t)
 g_OUT:∃ t,mg "OUT" = some (.int 1 t)
def qH (K:PySem.W.Frag):Sp:=fun vs H Q _=>∃ (a:Addr) (ns:List Int) (k:Int),vs = [.ref a,.int k]∧aG K H a (ns.map V.int)∧0≤k∧∀ n,Q (.int n) H
def ji:Sp:=fun vs H Q _=>∃ n:Int,vs = [.int n]∧Q (.bl true) H
def d6 (K:PySem.W.Frag):Sp:=fun vs H Q _=>∃ (a:Addr) (ns:List Int) (k:Int),vs = [.ref a,.int k]∧aG K H a (ns.map V.int)∧0≤k∧k≤100000∧∀ n,0≤n→n < 2147483587→Q (.int n) H
def ui (K:PySem.W.Frag):Sp:=fun vs H Q _=>∃ (a:Addr) (ns:List Int) (st n:Int),vs = [.ref a,.int st,.int n]∧aG K H a (ns.map V.int)∧0≤st∧st≤1000∧0≤n∧n≤60∧
 ∀ p as L H',aj H H'→aV H' p as L→(p :: as).Nodup→(∀ b∈p :: as,H b = none)→(L.length:Int) = n→aI L→Q (.ref p) H'
def nM:Sp:=fun vs H Q _=>∃ (p:Addr) (as:List Addr) (L:List (List Int)),vs = [.ref p]∧aV H p as L∧aI L∧L.length≤60∧(fe L L.length).length < 1000∧
 ∀ (t:Addr) (bs:List Addr) (R:List (List ay)) H',aj H H'→aV H' t bs (R.map fun c=>c.map (·.1))→(t :: bs).Nodup→(∀ b∈t :: bs,H b = none)→Dec L R→Q (.ref t) H'
def kP:Sp:=fun vs H Q _=>∃ (p ra:Addr) (as:List Addr) (L:List (List Int)) (r:List Int) (i j:Nat),vs = [.ref p,.ref ra,.int (i:Int),.int (j:Int)]∧aV H p as L∧(p :: as).Nodup∧H ra = some (.lst (r.map V.int))∧ra∉as∧cG L∧Good L r∧i < r.length∧j < r.length∧L.length≤60∧
 ∀ H' L',(∀ b o,b∉as→H b = some o→H' b = some o)→aV H' p as L'→cG L'→L'.length = L.length→Q .bY H'
def iK:Sp:=fun vs H Q _=>∃ (p ra rc:Addr) (as:List Addr) (L:List (List Int)) (r:List Int) (cs:List Nat),vs = [.ref p,.ref ra,.ref rc]∧aV H p as L∧(p :: as).Nodup∧H ra = some (.lst (r.map V.int))∧ra∉as∧H rc = some (.lst ((cs.map fun c:Nat=>(c:Int)).map V.int))∧rc∉as∧ra≠p∧rc≠p∧cG L∧Good L r∧(sh 0 r).Nodup∧cs≠[]∧cs.Pairwise (· < ·)∧(∀ c∈cs,c < r.length)∧(cs.map (cy r)).Nodup∧cs.length≤200∧L.length≤60∧
 ∀ H' L' c,(∀ b o,b∉p :: as→H b = some o→H' b = some o)→H c = none→aV H' p (as ++ [c]) L'→(p :: (as ++ [c])).Nodup→cG L'→L'.length = L.length + 1→Q .bY H'
def nN (K:PySem.W.Frag):Sp:=fun vs H Q _=>∃ (a:Addr) (ns:List Int) (st:Int) (n:Nat),vs = [.ref a,.int st,.int (n:Int)]∧aG K H a (ns.map V.int)∧0≤st∧st≤1000∧n≤16∧
 ∀ p as L H',aj H H'→aV H' p as L→(p :: as).Nodup→(∀ b∈p :: as,H b = none)→cG L→L.length≤2 + n→Q (.ref p) H'
def jk:Sp:=fun vs H Q _=>∃ (p:Addr) (as:List Addr) (L:List (List Int)) (S:List Int) (st:Int) (sa:Addr),vs = [.ref p,.int st,.ref sa]∧aV H p as L∧H sa = some (.lst (S.map V.int))∧L.length≤60∧aI L∧0≤st∧st < L.length∧
 ∀ (t:Addr) (fs:List Int) H',aj H H'→H' t = some (.lst (fs.map V.int))→fs.Nodup→(∀ x,x∈fs↔oV L S st x)→Q (.ref t) H'
def lY (K:PySem.W.Frag):Sp:=fun vs H Q _=>∃ (a:Addr) (ns:List Int),vs = [.ref a]∧aG K H a (ns.map V.int)∧ns.length≤63∧∀ H',Q (.bl true) H'
def nO:Sp:=fun vs H Q _=>∃ (wy sp:Addr) (n:Nat) (N:af→af→Prop) (au:List (List Key×V)) (g:af→Addr) (ks:af→List af) (st:af),vs = [.ref wy,.ref sp]∧cF H wy n N au g ks∧st.1 < n∧n≤60∧H sp = some (.tup ((kd st).map kV))∧
 ∀ (t:Addr) (cT:List (af×Option af)) (r:af→V) H',aj H H'→H t = none→nG H' t cT r→Bf n N st cT []→Q (.ref t) H'
def qG:Sp:=fun vs H Q _=>∃ (wy t gp:Addr) (n:Nat) (T:Nat→Nat→Prop) (a b:Nat) (f:Fw.Flow) (i:Int) (au:List (List Key×V)) (g:af→Addr) (ks:af→List af) (cT:List (af×Option af)) (r:af→V),vs = [.ref wy,.ref t,.ref gp]∧cF H wy n (Res T f) au g ks∧nG H t cT r∧(∀ d:af,d.1 < n→g d≠t)∧H gp = some (.tup ((kd (b,false)).map kV))∧Fan n (Res T f) (a,true) cT∧(∃ o,((b,false),o)∈cT)∧Fl n T a b i f∧Net n T a b∧n≤60∧
 ∀ (f':Fw.Flow) (jF:af→List af) H',(∀ c o,(∀ d:af,d.1 < n→c≠g d)→H c = some o→H' c = some o)→cF H' wy n (Res T f') au g jF→Fl n T a b (i + 1) f'→Q .bY H'
def ig:Sp:=fun vs H Q _=>∃ (p wy:Addr) (as:List Addr) (L:List (List Int)) (T:Nat→Nat→Prop) (f:Fw.Flow) (au:List (List Key×V)) (g:af→Addr) (ks:af→List af) (x:Nat) (l:List Int),vs = [.ref p,.ref wy,.int (x:Int)]∧aV H p as L∧aI L∧L.length≤60∧cF H wy L.length (Res T f) au g ks∧L[x]? = some l∧
 ∀ (t:Addr) H',aj H H'→H t = none→H' t = some (.lst ((gn f l x).map V.int))→Q (.ref t) H'
def kO:Sp:=fun vs H Q _=>∃ (p wy ra:Addr) (as:List Addr) (L:List (List Int)) (T:Nat→Nat→Prop) (f:Fw.Flow) (au:List (List Key×V)) (g:af→Addr) (ks:af→List af) (a b c:Nat) (i:Int),vs = [.ref p,.ref wy,.ref ra,.int (b:Int)]∧aV H p as L∧aI L∧L.length≤60∧cF H wy L.length (Res T f) au g ks∧Fl L.length T a b i f∧Net L.length T a b∧(∀ p q,T p q→∃ l,L[p]? = some l∧(q:Int)∈l)∧H ra = some (.lst [.int (a:Int),.int (c:Int)])∧f.F a c = true∧
 ∀ (t:Addr) (rd:List Nat) H',aj H H'→H' t = some (.lst ((rd.map fun x:Nat=>(x:Int)).map V.int))→Fw.Rd f a b rd→rd[rd.length - 1]? = some b→rd[1]? = some c→Q (.ref t) H'
def qD:Sp:=fun vs H Q _=>∃ (p:Addr) (as:List Addr) (L:List (List Int)),vs = [.ref p]∧aV H p as L∧L.length≤60∧aI L∧
 ∀ t ps H',aj H H'→H t = none→H' t = some (.lst (ps.map V.ref))→PR H' ps (dq L L.length)→Q (.ref t) H'
def qF:Sp:=fun vs H Q _=>∃ (p:Addr) (as:List Addr) (L:List (List Int)) (a b:Nat),vs = [.ref p,.int (a:Int),.int (b:Int)]∧aV H p as L∧aI L∧L.length≤60∧a < L.length∧b < L.length∧a≠b∧
 ∀ (wy:Addr) (au:List (List Key×V)) (g:af→Addr) (ks:af→List af) H',aj H H'→H wy = none→(∀ d:af,d.1 < L.length→H (g d) = none)→cF H' wy L.length (Res (Tw L a b) f0) au g ks→Q (.ref wy) H'
def nK:Sp:=fun vs H Q _=>∃ (p:Addr) (as:List Addr) (L:List (List Int)) (a b:Nat) (l:List Int),vs = [.ref p,.int (a:Int),.int (b:Int)]∧aV H p as L∧aI L∧L.length≤60∧L[a]? = some l∧b < L.length∧a≠b∧
 (∀ (x:Addr) (xs:List Addr) (ρ : List (List Nat)) (t:Addr) H',aj H H'→H' t = some (.tup [.str "roads",.ref x])→aV H' x xs (ρ.map aK)→rZ L a b ρ→Q (.ref t) H')∧
 (∀ (x:Addr) (S:List Nat) (t:Addr) H',aj H H'→H' t = some (.tup [.str "parted",.ref x])→H' x = some (.lst ((aK S).map V.int))→vP L a b l S→Q (.ref t) H')
def kQ:Sp:=fun vs H Q _=>∃ (x p:Addr) (as:List Addr) (L:List (List Int)) (a b:Nat) (rd:List Nat),vs = [.ref x,.ref p,.int (a:Int),.int (b:Int)]∧aV H p as L∧L.length≤60∧H x = some (.lst ((aK rd).map V.int))∧Road L a b rd∧∀ H',aj H H'→Q (.bl true) H'
def nJ:Sp:=fun vs H Q _=>∃ (x p:Addr) (as xs:List Addr) (L:List (List Int)) (a b:Nat) (ρ : List (List Nat)),vs = [.ref x,.ref p,.int (a:Int),.int (b:Int)]∧aV H p as L∧L.length≤60∧aV H x xs (ρ.map aK)∧rZ L a b ρ∧∀ H',aj H H'→Q (.bl true) H'
def qE:Sp:=fun vs H Q _=>∃ (x p:Addr) (as:List Addr) (L:List (List Int)) (a b:Nat) (l:List Int) (S:List Nat),vs = [.ref x,.ref p,.int (a:Int),.int (b:Int)]∧aV H p as L∧aI L∧L.length≤60∧L[a]? = some l∧b < L.length∧a≠b∧H x = some (.lst ((aK S).map V.int))∧vP L a b l S∧∀ H',aj H H'→Q (.bl true) H'
def qC:Sp:=fun vs H Q _=>∃ (t x p:Addr) (as:List Addr) (L:List (List Int)) (a b:Nat) (l:List Int),vs = [.ref t,.ref p,.int (a:Int),.int (b:Int)]∧aV H p as L∧aI L∧L.length≤60∧L[a]? = some l∧b < L.length∧a≠b∧
 ((∃ xs ρ,H t = some (.tup [.str "roads",.ref x])∧aV H x xs (ρ.map aK)∧rZ L a b ρ)∨(∃ S,H t = some (.tup [.str "parted",.ref x])∧H x = some (.lst ((aK S).map V.int))∧vP L a b l S))∧∀ H',aj H H'→Q (.bl true) H'
end AU
end
section
namespace AU
open PySem L2 Fr Gm Fw
local macro_rules | `(tactic| walk_at "rd1")=>`(tactic| first
 | with_reducible refine r_seq ?_ | with_reducible refine r_asg ?_ | with_reducible refine r_gname ?_ | with_reducible refine r_op ?_ | with_reducible refine r_c ?_
 | ((with_reducible refine' r_var ?hv ?_); case' hv=>exact rfl)
 | with_reducible refine uv ?_ | with_reducible refine zo ?_ | with_reducible refine zq ?_ | with_reducible refine uE ?_ | with_reducible refine uy ?_
 | with_reducible refine uu ?_ | with_reducible refine ur ?_ | with_reducible refine pJ ?_ | with_reducible refine uB ?_ | with_reducible refine pE ?_ | with_reducible refine FO ?_ | with_reducible refine zv ?_
 | with_reducible refine ux ?_ | with_reducible refine uG ?_ | with_reducible refine zt ?_ | with_reducible refine pM ?_ | with_reducible refine yj ?_ | with_reducible refine pF ?_ | with_reducible refine yl ?_
 | with_reducible refine jt ?_ | with_reducible refine eL ?_ | with_reducible refine pL ?_ | with_reducible refine sG ?_ | with_reducible refine uq ?_ | with_reducible refine uz ?_ | with_reducible refine pH ?_
 | with_reducible refine mD ?_ | with_reducible refine pI ?_ | with_reducible refine uw ?_ | with_reducible refine Em ?_ | with_reducible refine Hk ?_ | with_reducible refine Ae ?_ | with_reducible refine Cv ?_
 | ((with_reducible refine wB ?hc ?_); case' hc=>walk_at "side")
 | ((with_reducible refine' uA ?hp ?hi ?_); (case' hp=>walk_at "seq"); (case' hi=>exact rfl))
 | ((with_reducible refine' aQ ?hp ?hi ?_); (case' hp=>walk_at "seq"); (case' hi=>exact rfl))
 | ((with_reducible refine' mC ?hp ?hi ?_); (case' hp=>walk_at "seq"); (case' hi=>exact rfl))
 | ((with_reducible refine And.intro ?hl ?_); case' hl=>(first | exact BQ | exact BP))
 | with_reducible refine zu ?_ | with_reducible refine yo ?_ | with_reducible refine mw ?_ | with_reducible refine yk ?_ | with_reducible refine pG ?_ | with_reducible refine qS ?_ | with_reducible refine qR ?_ | with_reducible refine ju ?_ | with_reducible refine uF ?_ | with_reducible refine pK ?_
 | dsimp only)
local macro_rules | `(tactic| walk_at "rd")=>`(tactic| repeat walk_at "rd1")
local macro_rules | `(tactic| walk_at "blk_vis")=>`(tactic| first | exact Or.inl rfl | exact Or.inr (Or.inl rfl) | exact Or.inr (Or.inr rfl))
local macro_rules | `(tactic| walk_at "blk_ok")=>`(tactic| exact ⟨rfl,by decide +kernel,by decide +kernel,rfl,by (first | exact trivial | exact ⟨rfl,trivial⟩ | exact ⟨rfl,rfl,trivial⟩ | exact ⟨rfl,rfl,rfl,trivial⟩ | exact ⟨rfl,rfl,rfl,rfl,trivial⟩ | exact ⟨rfl,rfl,rfl,rfl,rfl,trivial⟩),rfl,
 by (first | exact aD | exact ai ⟨rfl,by walk_at "blk_vis",rfl,rfl⟩ aD | exact ai ⟨rfl,by walk_at "blk_vis",rfl,rfl⟩ (ai ⟨rfl,by walk_at "blk_vis",rfl,rfl⟩ aD) | exact ai ⟨rfl,by walk_at "blk_vis",rfl,rfl⟩ (ai ⟨rfl,by walk_at "blk_vis",rfl,rfl⟩ (ai ⟨rfl,by walk_at "blk_vis",rfl,rfl⟩ aD)) | exact ai ⟨rfl,by walk_at "blk_vis",rfl,rfl⟩ (ai ⟨rfl,by walk_at "blk_vis",rfl,rfl⟩ (ai ⟨rfl,by walk_at "blk_vis",rfl,rfl⟩ (ai ⟨rfl,by walk_at "blk_vis",rfl,rfl⟩ aD)))),
 by (first | exact ai rfl (ai rfl (ai rfl (ai rfl aD))) | exact aD | exact ai rfl aD | exact ai rfl (ai rfl aD) | exact ai rfl (ai rfl (ai rfl aD)))⟩)
local macro_rules | `(tactic| walk_at "blk_ok1")=>`(tactic| exact ⟨rfl,fun _=>rfl,fun _=>rfl,by decide +kernel,rfl,by (first | exact trivial | exact ⟨rfl,trivial⟩ | exact ⟨rfl,rfl,trivial⟩ | exact ⟨rfl,rfl,rfl,trivial⟩ | exact ⟨rfl,rfl,rfl,rfl,trivial⟩),rfl,
 by (first | exact aD | exact ai ⟨rfl,by walk_at "blk_vis",⟨rfl,rfl⟩,rfl⟩ aD | exact ai ⟨rfl,by walk_at "blk_vis",⟨rfl,rfl⟩,rfl⟩ (ai ⟨rfl,by walk_at "blk_vis",⟨rfl,rfl⟩,rfl⟩ aD) | exact ai ⟨rfl,by walk_at "blk_vis",⟨rfl,rfl⟩,rfl⟩ (ai ⟨rfl,by walk_at "blk_vis",⟨rfl,rfl⟩,rfl⟩ (ai ⟨rfl,by walk_at "blk_vis",⟨rfl,rfl⟩,rfl⟩ aD))),
 by (first | exact aD | exact ai rfl aD | exact ai rfl (ai rfl aD) | exact ai rfl (ai rfl (ai rfl aD)))⟩)
local macro_rules | `(tactic| walk_at "side")=>`(tactic| first | assumption | exact (show (0:Int) < _ by decide) | exact nh (by decide) (by decide) | exact ni (by decide) (by decide) | exact mulL (by decide) (by decide))
local macro_rules | `(tactic| walk_at "seq")=>`(tactic| first | assumption | exact SqT.of (by assumption))
section
variable {P:Program} {w:World} {K:PySem.W.Frag} {mg:Str→Option Value} {base:Heap} {Z:LR}
theorem cA:aZ ["ways", "start", "ahead", "waiting", "door", "beyond"] ["ways", "start"] (aw bF):=⟨rfl,rfl,rfl,by decide +kernel,rfl,by decide +kernel,by decide +kernel⟩
theorem kj (D:Def K mg "doors_from" bF ["ways", "start"]) (T:Txt K mg Z):dE P w K mg base (cQ P w) "doors_from" 1 ["ways", "start"] nO:=by
 refine D.dY cA (fun vs H Q E h=>?_) (fun f dv A outer s H vs Q E hr h=>?_)
 ·obtain ⟨wy,sp,n,N,au,g,ks,st,rfl,_⟩:=h; rfl
 ·obtain ⟨wy,sp,n,N,au,g,ks,st,rfl,W,Hq,hn,o6,q⟩:=h
  refine ⟨_,(ah (aJ (i:=2) cA.nd rfl (by first | exact Or.inl rfl | exact Or.inr rfl) (n6 (je hr) (pv 1) zG))
   (ah (aJ (i:=3) cA.nd rfl (by first | exact Or.inl rfl | exact Or.inr rfl) (cv (aa (pv 1) ag)))
   (ah (gR PassesOwn.never (aB n9 (ax aH (by rfl) T.len aU (aa (pv 3) ag)) ao (aT _)) (ah (aJ (i:=4) cA.nd rfl (by first | exact Or.inl rfl | exact Or.inr rfl) (cE PySem.F.plainAttrs_list PySem.F.slot_list_pop PySem.F.type_list_pop u3 (pv 3) (aa ao ag)))
   (aq (wH (bV PassesOwn.never rfl (uL (dS (b8 hr) (pv 0) (pv 4) (fun _ _=>rfl))) (aP (i:=5) cA.nd rfl (by first | exact Or.inl rfl | exact Or.inr rfl))
   (aq (bC (fv (d9 (b8 hr) (pv 5) (pv 2))) (ah (eQ (b8 hr) (pv 2) (pv 5) (pv 4) rfl)
   (aq (bu (cE PySem.F.plainAttrs_list PySem.F.slot_list_append PySem.F.type_list_append cO (pv 3) (aa (pv 5) ag))))) aR)))))))
   (aq (aX (pv 2)))))),?_⟩
  dsimp only [dN]
  walk_at "rd"
  refine qT fun t ht=>?_
  walk_at "rd"
  have LW:t≠sp:=fun z=>by rw [z,o6] at ht; cases ht
  refine ⟨ae,sp,kd st,.bY,rfl,by rw [ak (Ne.symm LW)]; exact o6,?_⟩
  have e0:aj H (upd (upd H t (.dT [])) t (.dT [(kd st,V.bY)])):=aj.fresh (aj.upd ht) ht
  have a0:nG (upd (upd H t (.dT [])) t (.dT [(kd st,V.bY)])) t [(st,none)] (fun _=>V.bY):=⟨ae,fun d o hd=>by
   have:=List.mem_singleton.mp hd
   injection this with h1 h2
   subst h2; rfl⟩
  generalize upd (upd H t (.dT [])) t (.dT [(kd st,V.bY)]) = H0 at e0 a0 ⊢
  walk_at "rd"
  refine ⟨by rw [PySem.sizeLine_eq]; simp,fun wq hw=>?_⟩
  have wf:H wq = none:=e0.free hw
  have w0:upd H0 wq (.lst [V.ref sp]) wq = some (.lst (([sp]:List Addr).map V.ref)):=ae
  have a1:nG (upd H0 wq (.lst [V.ref sp])) t [(st,none)] (fun _=>V.bY):=a0.keep (ak (aF a0.top hw)) fun c xs e=>aj.upd hw _ _ e
  have d0:DR (upd H0 wq (.lst [V.ref sp])) [sp] [st]:=.cons (aj.upd hw _ _ (e0 _ _ o6)) .nil
  have e1:aj H (upd H0 wq (.lst [V.ref sp])):=e0.trans (aj.upd hw)
  have wt:wq≠t:=(aF a0.top hw).symm
  generalize upd H0 wq (.lst [V.ref sp]) = H1 at w0 a1 d0 e1 ⊢
  walk_at "rd"
  refine iU (fun σ H1=>∃ (cT:List (af×Option af)) (r:af→V) (ws:List af) (cs:List Addr) (v4 v5:Option V),σ = [some (.ref wy),some (.ref sp),some (.ref t),some (.ref wq),v4,v5]∧aj H H1∧nG H1 t cT r∧H1 wq = some (.lst (cs.map V.ref))∧DR H1 cs ws∧Bf n N st cT ws∧cs.length≤cT.length)
   (fun _ H1=>match H1 t,H1 wq with | some (.dT au),some (.lst xs)=>2 * (2 * n - au.length) + xs.length | _,_=>0) ⟨[(st,none)],_,[st],[sp],none,none,rfl,e1,a1,w0,d0,Bf.start Hq,Nat.le_refl _⟩ ?_
  clear e0 a0 hw w0 a1 d0 e1 H0 H1
  rintro σ H1 ⟨cT,r,ws,cs,v4,v5,rfl,e1,a1,w1,d1,bf,cf⟩
  walk_at "rd"
  refine ⟨_,_,rfl,.inl ⟨_,aG.of w1,rfl⟩,?_⟩
  rw [List.length_map]
  walk_at "rd"
  refine if2 (fun kE=>?_) (fun kE=>?_)
  ·refine w_turn ?_
   rw [a1.top,w1]
   dsimp only
   rw [eW,List.length_map,List.length_map]
   cases d1 with
   | nil=>simp at kE
   | @cons c x cs ws hc d1=>
   have hx:x.1 < n:=bf.rg x (bf.sub x (.head _))
   have hlen:=bf.len
   walk_at "rd"
   refine ⟨.inl ⟨rfl,_,aG.of w1⟩,?_⟩
   refine ⟨wq,_,0,0,.ref c,rfl,rfl,w1,by decide,by decide,by simp [seqIndex?],rfl,?_⟩
   have e2:aj H (upd H1 wq (.lst ((cs.map V.ref)))):=aj.fresh e1 wf
   have xZ:=dA (.lst (cs.map V.ref)) w1 (fun xs z=>by cases z)
   have a2:nG (upd H1 wq (.lst (cs.map V.ref))) t cT r:=a1.keep (ak wt.symm) xZ
   have w2:upd H1 wq (.lst (cs.map V.ref)) wq = some (.lst (cs.map V.ref)):=ae
   have d2:DR (upd H1 wq (.lst (cs.map V.ref))) cs ws:=d1.mono xZ
   have c2:=xZ _ _ hc
   have er:(List.map V.ref (c :: cs)).eraseIdx 0 = cs.map V.ref:=rfl
   rw [er]
   generalize upd H1 wq (.lst (cs.map V.ref)) = H2 at e2 a2 w2 d2 c2 ⊢
   walk_at "rd"
   have gx:=e2 _ _ (W.row x hx)
   refine zp ?_
   refine cN ?_
   refine uC ?_
   refine fu ?_
   refine ⟨_,rfl,_,rfl,wy,_,rfl,(W.same e2).get c2 hx,?_⟩
   refine ⟨g x,_,rfl,gx,fun o=>?_⟩
   have gt:g x≠t:=fun z=>by have:=W.row x hx; rw [z,ht] at this; cases this
   have gw:g x≠wq:=fun z=>by have:=W.row x hx; rw [z,wf] at this; cases this
   have tP:=dA (.eF o (.dT (kR (ks x) fun _=>V.bl true))) gx (fun xs z=>by cases z)
   have k3:∀ b u,b≠g x→H b = some u→upd H2 (g x) (.eF o (.dT (kR (ks x) fun _=>V.bl true))) b = some u:=fun b u nb hb=>by rw [ak nb]; exact e2 _ _ hb
   have a3:=a2.keep (H':=upd H2 (g x) (.eF o (.dT (kR (ks x) fun _=>V.bl true)))) (ak gt.symm) tP
   have w3:upd H2 (g x) (.eF o (.dT (kR (ks x) fun _=>V.bl true))) wq = some (.lst (cs.map V.ref)):=by rw [ak gw.symm]; exact w2
   have d3:=d2.mono tP
   have c3:=tP _ _ c2
   have g3:upd H2 (g x) (.eF o (.dT (kR (ks x) fun _=>V.bl true))) (g x) = some (.eF o (.dT (kR (ks x) fun _=>V.bl true))):=ae
   generalize upd H2 (g x) (.eF o (.dT (kR (ks x) fun _=>V.bl true))) = H3 at k3 a3 w3 d3 c3 g3 ⊢
   clear e2 a2 w2 d2 c2 gx tP H2
   refine sX (fun k σ H3=>∃ (gE:List (af×Option af)) (r':af→V) (yU:List af) (tw:List Addr) (v5:Option V),σ = [some (.ref wy),some (.ref sp),some (.ref t),some (.ref wq),some (.ref c),v5]∧(∀ b u,b≠g x→H b = some u→H3 b = some u)∧H3 (g x) = some (.eF o (.dT (kR (ks x) fun _=>V.bl true)))∧H3 c = some (.tup ((kd x).map kV))∧nG H3 t gE r'∧H3 wq = some (.lst (tw.map V.ref))∧DR H3 tw yU∧Bi n N st gE yU x (ks x) k∧2 * (2 * n - gE.length) + tw.length < 2 * (2 * n - cT.length) + (c :: cs).length∧tw.length≤gE.length)
    ⟨cT,r,ws,cs,v5,rfl,k3,g3,c3,a3,w3,d3,bf.pop _,by simp,Nat.le_of_succ_le cf⟩ (fun k σ H3 _ ⟨_,_,_,_,_,_,_,z,_⟩=>z) ?_ ?_
   ·clear k3 a3 w3 d3 c3 g3 H3
    rintro k key v b σ H3 hk hb ⟨gE,r',yU,tw,v5,rfl,k3,g3,c3,a3,w3,d3,bi,ms,I0⟩
    obtain ⟨e,he,rfl,_⟩:=Cs hk
    have hN:N x e:=(W.mem x e hx).mp (List.mem_of_getElem? he)
    have en:e.1 < n:=W.rg x e hx hN
    walk_at "rd"
    refine ⟨t,_,rfl,cW.t (k:=kd e) a3.top hb,?_⟩
    rw [jJ]
    walk_at "rd"
    refine dG (fun An=>?_) (fun CA=>?_)
    ·have ba:=bi.add he An hN en
     have lb:=ba.len
     rw [List.length_append,List.length_singleton] at lb
     have lw:tw.length≤1000:=by
      have:=bi.len
      omega
     walk_at "rd"
     refine ⟨t,_,rfl,iJ.t (k:=kd e) a3.top hb (by rw [eW,List.length_map]; exact az (by omega)),?_⟩
     have xY:=dA (.dT (putK (kR (gE.map Prod.fst) r') (kd e) (.ref c))) a3.top (fun xs z=>by cases z)
     have a4:=a3.add (H':=upd H3 t (.dT (putK (kR (gE.map Prod.fst) r') (kd e) (.ref c)))) An (xY _ _ c3) ae xY
     have w4:upd H3 t (.dT (putK (kR (gE.map Prod.fst) r') (kd e) (.ref c))) wq = some (.lst (tw.map V.ref)):=by rw [ak wt]; exact w3
     have d4:=d3.mono xY
     have c4:=xY _ _ c3
     have b4:=xY _ _ hb
     have g4:upd H3 t (.dT (putK (kR (gE.map Prod.fst) r') (kd e) (.ref c))) (g x) = _:=(ak gt).trans g3
     have k4:∀ b u,b≠g x→H b = some u→upd H3 t (.dT (putK (kR (gE.map Prod.fst) r') (kd e) (.ref c))) b = some u:=fun b u nb hb=>by
      rw [ak (fun z=>by rw [z,ht] at hb; cases hb)]; exact k3 b u nb hb
     generalize upd H3 t (.dT (putK (kR (gE.map Prod.fst) r') (kd e) (.ref c))) = H4 at a4 w4 d4 c4 b4 g4 k4 ⊢
     walk_at "rd"
     refine ⟨.inl ⟨rfl,_,aG.of w4⟩,?_⟩
     walk_at "rd"
     refine dF w4 (by rw [List.length_map]; exact az (by omega)) ?_
     have DM:=dA (.lst (tw.map V.ref ++ [V.ref b])) w4 (fun xs z=>by cases z)
     refine ⟨gE ++ [(e,some x)],_,yU ++ [e],tw ++ [b],_,rfl,fun b u nb hb=>?_,(ak gw).trans g4,DM _ _ c4,a4.keep (ak wt.symm) DM,by rw [List.map_append]; exact ae,(d4.mono DM).add (DM _ _ b4),ba,?_,by simp only [List.length_append,List.length_cons,List.length_nil]; omega⟩
     ·rw [ak (fun z=>by rw [z,wf] at hb; cases hb)]; exact k4 b u nb hb
     ·rw [List.length_append,List.length_append,List.length_singleton]
      simp only [List.length_cons,List.length_nil] at ms ⊢
      omega
    ·walk_at "rd"
     exact ⟨gE,r',yU,tw,_,rfl,k3,g3,c3,a3,w3,d3,bi.skip he CA,ms,I0⟩
   ·clear k3 a3 w3 d3 c3 g3 H3
    rintro σ H3 ⟨gE,r',yU,tw,v5,rfl,k3,g3,c3,a3,w3,d3,bi,ms,I0⟩
    rw [eW] at bi
    have xY:=dA (.dT (kR (ks x) fun _=>V.bl true)) g3 (fun xs z=>by cases z)
    have a4:=a3.keep (H':=upd H3 (g x) (.dT (kR (ks x) fun _=>V.bl true))) (ak gt.symm) xY
    have w4:upd H3 (g x) (.dT (kR (ks x) fun _=>V.bl true)) wq = some (.lst (tw.map V.ref)):=(ak gw.symm).trans w3
    refine ⟨g x,o,_,g3,fun o' u' z=>?_,⟨gE,r',yU,tw,_,_,rfl,fun b u hb=>?_,a4,w4,d3.mono xY,bi.done fun e he=>(W.mem x e hx).mpr he,I0⟩,?_⟩
    ·have z:H (g x) = _:=z
     rw [W.row x hx] at z
     cases z
    ·by_cases nb:b = g x
     ·rw [nb,ae,← W.row x hx,← nb]; exact hb
     ·rw [ak nb]; exact k3 b u nb hb
    ·rw [a4.top,w4]
     dsimp only
     rw [eW,List.length_map,List.length_map]
     exact ms
  ·have K6:cs = []:=by
    cases cs with
    | nil=>rfl
    | cons c cs=>simp at kE
   subst K6
   cases d1
   walk_at "rd"
   exact q t cT r H1 e1 ht a1 bf
theorem gO:aZ ["ways", "ahead", "goal", "door", "last"] ["ways", "ahead", "goal"] (aw dQ):=⟨rfl,rfl,rfl,by decide +kernel,rfl,by decide +kernel,by decide +kernel⟩
theorem uP (D:Def K mg "go_to" dQ ["ways", "ahead", "goal"]) (T:Txt K mg Z):dE P w K mg base (cQ P w) "go_to" 1 ["ways", "ahead", "goal"] qG:=by
 refine D.dY gO (fun vs H Q E h=>?_) (fun fa dv A outer s H vs Q E hr h=>?_)
 ·obtain ⟨wy,t,gp,n,N,a,b,f,i,au,g,ks,cT,r,rfl,_⟩:=h; rfl
 ·obtain ⟨wy,t,gp,n,TT,a,b,f,i,au,g,ks,cT,r,rfl,W,Ah,off,O0,fn,hb,F,N,hn,q⟩:=h
  refine ⟨_,(ah (aJ (i:=3) gO.nd rfl (by first | exact Or.inl rfl | exact Or.inr rfl) (pv 2))
   (aq (gR PassesOwn.never (fv (wR (dS (b8 hr) (pv 1) (pv 3) (fun _ _=>rfl)))) (ah (aJ (i:=4) gO.nd rfl (by first | exact Or.inl rfl | exact Or.inr rfl) (dS (b8 hr) (pv 1) (pv 3) (fun _ _=>rfl)))
   (ah (eQ (b8 hr) (dS (b8 hr) (pv 0) (pv 3) (fun _ _=>rfl)) (pv 4) cZ rfl)
   (ah (bC (PW.pt (pw_or (aB gU (aL dh (pv 4) ao (fun _ _=>rfl)) (aL dh (pv 3) ao (fun _ _=>rfl)) (aT _)) (pw_or1 (aB gU (aL dh (pv 4) ao (fun _ _=>rfl)) (bD rfl T.g_IN) (aT _))))) (aq (bu (uM (b8 hr) (dS (b8 hr) (pv 0) (pv 4) (fun _ _=>rfl)) (pv 3) ⟨rfl,rfl,rfl,rfl⟩))) aR)
   (aq (aJ (i:=3) gO.nd rfl (by first | exact Or.inl rfl | exact Or.inr rfl) (pv 4))))))))),?_⟩
  dsimp only [dN]
  walk_at "rd"
  have RW:(b,false)∈cT.map Prod.fst:=by obtain ⟨o,h⟩:=hb; exact List.mem_map.mpr ⟨_,h,rfl⟩
  refine iU (fun σ H1=>∃ (x:af) (c:Addr) (f':Fw.Flow) (jF:af→List af) (v4:Option V),σ = [some (.ref wy),some (.ref t),some (.ref gp),some (.ref c),v4]∧(∀ c o,(∀ d:af,d.1 < n→c≠g d)→H c = some o→H1 c = some o)∧H1 c = some (.tup ((kd x).map kV))∧cF H1 wy n (Res TT f') au g jF∧nG H1 t cT r∧Go n TT a b f cT x f')
   (fun σ H1=>xD cT (σ.getD 3 none) H1) ⟨(b,false),gp,f,ks,none,rfl,fun c o _ h=>h,O0,W,Ah,Go.start F hb⟩ ?_
  rintro σ H1 ⟨x,c,f',jF,v4,rfl,k1,c1,W1,A1,G1⟩
  obtain ⟨o,ho⟩:=G1.xk
  have xk:x∈cT.map Prod.fst:=List.mem_map.mpr ⟨_,ho,rfl⟩
  have xn:x.1 < n:=fn.rg x xk
  have av:=A1.val x o ho
  walk_at "rd"
  refine fu ?_
  refine ⟨_,rfl,_,rfl,t,_,rfl,A1.get c1 xk,?_⟩
  cases o with
  | none=>
   have av:r x = V.bY:=av
   rw [av]
   walk_at "rd"
   refine dG (fun h=>absurd rfl h) (fun _=>?_)
   exact q f' jF H1 k1 W1 (G1.done F fn ho)
  | some p=>
   obtain ⟨cp,ev,hp⟩:=av
   obtain ⟨FN,_,op,OH⟩:=fn.up ho
   have pk:p∈cT.map Prod.fst:=List.mem_map.mpr ⟨_,OH,rfl⟩
   have pn:p.1 < n:=fn.rg p pk
   have r0:=G1.open F N fn ho
   have G2:=G1.step F N fn ho
   rw [ev]
   walk_at "rd"
   refine dG (fun _=>?_) (fun h=>by cases h)
   refine w_turn ?_
   walk_at "rd"
   refine fu ?_
   refine ⟨_,rfl,_,rfl,t,_,rfl,A1.get c1 xk,?_⟩
   rw [ev]
   walk_at "rd"
   refine fu ?_
   refine ⟨_,rfl,_,rfl,wy,_,rfl,W1.get c1 xn,?_⟩
   walk_at "rd"
   refine ⟨g x,_,rfl,iJ.t (k:=kd p) (W1.row x xn) hp (by rw [eW]; have:=W1.len xn; exact az (by omega)),?_⟩
   obtain ⟨lx,ex,nx,mx⟩:∃ lx:List af,putK (kR (jF x) fun _=>V.bl true) (kd p) (V.bl true) = kR lx (fun _=>V.bl true)∧lx.Nodup∧∀ e,e∈lx↔e∈jF x∨e = p:=by
    by_cases h:p∈jF x
    ·exact ⟨jF x,jG h,W1.nd x xn,fun e=>⟨.inl,fun z=>z.elim id fun z=>z▸h⟩⟩
    ·refine ⟨jF x ++ [p],jH h,?_,fun e=>by simp⟩
     refine List.nodup_append.mpr ⟨W1.nd x xn,by simp,fun d hd d' rQ z=>h ?_⟩
     rw [← List.mem_singleton.mp rQ,← z]; exact hd
   rw [ex]
   have xZ:=dA (.dT (kR lx fun _=>V.bl true)) (W1.row x xn) (fun xs z=>by cases z)
   have c2:=xZ _ _ c1
   have p2:=xZ _ _ hp
   have g2:upd H1 (g x) (.dT (kR lx fun _=>V.bl true)) (g x) = some (.dT (kR lx fun _=>V.bl true)):=ae
   have o2:∀ b,b≠g x→upd H1 (g x) (.dT (kR lx fun _=>V.bl true)) b = H1 b:=fun b nb=>ak nb
   have a2:=A1.keep (H':=upd H1 (g x) (.dT (kR lx fun _=>V.bl true))) (ak (off x xn).symm) xZ
   have px:p≠x:=fun z=>by rw [z] at r0; exact r0.yf rfl
   have Lb:g p≠g x:=fun z=>px (W1.inj _ _ pn xn z)
   have Av:upd H1 (g x) (.dT (kR lx fun _=>V.bl true)) (g p) = some (.dT (kR (jF p) fun _=>V.bl true)):=(ak Lb).trans (W1.row p pn)
   have t2:upd H1 (g x) (.dT (kR lx fun _=>V.bl true)) wy = some (.dT au):=(ak (W1.off x xn).symm).trans W1.top
   generalize upd H1 (g x) (.dT (kR lx fun _=>V.bl true)) = H2 at xZ c2 p2 g2 o2 a2 Av t2 ⊢
   have pd:∃ s:Int,(kd p).map kV = [.int (p.1:Int),.int s]∧(s = 0↔p.2 = false):=by
    obtain ⟨u,s⟩:=p
    cases s
    ·exact ⟨0,rfl,by simp⟩
    ·exact ⟨1,rfl,by simp⟩
   have xd:∃ s:Int,(kd x).map kV = [.int (x.1:Int),.int s]:=by
    obtain ⟨u,s⟩:=x
    cases s
    ·exact ⟨0,rfl⟩
    ·exact ⟨1,rfl⟩
   obtain ⟨sp,ep,R3⟩:=pd
   obtain ⟨sx,RY⟩:=xd
   have pop:p.1 = x.1∨p.2 = false→∀ R:VK,(∀ (v:V) (H':Hp) (mQ:af→List af),(∀ c o,(∀ d:af,d.1 < n→c≠g d)→H c = some o→H' c = some o)→H' cp = some (.tup ((kd p).map kV))→cF H' wy n (Res TT (f'.push p x)) au g mQ→nG H' t cT r→R v H')→ue (uf (jg 0) (jg 4)) (jg 3) [some (.ref wy),some (.ref t),some (.ref gp),some (.ref c),some (.ref cp)] H2 R:=by
    intro cond R hR
    have xp:x∈jF p:=(W1.mem p x pn).mpr r0
    obtain ⟨j,hj⟩:=List.mem_iff_getElem?.mp xp
    refine fu ?_
    have dg:=cW.t (k:=kd p) t2 p2
    rw [W1.val p pn] at dg
    refine ⟨_,rfl,_,rfl,wy,_,rfl,dg,g p,rfl,.inr ⟨_,.inl Av⟩,_,rfl,_,j,kd x,.bl true,c,Av,rfl,c2,Ct hj,?_⟩
    rw [xh]
    have tP:=dA (.dT (kR ((jF p).eraseIdx j) fun _=>V.bl true)) Av (fun xs z=>by cases z)
    refine hR _ _ _ (fun c o hc ho=>?_) (tP _ _ p2) (W1.push pn xn N.sym N.tQ G1.gJ r0 lx ((jF p).eraseIdx j) nx mx ((W1.nd p pn).sublist (List.eraseIdx_sublist _ _)) (fun e=>?_) ((ak Lb.symm).trans g2) ae (fun b n1 n2=>(ak n2).trans (o2 b n1))) (a2.keep (ak (off p pn).symm) tP)
    ·rw [ak (hc p pn),o2 c (hc x xn)]; exact k1 c o hc ho
    ·rw [u4 (W1.nd p pn) hj]
     exact ⟨fun z=>⟨z.1,fun y=>absurd y z.2⟩,fun z=>⟨z.1,fun y=>z.2 y cond⟩⟩
   have keep:¬ (p.1 = x.1∨p.2 = false)→∃ (mQ:af→List af),(∀ c o,(∀ d:af,d.1 < n→c≠g d)→H c = some o→H2 c = some o)∧H2 cp = some (.tup ((kd p).map kV))∧cF H2 wy n (Res TT (f'.push p x)) au g mQ∧nG H2 t cT r:=by
    intro cond
    refine ⟨_,fun c o hc ho=>?_,p2,W1.push pn xn N.sym N.tQ G1.gJ r0 lx (jF p) nx mx (W1.nd p pn) (fun e=>⟨fun z=>⟨z,fun _=>cond⟩,fun z=>z.1⟩) g2 Av (fun b n1 _=>o2 b n1),a2⟩
    rw [o2 c (hc x xn)]; exact k1 c o hc ho
   walk_at "rd"
   refine ⟨rfl,_,rfl,if2 (fun h1=>?_) (fun h1=>?_)⟩
   ·have h1:p.1 = x.1:=by injection h1 with h1; omega
    rw [if_pos rfl]
    refine pop (.inl h1) _ fun v H' mQ k3 c3 W3 A3=>?_
    walk_at "rd"
    refine ⟨⟨p,cp,_,mQ,_,rfl,k3,c3,W3,A3,G2⟩,?_⟩
    show xD cT (some (V.ref cp)) _ < xD cT (some (V.ref c)) H1
    rw [iC c3,iC c1]
    exact FN
   ·have h1:¬ p.1 = x.1:=fun z=>h1 (by rw [z])
    walk_at "rd"
    refine ⟨rfl,_,rfl,?_⟩
    refine if2 (fun h2=>?_) (fun h2=>?_)
    ·have h2:p.2 = false:=by
      obtain ⟨u,s⟩:=p
      cases s
      ·rfl
      ·injection h2 with h2; simp at h2
     refine pop (.inr h2) _ fun v H' mQ k3 c3 W3 A3=>?_
     walk_at "rd"
     refine ⟨⟨p,cp,_,mQ,_,rfl,k3,c3,W3,A3,G2⟩,?_⟩
     show xD cT (some (V.ref cp)) _ < xD cT (some (V.ref c)) H1
     rw [iC c3,iC c1]
     exact FN
    ·have h2:¬ p.2 = false:=fun z=>h2 (by
      obtain ⟨u,s⟩:=p
      cases s
      ·rfl
      ·cases z)
     obtain ⟨mQ,k3,c3,W3,A3⟩:=keep (fun z=>z.elim h1 h2)
     walk_at "rd"
     refine ⟨⟨p,cp,_,mQ,_,rfl,k3,c3,W3,A3,G2⟩,?_⟩
     show xD cT (some (V.ref cp)) _ < xD cT (some (V.ref c)) H1
     rw [iC c3,iC c1]
     exact FN
theorem pB:aZ ["orders", "ways", "place"] ["orders", "ways", "place"] (aw cM):=⟨rfl,rfl,rfl,by decide +kernel,rfl,by decide +kernel,by decide +kernel⟩
theorem pX (D:Def K mg "gone_on" cM ["orders", "ways", "place"]) (T:Txt K mg Z):dE P w K mg base (cQ P w) "gone_on" 1 ["orders", "ways", "place"] ig:=by
 refine D.dY pB (fun vs H Q E h=>?_) (fun fa dv A outer s H vs Q E hr h=>?_)
 ·obtain ⟨p,wy,as,L,TT,f,au,g,ks,x,l,rfl,_⟩:=h; rfl
 ·obtain ⟨p,wy,as,L,TT,f,au,g,ks,i,r,rfl,gr,im,hn,W,rM,q⟩:=h
  refine ⟨_,(aq (aX (fX (tg:=["neighbour"]) (fr:=[("place",2),("ways",1)]) (by walk_at "blk_ok") rfl (cg (aL aA (pv 0) (pv 2) (fun _ _=>rfl))) (fun _ _ _ _ _=>(aP (i:=0) (show [("neighbour" : Str),("place" : Str),("ways" : Str)].Nodup by decide +kernel) rfl (by first | exact Or.inl rfl | exact Or.inr rfl))) (fun _ _ _ _ _=>(fz (fv (uN (b8 hr) (bN (aa (pv 1) (aa (bD rfl T.g_OUT) ag))) (dS (b8 hr) (pv 2) (bN (aa (pv 0) (aa (bD rfl T.g_IN) ag))) (fun _ _=>rfl)))))) (fun _ _ _ _ _=>(pv 0))))),?_⟩
  try dsimp only [dN]
  have hi:i < L.length:=(List.getElem?_eq_some_iff.mp rM).1
  obtain ⟨b,r',ha,yC,dM⟩:=gr.at (i:=i) hi
  rw [rM] at yC
  injection yC with yC
  subst yC
  have rl:=qM im rM
  walk_at "rd"
  refine eN ?_
  refine ⟨_,rfl,_,rfl,aQ (aG.of gr.top) (gr.ix ha) ⟨b,rfl,⟨_,aG.of dM⟩,fun acc bR=>?_⟩⟩
  refine cU (K:=K) (a:=b) (xs:=r.map V.int) (fun j σ' ys H3=>∃ w:Option V,σ' = [w,some (.int (i:Int)),some (.ref wy)]∧ys = ((r.take j).filter fun v=>f.F i v.toNat).map V.int∧aj H H3∧H3 acc = some (.lst ys))
   ⟨none,rfl,rfl,aj.upd bR,ae⟩ (fun j σ' ys H3 _ ⟨_,_,_,e,_⟩=>aG.of (e _ _ dM)) ?_ ?_
  ·rintro j x σ' ys H3 hx hj ⟨w,rfl,rfl,e3,a3⟩
   obtain ⟨y,hy,rfl⟩:∃ y,r[j]? = some y∧x = V.int y:=by
    rw [List.getElem?_map] at hx
    cases e:r[j]? with
    | none=>rw [e] at hx; cases hx
    | some z=>rw [e] at hx; exact ⟨z,rfl,(Option.some.inj hx).symm⟩
   have yr:=im.rg i r rM y (List.mem_of_getElem? hy)
   obtain ⟨yn,rfl⟩:=Int.eq_ofNat_of_zero_le yr.1
   have jl:=hj
   rw [List.length_map] at jl
   have fl:((r.take j).filter fun v=>f.F i v.toNat).length≤j:=Nat.le_trans (List.length_filter_le _ _) (by rw [List.length_take]; omega)
   walk_at "rd"
   intro q1 xr
   have E3:((yn,false):af).1 < L.length:=by have:=yr.2.1; show yn < _; omega
   have e4:aj H3 (upd H3 q1 (.tup [.int i,.int 1])):=aj.upd xr
   have k4:upd H3 q1 (.tup [.int i,.int 1]) q1 = some (.tup ((kd (i,true)).map kV)):=ae
   generalize upd H3 q1 (.tup [.int i,.int 1]) = H4 at e4 k4 ⊢
   refine fu (r_var rfl ?_)
   walk_at "rd"
   intro q2 yD
   have e5:aj H4 (upd H4 q2 (.tup [.int (yn:Int),.int 0])):=aj.upd yD
   have k5:upd H4 q2 (.tup [.int (yn:Int),.int 0]) q2 = some (.tup ((kd (yn,false)).map kV)):=ae
   generalize upd H4 q2 (.tup [.int (yn:Int),.int 0]) = H5 at e5 k5 ⊢
   have W5:=W.same ((e3.trans e4).trans e5)
   have eH:=(e3.trans e4).trans e5
   have a5:=e5 _ _ (e4 _ _ a3)
   refine ⟨wy,_,rfl,W5.get k5 E3,?_⟩
   refine ⟨_,_,rfl,cW.t (k:=kd (i,true)) (W5.row _ E3) (e5 _ _ k4),?_⟩
   rw [jJ]
   have key:((i,true):af)∈ks (yn,false)↔f.F i ((yn:Int)).toNat = true:=by
    rw [W.mem _ _ E3,cx,Int.toNat_natCast]
    exact ⟨fun z=>z.resolve_left fun y=>yr.2.2 (by rw [y.1]),.inr⟩
   refine ⟨_,rfl,if2 (fun hk=>?_) (fun hk=>?_)⟩
   ·walk_at "rd"
    refine ⟨a5,by rw [List.length_map]; exact az (by omega),dH hj ⟨_,rfl,?_,aj.fresh eH bR,ae⟩⟩
    rw [lB hy,if_pos (key.mp hk),List.map_append]
    rfl
   ·refine dH hj ⟨_,rfl,?_,eH,a5⟩
    rw [lB hy,if_neg (fun z=>hk (key.mpr z)),List.append_nil]
  ·rintro σ' ys H3 ⟨w,rfl,rfl,e3,a3⟩
   rw [List.length_map,List.take_length] at a3
   walk_at "rd"
   exact q acc H3 e3 bR a3
theorem dC:aZ ["orders", "one", "other", "ways", "place", "tie"] ["orders", "one", "other"] (aw bS):=⟨rfl,rfl,rfl,by decide +kernel,rfl,by decide +kernel,by decide +kernel⟩
theorem mH (D:Def K mg "open_ways" bS ["orders", "one", "other"]) (T:Txt K mg Z) (Au:dE P w K mg base (cQ P w) "ties" 1 ["orders"] qD):dE P w K mg base (cQ P w) "open_ways" 2 ["orders", "one", "other"] qF:=by
 refine D.dY dC (fun vs H Q E h=>?_) (fun fa dv A outer s H vs Q E hr h=>?_)
 ·obtain ⟨p,as,L,a,b,rfl,_⟩:=h; rfl
 ·obtain ⟨p,as,L,a,b,rfl,gr,im,hn,ha,hb,nF,q⟩:=h
  refine ⟨_,(ah (aJ (i:=3) dC.nd rfl (by first | exact Or.inl rfl | exact Or.inr rfl) jy)
   (ah (bV PassesOwn.never rfl (bA rfl T.range (aa (ax aH (by rfl) T.len aU (aa (pv 0) ag)) ag)) (aP (i:=4) dC.nd rfl (by first | exact Or.inl rfl | exact Or.inr rfl))
   (ah (eQ (b8 hr) (pv 3) (bN (aa (pv 4) (aa (bD rfl T.g_IN) ag))) (n6 (je hr) (bN (aa (pv 4) (aa (bD rfl T.g_OUT) ag))) cZ) rfl)
   (aq (eQ (b8 hr) (pv 3) (bN (aa (pv 4) (aa (bD rfl T.g_OUT) ag))) jy rfl))))
   (ah (bV PassesOwn.never rfl (cg (aN Au hr bP (aa (pv 0) ag))) (aP (i:=5) dC.nd rfl (by first | exact Or.inl rfl | exact Or.inr rfl))
   (aq (bC (aB (zI (je hr)) (pv 5) (bN (aa (ax (iD rfl) (by rfl) T.min qj (aa (pv 1) (aa (pv 2) ag))) (aa (ax (lK rfl) (by rfl) T.max vH (aa (pv 1) (aa (pv 2) ag))) ag))) (aT _)) (ah (eQ (b8 hr) (dS (b8 hr) (pv 3) (bN (aa (aL dh (pv 5) ao (fun _ _=>rfl)) (aa (bD rfl T.g_OUT) ag))) (fun _ _=>rfl)) (bN (aa (aL dh (pv 5) ao (fun _ _=>rfl)) (aa (bD rfl T.g_IN) ag))) cZ rfl)
   (aq (eQ (b8 hr) (dS (b8 hr) (pv 3) (bN (aa (aL dh (pv 5) ao (fun _ _=>rfl)) (aa (bD rfl T.g_OUT) ag))) (fun _ _=>rfl)) (bN (aa (aL dh (pv 5) ao (fun _ _=>rfl)) (aa (bD rfl T.g_IN) ag))) cZ rfl))) aR)))
   (aq (aX (pv 3)))))),?_⟩
  dsimp only [dN]
  walk_at "rd"
  intro wy Eo
  walk_at "rd"
  refine cN ?_
  have e0:aj H (upd H wy (.dT [])):=aj.upd Eo
  have W0:cF (upd H wy (.dT [])) wy 0 N0 (kR [] fun _=>V.ref 0) (fun _=>0) (fun _=>[]):=⟨ae,fun d h=>absurd h (Nat.not_lt_zero _),fun d h=>absurd h (Nat.not_lt_zero _),fun d h=>absurd h (Nat.not_lt_zero _),fun d e h=>absurd h (Nat.not_lt_zero _),fun d e h=>absurd h (Nat.not_lt_zero _),fun d e h=>absurd h (Nat.not_lt_zero _),fun d h=>absurd h (Nat.not_lt_zero _)⟩
  generalize upd H wy (.dT []) = H0 at e0 W0 ⊢
  refine ⟨_,rfl,_,_,rfl,.inl ⟨_,aG.of (e0 _ _ gr.top),rfl⟩,(L.length:Int),by rw [List.length_map,gr.len],by omega,by omega,?_⟩
  rw [Int.toNat_natCast]
  refine bB (fun i σ H1=>∃ (dl:List af) (g:af→Addr) (ks:af→List af) (v4 v5:Option V),σ = [some (.ref p),some (.int (a:Int)),some (.int (b:Int)),some (.ref wy),v4,v5]∧aj H H1∧(∀ d,d∈dl↔d.1 < i)∧dl.length = 2 * i∧cF H1 wy i N0 (kR dl fun d=>V.ref (g d)) g ks∧∀ d:af,d.1 < i→H (g d) = none)
   ⟨[],fun _=>0,fun _=>[],none,none,rfl,e0,by simp,rfl,W0,fun d h=>absurd h (Nat.not_lt_zero _)⟩ ?_ ?_
  ·rintro i σ H1 hi ⟨dl,g,ks,v4,v5,rfl,e1,vY,ll,W1,jR⟩
   simp only [Int.zero_add]
   walk_at "rd"
   refine qT fun p1 rN=>?_
   walk_at "rd"
   intro q1 xr
   walk_at "rd"
   have Gf:p1≠q1:=fun z=>by rw [← z,ae] at xr; cases xr
   refine ⟨(ak Gf).trans ae,q1,kd (i,true),.bl true,rfl,ae,?_⟩
   have e2:aj H1 (upd (upd (upd H1 p1 (.dT [])) q1 (.tup [.int (i:Int),.int 1])) p1 (.dT [(kd (i,true),V.bl true)])):=aj.fresh ((aj.upd rN).trans (aj.upd xr)) rN
   have d2:upd (upd (upd H1 p1 (.dT [])) q1 (.tup [.int (i:Int),.int 1])) p1 (.dT [(kd (i,true),V.bl true)]) p1 = some (.dT (kR [(i,true)] fun _=>V.bl true)):=ae
   generalize upd (upd (upd H1 p1 (.dT [])) q1 (.tup [.int (i:Int),.int 1])) p1 (.dT [(kd (i,true),V.bl true)]) = H2 at e2 d2 ⊢
   walk_at "rd"
   intro q2 yD
   have e3:aj H2 (upd H2 q2 (.tup [.int (i:Int),.int 0])):=aj.upd yD
   have k3:upd H2 q2 (.tup [.int (i:Int),.int 0]) q2 = some (.tup ((kd (i,false)).map kV)):=ae
   generalize upd H2 q2 (.tup [.int (i:Int),.int 0]) = H3 at e3 k3 ⊢
   have t3:=e3 _ _ (e2 _ _ W1.top)
   have lk:(kR dl fun d=>V.ref (g d)).length < sizeLine:=by rw [eW,ll]; exact az (by omega)
   refine ⟨wy,_,rfl,iJ.t (k:=kd (i,false)) t3 k3 lk,?_⟩
   have w1:p1≠wy:=fun z=>by rw [z,W1.top] at rN; cases rN
   have o4:∀ b,b≠wy→upd H3 wy (.dT (putK (kR dl fun d=>V.ref (g d)) (kd (i,false)) (V.ref p1))) b = H3 b:=fun b nb=>ak nb
   have t4:upd H3 wy (.dT (putK (kR dl fun d=>V.ref (g d)) (kd (i,false)) (V.ref p1))) wy = some (.dT (putK (kR dl fun d=>V.ref (g d)) (kd (i,false)) (V.ref p1))):=ae
   generalize upd H3 wy (.dT (putK (kR dl fun d=>V.ref (g d)) (kd (i,false)) (V.ref p1))) = H4 at o4 t4 ⊢
   walk_at "rd"
   intro p2 sS
   have e5:aj H4 (upd H4 p2 (.dT [])):=aj.upd sS
   have d5:upd H4 p2 (.dT []) p2 = some (.dT (kR [] fun _=>V.bl true)):=ae
   generalize upd H4 p2 (.dT []) = H5 at e5 d5 ⊢
   walk_at "rd"
   intro q3 HB
   have e6:aj H5 (upd H5 q3 (.tup [.int (i:Int),.int 1])):=aj.upd HB
   have k6:upd H5 q3 (.tup [.int (i:Int),.int 1]) q3 = some (.tup ((kd (i,true)).map kV)):=ae
   generalize upd H5 q3 (.tup [.int (i:Int),.int 1]) = H6 at e6 k6 ⊢
   have t6:=e6 _ _ (e5 _ _ t4)
   have n1:((i,false):af)∉dl:=fun z=>by have:=(vY _).mp z; exact absurd this (Nat.lt_irrefl _)
   refine ⟨wy,_,rfl,iJ.t (k:=kd (i,true)) t6 k6 (by rw [jI n1,eW,List.length_append,ll]; exact az (by simp; omega)),?_⟩
   have w2:p2≠wy:=fun z=>by rw [z,t4] at sS; cases sS
   have h0:∀ b,b≠wy→∀ o,H1 b = some o→upd H6 wy (.dT (putK (putK (kR dl fun d=>V.ref (g d)) (kd (i,false)) (V.ref p1)) (kd (i,true)) (V.ref p2))) b = some o:=fun b nb o hb=>by
    rw [ak nb]
    exact e6 _ _ (e5 _ _ ((o4 b nb).trans (e3 _ _ (e2 _ _ hb))))
   have Gg:p1≠p2:=fun z=>by rw [← z,o4 p1 w1,e3 _ _ d2] at sS; cases sS
   have f2:H1 p2 = none:=by
    cases h:H1 p2 with
    | none=>rfl
    | some o=>rw [o4 p2 w2,e3 _ _ (e2 _ _ h)] at sS; cases sS
   obtain ⟨C6,g',jF,HW,RB,W7,nw⟩:=W1.lay vY h0 rN f2 Gg (by rw [ak w1]; exact e6 _ _ (e5 _ _ ((o4 p1 w1).trans (e3 _ _ d2)))) (by rw [ak w2]; exact e6 _ _ d5) ae
   refine ⟨C6,g',jF,_,_,rfl,fun b o hb=>h0 b (fun z=>by rw [z,Eo] at hb; cases hb) o (e1 _ _ hb),HW,by omega,W7,fun d hd=>?_⟩
   rcases nw d hd with z | z | ⟨z1,z2⟩
   ·rw [z]; exact e1.free rN
   ·rw [z]; exact e1.free f2
   ·rw [z2]; exact jR d z1
  ·rintro σ H1 ⟨dl,g,ks,v4,v5,rfl,e1,vY,ll,W1,jR⟩
   walk_at "rd"
   refine cN ?_
   refine ⟨_,rfl,?_⟩
   refine ⟨p,as,L,rfl,gr.same e1,hn,im,fun t ps H2 e2 ht tt pr=>?_⟩
   refine ⟨t,rfl,⟨_,aG.of tt⟩,fM (K:=K) (a:=t) (xs:=ps.map V.ref) (fun k σ H3=>∃ (ks:af→List af) (v5:Option V),σ = [some (.ref p),some (.int (a:Int)),some (.int (b:Int)),some (.ref wy),v4,v5]∧aj H H3∧H3 t = some (.lst (ps.map V.ref))∧(∀ c xs,H2 c = some (.tup xs)→H3 c = some (.tup xs))∧cF H3 wy L.length (Nk (dq L L.length) a b k) (kR dl fun d=>V.ref (g d)) g ks)
    ⟨ks,v5,rfl,e1.trans e2,tt,fun _ _ h=>h,(W1.same e2).congr fun d e _=>xR d e⟩ (fun k σ H3 _ ⟨_,_,_,_,z,_⟩=>aG.of z) ?_ ?_⟩
   ·rintro k x σ H3 hx ⟨ks,v5,rfl,e3,t3,tP,W3⟩
    obtain ⟨c,hc,rfl⟩:∃ c,ps[k]? = some c∧x = V.ref c:=by
     rw [List.getElem?_map] at hx
     cases e:ps[k]? with
     | none=>rw [e] at hx; cases hx
     | some z=>rw [e] at hx; exact ⟨z,rfl,(Option.some.inj hx).symm⟩
    obtain ⟨⟨u,v⟩,hT,Ez⟩:=Gm.PR.at pr hc
    have hm:=(dc (Nat.le_refl _)).mp (List.mem_of_getElem? hT)
    dsimp only at hm Ez
    obtain ⟨u,rfl⟩:=Int.eq_ofNat_of_zero_le hm.1
    obtain ⟨v,rfl⟩:=Int.eq_ofNat_of_zero_le (show 0≤v by omega)
    have un:∀ {s:Bool},((u,s):af).1 < L.length:=by intro s; show u < _; omega
    have vn:∀ {s:Bool},((v,s):af).1 < L.length:=by intro s; show v < _; omega
    have c3:=tP _ _ Ez
    walk_at "rd"
    refine ⟨_,_,rfl,?_⟩
    walk_at "rd"
    refine ⟨_,_,rfl,?_⟩
    walk_at "rd"
    intro q0 KI
    refine B2 (SqT.of (aj.upd KI _ _ c3)) (SqT.of ae) ?_
    have e4:aj H3 (upd H3 q0 (.tup [.int (if (b:Int) < a then b else a),.int (if (b:Int) > a then b else a)])):=aj.upd KI
    generalize upd H3 q0 (.tup [.int (if (b:Int) < a then b else a),.int (if (b:Int) > a then b else a)]) = H4 at e4 ⊢
    have c4:=e4 _ _ c3
    have W4:=W3.same e4
    have gt:∀ d:af,d.1 < L.length→g d≠t:=fun d hd z=>by have:=W3.row d hd; rw [z,t3] at this; cases this
    walk_at "rd"
    refine dG (fun hJ=>?_) (fun he=>?_)
    ·have ex:¬ ((u = a∧v = b)∨(u = b∧v = a)):=fun z=>hJ (by constructor <;> split <;> omega)
     walk_at "rd"
     refine fu (r_var rfl ?_)
     walk_at "rd"
     intro Eb Hw
     have AB:aj H4 (upd H4 Eb (.tup [.int (u:Int),.int 1])):=aj.upd Hw
     have Kw:upd H4 Eb (.tup [.int (u:Int),.int 1]) Eb = some (.tup ((kd (u,true)).map kV)):=ae
     generalize upd H4 Eb (.tup [.int (u:Int),.int 1]) = Ax at AB Kw ⊢
     have Qk:=AB _ _ c4
     refine ⟨wy,_,rfl,(W4.same AB).get Kw un,?_⟩
     walk_at "rd"
     intro Ea Hv
     have Bp:aj Ax (upd Ax Ea (.tup [.int (v:Int),.int 0])):=aj.upd Hv
     have Ku:upd Ax Ea (.tup [.int (v:Int),.int 0]) Ea = some (.tup ((kd (v,false)).map kV)):=ae
     generalize upd Ax Ea (.tup [.int (v:Int),.int 0]) = Bx at Bp Ku ⊢
     have EU:=(W4.same AB).same Bp
     have RD:=EU.len (d:=(u,true)) un
     refine ⟨_,_,rfl,iJ.t (k:=kd (v,false)) (EU.row _ un) Ku (by rw [eW]; exact az (by omega)),?_⟩
     obtain ⟨NW,Jv⟩:=EU.put un (p:=(v,false)) vn
     have JG:=dA (.dT (putK (kR (ks (u,true)) fun _=>V.bl true) (kd (v,false)) (V.bl true))) (EU.row (u,true) un) (fun xs z=>by cases z)
     have cX:=JG _ _ (Bp _ _ Qk)
     have tX:upd Bx (g (u,true)) (.dT (putK (kR (ks (u,true)) fun _=>V.bl true) (kd (v,false)) (V.bl true))) t = some (.lst (ps.map V.ref)):=(ak (gt _ un).symm).trans (Bp _ _ (AB _ _ (e4 _ _ t3)))
     have oX:aj H (upd Bx (g (u,true)) (.dT (putK (kR (ks (u,true)) fun _=>V.bl true) (kd (v,false)) (V.bl true)))):=fun b o hb=>by
      rw [ak (fun z=>by rw [z,jR _ un] at hb; cases hb)]
      exact Bp _ _ (AB _ _ (e4 _ _ (e3 _ _ hb)))
     have JI:∀ c xs,H2 c = some (.tup xs)→upd Bx (g (u,true)) (.dT (putK (kR (ks (u,true)) fun _=>V.bl true) (kd (v,false)) (V.bl true))) c = some (.tup xs):=fun c xs h=>JG _ _ (Bp _ _ (AB _ _ (e4 _ _ (tP c xs h))))
     generalize upd Bx (g (u,true)) (.dT (putK (kR (ks (u,true)) fun _=>V.bl true) (kd (v,false)) (V.bl true))) = HX at Jv cX tX oX JI ⊢
     walk_at "rd"
     refine fu (r_var rfl ?_)
     walk_at "rd"
     intro DZ Hu
     have AA:aj HX (upd HX DZ (.tup [.int (v:Int),.int 1])):=aj.upd Hu
     have Kv:upd HX DZ (.tup [.int (v:Int),.int 1]) DZ = some (.tup ((kd (v,true)).map kV)):=ae
     generalize upd HX DZ (.tup [.int (v:Int),.int 1]) = Ay at AA Kv ⊢
     have R8:=AA _ _ cX
     refine ⟨wy,_,rfl,(Jv.same AA).get Kv vn,?_⟩
     walk_at "rd"
     intro DY Ht
     have C2:aj Ay (upd Ay DY (.tup [.int (u:Int),.int 0])):=aj.upd Ht
     have Kt:upd Ay DY (.tup [.int (u:Int),.int 0]) DY = some (.tup ((kd (u,false)).map kV)):=ae
     generalize upd Ay DY (.tup [.int (u:Int),.int 0]) = By at C2 Kt ⊢
     have ET:=(Jv.same AA).same C2
     have RC:=ET.len (d:=(v,true)) vn
     refine ⟨_,_,rfl,iJ.t (k:=kd (u,false)) (ET.row _ vn) Kt (by rw [eW]; exact az (by omega)),?_⟩
     obtain ⟨NV,Qz⟩:=ET.put vn (p:=(u,false)) un
     have LV:=dA (.dT (putK (kR (NW (v,true)) fun _=>V.bl true) (kd (u,false)) (V.bl true))) (ET.row (v,true) vn) (fun xs z=>by cases z)
     refine ⟨NV,_,rfl,fun b o hb=>?_,(ak (gt _ vn).symm).trans (C2 _ _ (AA _ _ tX)),fun c xs h=>LV _ _ (C2 _ _ (AA _ _ (JI c xs h))),Qz.congr fun d e _=>A2 hT ex d e⟩
     rw [ak (fun z=>by rw [z,jR _ vn] at hb; cases hb)]
     exact C2 _ _ (AA _ _ (oX _ _ hb))
    ·have ex:(u = a∧v = b)∨(u = b∧v = a):=by obtain ⟨h1,h2⟩:=he; split at h1 <;> split at h2 <;> omega
     exact ⟨ks,_,rfl,e3.trans e4,e4 _ _ t3,fun c xs h=>e4 _ _ (tP c xs h),W4.congr fun d e _=>xS hT ex d e⟩
   ·rintro σ H3 ⟨ks,v5,rfl,e3,t3,tP,W3⟩
    rw [List.length_map,PR.len pr] at W3
    walk_at "rd"
    exact q wy _ g ks H3 e3 Eo jR (W3.congr fun d e hd=>AZ im d e hd)
theorem d7:aZ ["orders", "one", "other", "found", "ways", "number", "ahead", "places"] ["orders", "one", "other"] (aw dP):=⟨rfl,rfl,rfl,by decide +kernel,rfl,by decide +kernel,by decide +kernel⟩
theorem uO (D:Def K mg "roads" dP ["orders", "one", "other"]) (T:Txt K mg Z) (oF:dE P w K mg base (cQ P w) "open_ways" 2 ["orders", "one", "other"] qF) (mV:dE P w K mg base (cQ P w) "doors_from" 1 ["ways", "start"] nO) (xA:dE P w K mg base (cQ P w) "go_to" 1 ["ways", "ahead", "goal"] qG) (iA:dE P w K mg base (cQ P w) "gone_on" 1 ["orders", "ways", "place"] ig) (sW:dE P w K mg base (cQ P w) "road_by" 2 ["orders", "ways", "start", "goal"] kO):dE P w K mg base (cQ P w) "roads" 3 ["orders", "one", "other"] nK:=by
 refine D.dY d7 (fun vs H Q E h=>?_) (fun fa dv A outer s H vs Q E hr h=>?_)
 ·obtain ⟨p,as,L,a,b,l,rfl,_⟩:=h; rfl
 ·obtain ⟨p,as,L,a,b,l,rfl,gr,im,hn,hl,hb,nF,qr,qp⟩:=h
  refine ⟨_,(ah (aJ (i:=3) d7.nd rfl (by first | exact Or.inl rfl | exact Or.inr rfl) (cv ag))
   (ah (bC (aB cR (pv 2) (aL aA (pv 0) (pv 1) (fun _ _=>rfl)) (by with_unfolding_all rfl)) (aq (bu (cE PySem.F.plainAttrs_list PySem.F.slot_list_append PySem.F.type_list_append cO (pv 3) (aa (cv (aa (pv 1) (aa (pv 2) ag))) ag)))) aR)
   (ah (aJ (i:=4) d7.nd rfl (by first | exact Or.inl rfl | exact Or.inr rfl) (aN oF hr bP (aa (pv 0) (aa (pv 1) (aa (pv 2) ag)))))
   (ah (bV PassesOwn.never rfl (sI rfl T.range (aa (ax aH (by rfl) T.len aU (aa (pv 3) ag)) (aa ao ag))) (aP (i:=5) d7.nd rfl (by first | exact Or.inl rfl | exact Or.inr rfl))
   (ah (aJ (i:=6) d7.nd rfl (by first | exact Or.inl rfl | exact Or.inr rfl) (aN mV hr bP (aa (pv 4) (aa (bN (aa (pv 1) (aa (bD rfl T.g_OUT) ag))) ag))))
   (ah (bC (fv (d9 (b8 hr) (bN (aa (pv 2) (aa (bD rfl T.g_IN) ag))) (pv 6))) (ah (iX (i:=7) d7.nd rfl (by first | exact Or.inl rfl | exact Or.inr rfl) (tg:=["place"]) (fr:=[("ahead",6)]) (by walk_at "blk_ok") rfl (bA rfl T.range (aa (ax aH (by rfl) T.len aU (aa (pv 0) ag)) ag)) (fun _ _ _ _ _=>(aP (i:=0) (show [("place" : Str),("ahead" : Str)].Nodup by decide +kernel) rfl (by first | exact Or.inl rfl | exact Or.inr rfl))) (fun _ _ _ _ _=>(fz (PW.pt (pw_and (fv (uN (b8 hr) (bN (aa (pv 0) (aa (bD rfl T.g_IN) ag))) (pv 1))) (pw_and1 (fv (d9 (b8 hr) (bN (aa (pv 0) (aa (bD rfl T.g_OUT) ag))) (pv 1)))))))) (fun _ _ _ _ _=>(pv 0)))
   (aq (aX (bN (aa mF (aa (pv 7) ag)))))) aR)
   (aq (bu (aN xA hr bP (aa (pv 4) (aa (pv 6) (aa (bN (aa (pv 2) (aa (bD rfl T.g_IN) ag))) ag)))))))))
   (ah (bu (cE PySem.F.plainAttrs_list PySem.F.slot_list_extend PySem.F.type_list_extend lh (pv 3) (aa (fX (tg:=["first"]) (fr:=[("orders",0),("ways",4),("other",2),("one",1)]) (by walk_at "blk_ok") rfl (cg (aN iA hr bP (aa (pv 0) (aa (pv 4) (aa (pv 1) ag))))) (fun _ _ _ _ _=>(aP (i:=0) (show [("first" : Str),("orders" : Str),("ways" : Str),("other" : Str),("one" : Str)].Nodup by decide +kernel) rfl (by first | exact Or.inl rfl | exact Or.inr rfl))) (fun _ _ _ _ _=>fB) (fun _ _ _ _ _=>(aN sW hr bP (aa (pv 1) (aa (pv 2) (aa (cv (aa (pv 4) (aa (pv 0) ag))) (aa (pv 3) ag))))))) ag)))
   (aq (aX (bN (aa mF (aa (pv 3) ag)))))))))),?_⟩
  dsimp only [dN]
  have ha:a < L.length:=(List.getElem?_eq_some_iff.mp hl).1
  obtain ⟨ra,l',Ic,sT,dM⟩:=gr.at (i:=a) ha
  rw [hl] at sT
  injection sT with sT
  subst sT
  have N:=Tw.Ei im ha hb nF
  walk_at "rd"
  refine ⟨Nat.zero_le _,fun fo Bk=>?_⟩
  refine r_gname ?_
  try dsimp only
  refine mB (fun σ' H'=>∃ (fs:List Addr),σ' = [some (.ref p),some (.int (a:Int)),some (.int (b:Int)),some (.ref fo),none,none,none,none]∧aj H H'∧aV H' fo fs ((if (b:Int)∈l then [[a,b]] else []).map aK)) ?_ ?_
  ·rintro σ' H1 ⟨fs,rfl,e1,G1⟩
   have f1:=G1.top
   have lf:(fs.map V.ref).length = if (b:Int)∈l then 1 else 0:=by rw [List.length_map,G1.len,List.length_map]; split <;> rfl
   walk_at "rd"
   refine ⟨p,as,L,a,b,rfl,gr.same e1,im,hn,ha,hb,nF,fun wy au g ks H2 e2 Eo hg W2=>?_⟩
   have gF:∀ d:af,d.1 < L.length→H1 (g d) = none:=hg
   have Ij:=gr.same e1
   have f2:=e2 _ _ f1
   have RV:∀ d:af,d.1 < L.length→g d≠wy:=W2.off
   walk_at "rd"
   refine cN ?_
   refine ⟨_,rfl,_,_,rfl,.inl ⟨_,aG.of f2,rfl⟩,((fs.map V.ref).length:Int),3,rfl,⟨by omega,by rw [lf]; split <;> omega,by omega,by omega⟩,?_⟩
   have three:((3:Int) - ((fs.map V.ref).length:Int)).toNat = if (b:Int)∈l then 2 else 3:=by rw [lf]; split <;> rfl
   rw [three]
   refine bB (fun i σ H3=>∃ (f:Fw.Flow) (ks:af→List af) (v5 v6 v7:Option V),σ = [some (.ref p),some (.int (a:Int)),some (.int (b:Int)),some (.ref fo),some (.ref wy),v5,v6,v7]∧aj H1 H3∧cF H3 wy L.length (Res (Tw L a b) f) au g ks∧Fl L.length (Tw L a b) a b (i:Int) f)
    ⟨f0,ks,none,none,none,rfl,e2,W2,CZ⟩ ?_ ?_
   ·rintro i σ H3 hi ⟨f,ks,v5,v6,v7,rfl,e3,W3,F3⟩
    walk_at "rd"
    intro q1 xr
    have e4:aj H3 (upd H3 q1 (.tup [.int (a:Int),.int 1])):=aj.upd xr
    have k4:upd H3 q1 (.tup [.int (a:Int),.int 1]) q1 = some (.tup ((kd (a,true)).map kV)):=ae
    generalize upd H3 q1 (.tup [.int (a:Int),.int 1]) = H4 at e4 k4 ⊢
    walk_at "rd"
    refine ⟨wy,q1,L.length,_,au,g,ks,(a,true),rfl,W3.same e4,ha,hn,k4,fun t cT r H5 e5 ht A5 B5=>?_⟩
    have E7:∀ d:af,d.1 < L.length→g d≠t:=fun d hd z=>by have:=(W3.same e4).row d hd; rw [z,ht] at this; cases this
    walk_at "rd"
    intro q2 yD
    have e6:aj H5 (upd H5 q2 (.tup [.int (b:Int),.int 0])):=aj.upd yD
    have k6:upd H5 q2 (.tup [.int (b:Int),.int 0]) q2 = some (.tup ((kd (b,false)).map kV)):=ae
    generalize upd H5 q2 (.tup [.int (b:Int),.int 0]) = H6 at e6 k6 ⊢
    have A6:=A5.keep (H':=H6) ((e6 _ _ A5.top).trans A5.top.symm) fun c xs h=>e6 _ _ h
    have W6:=W3.same ((e4.trans e5).trans e6)
    have e6:=((e3.trans e4).trans e5).trans e6
    walk_at "rd"
    refine ⟨t,_,rfl,cW.t (k:=kd (b,false)) A6.top k6,?_⟩
    rw [jJ]
    walk_at "rd"
    refine dG (fun KN=>?_) (fun OY=>?_)
    ·walk_at "rd"
     refine eN ?_
     refine ⟨_,rfl,_,_,rfl,.inl ⟨_,aG.of (e6 _ _ Ij.top),rfl⟩,(L.length:Int),by rw [List.length_map,gr.len],by omega,by omega,?_⟩
     rw [Int.toNat_natCast]
     intro acc bR
     refine jZ (fun j σ' ys H7=>∃ v:Option V,σ' = [v,some (.ref t)]∧ys = (((List.range j).filter fun p=>decide ((p,false)∈cT.map Prod.fst) && !decide ((p,true)∈cT.map Prod.fst)).map fun x:Nat=>(x:Int)).map V.int∧aj H6 H7∧H7 acc = some (.lst ys)) ⟨none,rfl,rfl,aj.upd bR,ae⟩ ?_ ?_
     ·rintro j σ' ys H7 hj ⟨v,rfl,rfl,e7,a7⟩
      simp only [Int.zero_add]
      have lj:=sE (fun p=>decide ((p,false)∈cT.map Prod.fst) && !decide ((p,true)∈cT.map Prod.fst)) j
      walk_at "rd"
      intro q3 HB
      have e8:aj H7 (upd H7 q3 (.tup [.int (j:Int),.int 0])):=aj.upd HB
      have k8:upd H7 q3 (.tup [.int (j:Int),.int 0]) q3 = some (.tup ((kd (j,false)).map kV)):=ae
      generalize upd H7 q3 (.tup [.int (j:Int),.int 0]) = H8 at e8 k8 ⊢
      walk_at "rd"
      refine ⟨t,_,rfl,cW.t (k:=kd (j,false)) (e8 _ _ (e7 _ _ A6.top)) k8,?_⟩
      rw [jJ]
      refine ⟨_,rfl,if2 (fun h1=>?_) (fun h1=>?_)⟩
      ·walk_at "rd"
       intro q4 OC
       have e9:aj H8 (upd H8 q4 (.tup [.int (j:Int),.int 1])):=aj.upd OC
       have k9:upd H8 q4 (.tup [.int (j:Int),.int 1]) q4 = some (.tup ((kd (j,true)).map kV)):=ae
       generalize upd H8 q4 (.tup [.int (j:Int),.int 1]) = H9 at e9 k9 ⊢
       walk_at "rd"
       refine ⟨t,_,rfl,cW.t (k:=kd (j,true)) (e9 _ _ (e8 _ _ (e7 _ _ A6.top))) k9,?_⟩
       rw [jJ]
       refine ⟨_,rfl,dG (fun h2=>?_) (fun h2=>?_)⟩
       ·walk_at "rd"
        refine ⟨e9 _ _ (e8 _ _ a7),by rw [List.length_map,List.length_map]; exact az (by omega),dH hj ⟨_,rfl,?_,aj.fresh ((e7.trans e8).trans e9) bR,ae⟩⟩
        rw [gm,if_pos (by simp only [decide_eq_true h1,decide_eq_false h2]; rfl),List.map_append,List.map_append]
        rfl
       ·refine dH hj ⟨_,rfl,?_,(e7.trans e8).trans e9,e9 _ _ (e8 _ _ a7)⟩
        rw [gm,if_neg (by simp only [decide_eq_true h1,decide_eq_true h2]; decide),List.append_nil]
      ·refine dH hj ⟨_,rfl,?_,e7.trans e8,e8 _ _ a7⟩
       rw [gm,if_neg (by simp only [decide_eq_false h1]; simp),List.append_nil]
     ·rintro σ' ys H7 ⟨v,rfl,rfl,e7,a7⟩
      walk_at "rd"
      intro tt CB
      walk_at "rd"
      refine qp acc _ tt _ (((e1.trans e6).trans e7).trans (aj.upd CB)) ae (aj.upd CB _ _ a7) (wz im hl hb nF (D:=fun d=>decide (d∈cT.map Prod.fst)) hi F3 (decide_eq_true ?_) (decide_eq_false KN) (decide_eq_false ?_) (fun d e hd hN=>?_) rfl)
      ·exact List.mem_map.mpr ⟨_,List.mem_of_getElem? B5.st,rfl⟩
      ·intro z
       obtain ⟨⟨d,o⟩,h1,h2⟩:=List.mem_map.mp z
       dsimp only at h2
       subst h2
       cases o with
       | none=>have:=B5.root h1; injection this with this; exact nF this.symm
       | some r0=>
        obtain ⟨_,hN,o',rM⟩:=B5.up h1
        obtain ⟨r',s'⟩:=r0
        cases s' with
        | true=>exact hN.elim
        | false=>
         rcases cx.mp hN with y | y
         ·rw [y.1] at rM; exact KN (List.mem_map.mpr ⟨_,rM,rfl⟩)
         ·rw [F3.uV N] at y; cases y
      ·exact decide_eq_true (B5.sA d (of_decide_eq_true hd) (by simp) e hN)
    ·walk_at "rd"
     intro q5 OB
     have e7:aj H6 (upd H6 q5 (.tup [.int (b:Int),.int 0])):=aj.upd OB
     have k7:upd H6 q5 (.tup [.int (b:Int),.int 0]) q5 = some (.tup ((kd (b,false)).map kV)):=ae
     generalize upd H6 q5 (.tup [.int (b:Int),.int 0]) = H7 at e7 k7 ⊢
     have A7:=A6.keep (H':=H7) ((e7 _ _ A6.top).trans A6.top.symm) fun c xs h=>e7 _ _ h
     have O8:∃ o,((b,false),o)∈cT:=by obtain ⟨⟨d,o⟩,h1,h2⟩:=List.mem_map.mp OY; exact ⟨o,by rw [← h2]; exact h1⟩
     walk_at "rd"
     refine ⟨wy,t,q5,L.length,Tw L a b,a,b,f,(i:Int),au,g,ks,cT,r,rfl,W6.same e7,A7,E7,k7,B5.toFan,O8,F3,N,hn,fun f' jF H8 k8 W8 F8=>?_⟩
     walk_at "rd"
     refine ⟨f',jF,_,_,_,rfl,fun c o hc=>k8 c o (fun d hd z=>by rw [z,gF d hd] at hc; cases hc) (e7 _ _ (e6 _ _ hc)),W8,F8⟩
   ·rintro σ H3 ⟨f,ks,v5,v6,v7,rfl,e3,W3,F3⟩
    have f3:=e3 _ _ f1
    walk_at "rd"
    refine ⟨.inl ⟨rfl,_,aG.of f3⟩,?_⟩
    walk_at "rd"
    refine eN ?_
    refine wC ?_
    walk_at "rd"
    refine ⟨p,wy,as,L,Tw L a b,f,au,g,ks,a,l,rfl,Ij.same e3,im,hn,W3,hl,fun t H4 e4 ht CC=>?_⟩
    refine ⟨t,rfl,⟨_,aG.of CC⟩,fun acc bR=>?_⟩
    have lg:(gn f l a).length≤l.length:=List.length_filter_le _ _
    have ll:=qM im hl
    refine cU (K:=K) (a:=t) (xs:=(gn f l a).map V.int) (fun j σ' ys H5=>∃ (v:Option V) (zs:List Addr) (ρ : List (List Nat)),σ' = [v,some (.ref p),some (.ref wy),some (.int (b:Int)),some (.int (a:Int))]∧ys = zs.map V.ref∧aj H4 H5∧aV H5 acc zs (ρ.map aK)∧oW f a b ((gn f l a).take j) ρ)
     ⟨none,[],[],rfl,rfl,aj.upd bR,⟨ae,rfl,fun i b l z=>by simp at z⟩,oW.nil⟩ (fun j σ' ys H5 _ ⟨_,_,_,_,_,e,_⟩=>aG.of (e _ _ CC)) ?_ ?_
    ·rintro j x σ' ys H5 hx hj ⟨v,zs,ρ,rfl,rfl,e5,a5,r5⟩
     obtain ⟨y,hy,rfl⟩:∃ y,(gn f l a)[j]? = some y∧x = V.int y:=by
      rw [List.getElem?_map] at hx
      cases e:(gn f l a)[j]? with
      | none=>rw [e] at hx; cases hx
      | some z=>rw [e] at hx; exact ⟨z,rfl,(Option.some.inj hx).symm⟩
     have ym:=List.mem_filter.mp (List.mem_of_getElem? hy)
     obtain ⟨c,rfl⟩:=Int.eq_ofNat_of_zero_le (im.rg a l hl y ym.1).1
     have fc:f.F a c = true:=by simpa using ym.2
     walk_at "rd"
     intro rl Ai
     have e6:aj H5 (upd H5 rl (.lst [.int (a:Int),.int (c:Int)])):=aj.upd Ai
     have k6:upd H5 rl (.lst [.int (a:Int),.int (c:Int)]) rl = some (.lst [.int (a:Int),.int (c:Int)]):=ae
     generalize upd H5 rl (.lst [.int (a:Int),.int (c:Int)]) = H6 at e6 k6 ⊢
     have Lj:=(e4.trans e5).trans e6
     walk_at "rd"
     refine ⟨p,wy,rl,as,L,Tw L a b,f,au,g,ks,a,b,c,_,rfl,Ij.same (e3.trans Lj),im,hn,W3.same Lj,F3,N,fun p q h=>h.1,k6,fc,fun t7 rd H7 e7 h7 R7 l7 s7=>?_⟩
     rw [List.length_map] at hj
     have a7:=a5.same (e6.trans e7)
     have r2:∀ r∈ρ,2≤r.length:=fun r hr=>by
      obtain ⟨k,hk⟩:=List.mem_iff_getElem?.mp hr
      exact (r5.road k r hk).1.len
     have n7:t7≠acc:=fun z=>by
      have q1:=a7.top
      rw [← z,h7] at q1
      injection q1 with q1
      injection q1 with q1
      exact uo R7.len q1.symm
     have lz:zs.length = j:=by
      rw [a5.len,List.length_map,r5.len,List.length_take]
      omega
     refine ⟨a7.top,by rw [List.length_map,lz]; exact az (by omega),dH (by rw [List.length_map]; exact hj) ⟨_,zs ++ [t7],ρ ++ [rd],rfl,by simp,aj.fresh ((e5.trans e6).trans e7) bR,?_,?_⟩⟩
     ·rw [List.map_append]
      exact a7.snoc (mK a7 r2 a7.top) n7 h7
     ·rw [take_snoc hy]
      exact r5.snoc R7 l7 s7
    ·rintro σ' ys H5 ⟨v,zs,ρ,rfl,rfl,e5,a5,r5⟩
     rw [List.length_map,List.take_length] at r5
     have f5:=e5 _ _ (e4 _ _ f3)
     have G5:=G1.same ((e3.trans e4).trans e5)
     have rl:=r5.len
     have r2:∀ r∈ρ,2≤r.length:=fun r hr=>by
      obtain ⟨k,hk⟩:=List.mem_iff_getElem?.mp hr
      exact (r5.road k r hk).1.len
     have r0:∀ r∈(if (b:Int)∈l then [[a,b]] else []),2≤r.length:=fun r hr=>by
      split at hr
      ·rw [List.mem_singleton.mp hr]; simp
      ·cases hr
     have lz:zs.length≤60:=by
      rw [a5.len,List.length_map,rl]
      omega
     walk_at "rd"
     refine nV f5 a5.top (by
                    have:(fs.map V.ref).length≤1:=by rw [lf]; split <;> omega
                    rw [List.length_map] at this ⊢
                    rw [List.length_map]
                    exact Nat.le_of_lt (az (by omega))) ?_
     have g6:=G5.cat a5 (mK G5 r0 f5) (mK a5 r2 f5)
     have e6:aj H (upd H5 fo (.lst (fs.map V.ref ++ zs.map V.ref))):=aj.fresh (((e1.trans e3).trans e4).trans e5) Bk
     generalize upd H5 fo (.lst (fs.map V.ref ++ zs.map V.ref)) = H6 at e6 g6 ⊢
     rw [← List.map_append] at g6
     walk_at "rd"
     intro tt CB
     refine qr fo _ _ tt _ (e6.trans (aj.upd CB)) ae (g6.same (aj.upd CB)) (tY im hl hb nF ?_ r5)
     have F3:=F3
     split at F3
     ·rename_i h; rw [if_pos h]; exact F3
     ·rename_i h; rw [if_neg h]; exact F3
  ·intro TT hT
   walk_at "rd"
   refine aQ (aG.of (aj.upd Bk _ _ gr.top)) (gr.ix Ic) ?_
   refine ir (ns:=l) (aG.of (aj.upd Bk _ _ dM)) ?_
   rw [if_neg (by decide)]
   walk_at "rd"
   refine if2 (fun vX=>?_) (fun vX=>?_)
   ·walk_at "rd"
    refine ⟨.inl ⟨rfl,_,aG.of ae⟩,?_⟩
    walk_at "rd"
    intro lb rO
    walk_at "rd"
    refine dF (xs:=[]) ((ak (aF ae rO)).trans ae) (by rw [PySem.sizeLine_eq]; simp) ?_
    refine hT _ _ ⟨[lb],rfl,aj.fresh ((aj.upd Bk).trans (aj.upd rO)) Bk,?_⟩
    have NH:lb≠fo:=fun z=>by rw [z,ae] at rO; cases rO
    rw [if_pos vX]
    refine ⟨ae,rfl,fun i x r h1 h2=>?_⟩
    have i0:i = 0:=by have:=(List.getElem?_eq_some_iff.mp h1).1; simp at this; omega
    subst i0
    injection h1 with h1
    injection h2 with h2
    subst h1 h2
    rw [ak NH]
    exact ae
   ·walk_at "rd"
    refine hT _ _ ⟨[],rfl,aj.upd Bk,?_⟩
    rw [if_neg vX]
    exact ⟨ae,rfl,fun i x r h1 h2=>by simp at h1⟩
theorem iW:aZ ["orders", "found", "place", "order"] ["orders"] (aw fq):=⟨rfl,rfl,rfl,by decide +kernel,rfl,by decide +kernel,by decide +kernel⟩
theorem wW (D:Def K mg "ties" fq ["orders"]) (T:Txt K mg Z):dE P w K mg base (cQ P w) "ties" 1 ["orders"] qD:=by
 refine D.dY iW (fun vs H Q E h=>?_) (fun f dv A outer s H vs Q E hr h=>?_)
 ·obtain ⟨p,as,L,rfl,_⟩:=h; rfl
 ·obtain ⟨p,as,L,rfl,g,hn,im,q⟩:=h
  refine ⟨_,(ah (aJ (i:=1) iW.nd rfl (by first | exact Or.inl rfl | exact Or.inr rfl) (cv ag))
   (ah (bV PassesOwn.never rfl (wM T.enumerate (aa (pv 0) ag)) (zD (n:=2) rfl (nY (aP (i:=2) iW.nd rfl (by first | exact Or.inl rfl | exact Or.inr rfl)) (nY (aP (i:=3) iW.nd rfl (by first | exact Or.inl rfl | exact Or.inr rfl)) wN)))
   (aq (bu (cE PySem.F.plainAttrs_list PySem.F.slot_list_extend PySem.F.type_list_extend lh (pv 1) (aa (fX (tg:=["neighbour"]) (fr:=[("place",2)]) (by walk_at "blk_ok") rfl (cg (ax oS (by rfl) T.sorted tK (aa (pv 3) ag))) (fun _ _ _ _ _=>(aP (i:=0) (show [("neighbour" : Str),("place" : Str)].Nodup by decide +kernel) rfl (by first | exact Or.inl rfl | exact Or.inr rfl))) (fun _ _ _ _ _=>(fz (aB jz (pv 1) (pv 0) (aT _)))) (fun _ _ _ _ _=>(bN (aa (pv 1) (aa (pv 0) ag))))) ag)))))
   (aq (aX (pv 1))))),?_⟩
  dsimp only [dN]
  walk_at "rd"
  refine ⟨Nat.zero_le _,fun t ht=>?_⟩
  walk_at "rd"
  refine cN ?_
  have e0:aj H (upd H t (.lst [])):=aj.upd ht
  refine ⟨_,rfl,p,rfl,⟨_,aG.of (e0 _ _ g.top)⟩,vv (K:=K) (a:=p) (xs:=as.map V.ref) (fun i σ H1=>∃ (ps:List Addr) (v2 v3:Option V),σ = [some (.ref p),some (.ref t),v2,v3]∧aj H H1∧H1 t = some (.lst (ps.map V.ref))∧PR H1 ps (dq L i)) ⟨[],none,none,rfl,e0,ae,.nil⟩ (fun i σ H1 _ ⟨_,_,_,_,e1,_⟩=>aG.of (e1 _ _ g.top)) ?_ ?_⟩
  ·rintro i x pr σ H1 hx ⟨ps,v2,v3,rfl,e1,h1,Ec⟩ OD
   have hi:i < L.length:=by
    have:=(List.getElem?_eq_some_iff.mp hx).1
    rw [List.length_map,g.len] at this
    exact this
   obtain ⟨b,l,ha,hl,dM⟩:=g.at hi
   obtain rfl:x = V.ref b:=by
    rw [List.getElem?_map,ha] at hx
    exact (Option.some.inj hx).symm
   have e2:aj H1 (upd H1 pr (.tup [.int i,.ref b])):=aj.upd OD
   have yB:=e2 _ _ (e1 _ _ dM)
   have h2:=e2 _ _ h1
   have FZ:=Ec.same e2
   have C4:=e1.trans e2
   refine mC (SqT.of ae) rfl ?_
   generalize upd H1 pr (.tup [.int i,.ref b]) = H2 at yB h2 FZ C4 ⊢
   walk_at "rd"
   refine ⟨.inl ⟨rfl,_,aG.of h2⟩,?_⟩
   walk_at "rd"
   refine eN ?_
   have ln:l.length≤L.length:=cn (im.nd _ _ hl) fun y hy=>⟨(im.rg _ _ hl y hy).1,(im.rg _ _ hl y hy).2.1⟩
   refine ⟨_,rfl,b,l,rfl,aG.of yB,by omega,fun ff sp hp hs o6=>?_⟩
   have RA:=hp.length_eq
   refine ⟨sp,rfl,⟨_,aG.of ae⟩,fun acc bR=>?_⟩
   have e3:aj H2 (upd H2 sp (.lst (ff.map V.int))):=aj.upd o6
   have e4:=e3.trans (aj.upd (o:=.lst []) bR)
   have Hr:upd (upd H2 sp (.lst (ff.map V.int))) acc (.lst []) sp = some (.lst (ff.map V.int)):=by rw [ak (aF ae bR)]; exact ae
   refine cU (K:=K) (a:=sp) (xs:=ff.map V.int) (fun k σ' ys H5=>∃ (qs:List Addr) (v:Option V),σ' = [v,some (.int i)]∧ys = qs.map V.ref∧aj H2 H5∧H5 sp = some (.lst (ff.map V.int))∧H5 acc = some (.lst ys)∧qs.length≤k∧PR H5 qs (((ff.take k).filter (fun y=>decide ((i:Int) < y))).map fun y=>((i:Int),y)))
    ⟨[],none,rfl,rfl,e4,Hr,ae,Nat.le_refl _,.nil⟩ (fun k σ' ys H5 _ ⟨_,_,_,_,_,h,_⟩=>aG.of h) ?_ ?_
   ·rintro k x σ' ys H5 hx hk ⟨qs,v,rfl,rfl,e5,s5,a5,q5,zC⟩
    obtain ⟨y,hy,rfl⟩:∃ y,ff[k]? = some y∧x = V.int y:=by
     rw [List.getElem?_map] at hx
     cases e:ff[k]? with
     | none=>rw [e] at hx; cases hx
     | some z=>rw [e] at hx; exact ⟨z,rfl,(Option.some.inj hx).symm⟩
    rw [List.length_map] at hk
    have tk:ff.take (k + 1) = ff.take k ++ [y]:=by rw [List.take_succ,hy]; rfl
    walk_at "rd"
    refine if2 (fun dD=>?_) (fun dD=>?_)
    ·walk_at "rd"
     intro pq Bh
     refine ⟨by rw [ak (aF a5 Bh)]; exact a5,by rw [List.length_map]; exact az (by omega),dH (by rw [List.length_map]; exact hk) ⟨qs ++ [pq],_,rfl,by simp,?_,?_,ae,by simp; omega,?_⟩⟩
     ·exact aj.fresh (e5.trans (aj.upd Bh)) (e3.free bR)
     ·rw [ak (fun z=>by rw [← z] at bR; rw [ae] at bR; cases bR),ak (aF s5 Bh)]; exact s5
     ·have p6:PR (upd H5 pq (.tup [.int i,.int y])) qs _:=zC.same (aj.upd Bh)
      have p7:=PR.lst (zs:=qs.map V.ref ++ [.ref pq]) p6 (show upd H5 pq (.tup [.int i,.int y]) acc = some (.lst (qs.map V.ref)) by rw [ak (aF a5 Bh)]; exact a5)
      rw [tk,List.filter_append,List.map_append]
      refine PR.app p7 ?_
      rw [List.filter_cons,if_pos (by simpa using dD)]
      refine .cons ?_ .nil
      rw [ak (Ne.symm (aF a5 Bh))]
      exact ae
    ·refine dH (by rw [List.length_map]; exact hk) ⟨qs,_,rfl,rfl,e5,s5,a5,by omega,?_⟩
     rw [tk,List.filter_append,List.map_append,List.filter_cons,if_neg (by simpa using dD)]
     simpa using zC
   ·rintro σ' ys H5 ⟨qs,v,rfl,rfl,e5,s5,a5,q5,zC⟩
    rw [List.length_map] at q5 zC
    rw [List.take_length] at zC
    rw [zg hp hs (im.nd _ _ hl) (fun y hy=>(im.rg _ _ hl y hy).2.1) hi] at zC
    walk_at "rd"
    have lp:=FZ.len
    have ld:=ou (L:=L) i
    have lm:i * L.length≤60 * 60:=Nat.mul_le_mul (by omega) hn
    refine nV (e5 _ _ h2) a5 (by rw [List.length_map,List.length_map,PySem.sizeLine_eq]; omega) ?_
    walk_at "rd"
    refine ⟨ps ++ qs,_,_,rfl,aj.fresh (C4.trans e5) ht,by rw [List.map_append]; exact ae,?_⟩
    have hg:L.getD i [] = l:=by rw [List.getD_eq_getElem?_getD,hl]; rfl
    rw [dq,hg]
    exact PR.app (PR.lst (FZ.same e5) (e5 _ _ h2)) (PR.lst zC (e5 _ _ h2))
  ·rintro σ H1 ⟨ps,v2,v3,rfl,e1,h1,Ec⟩
   rw [List.length_map,g.len] at Ec
   walk_at "rd"
   exact q t ps H1 e1 ht h1 Ec
theorem gk:aZ ["orders", "ways", "start", "goal", "road"] ["orders", "ways", "start", "goal"] (aw cL):=⟨rfl,rfl,rfl,by decide +kernel,rfl,by decide +kernel,by decide +kernel⟩
theorem pW (D:Def K mg "road_by" cL ["orders", "ways", "start", "goal"]) (T:Txt K mg Z) (iA:dE P w K mg base (cQ P w) "gone_on" 1 ["orders", "ways", "place"] ig):dE P w K mg base (cQ P w) "road_by" 2 ["orders", "ways", "start", "goal"] kO:=by
 refine D.dY gk (fun vs H Q E h=>?_) (fun fa dv A outer s H vs Q E hr h=>?_)
 ·obtain ⟨p,wy,ra,as,L,TT,f,au,g,ks,a,b,c,i,rfl,_⟩:=h; rfl
 ·obtain ⟨p,wy,ra,as,L,TT,f,au,g,ks,a,b,c,i,rfl,gr,im,hn,W,F,N,tl,xo,Pc,q⟩:=h
  refine ⟨_,(ah (aJ (i:=4) gk.nd rfl (by first | exact Or.inl rfl | exact Or.inr rfl) (pv 2))
   (ah (gR PassesOwn.never (aB iL (aL aA (pv 4) (kU ie ao) (fun _ _=>rfl)) (pv 3) (aT _)) (aq (aJ (i:=4) gk.nd rfl (by first | exact Or.inl rfl | exact Or.inr rfl) (aC pV (pv 4) (aN iA hr bP (aa (pv 0) (aa (pv 1) (aa (aL aA (pv 4) (kU ie ao) (fun _ _=>rfl)) ag))))))))
   (aq (aX (pv 4))))),?_⟩
  try dsimp only [dN]
  walk_at "rd"
  refine iU (fun σ H1=>∃ (rd:List Nat) (rb:Addr),σ = [some (.ref p),some (.ref wy),some (.ref ra),some (.int (b:Int)),some (.ref rb)]∧aj H H1∧H1 rb = some (.lst ((rd.map fun x:Nat=>(x:Int)).map V.int))∧Fw.Rd f a b rd∧rd[1]? = some c)
   (fun σ H1=>100 - lenOf (σ.getD 4 none) H1) ⟨[a,c],ra,rfl,fun b o h=>h,xo,Fw.Rd.start F N Pc,rfl⟩ ?_
  rintro σ H1 ⟨rd,rb,rfl,e1,r1,R,s1⟩
  have l2:=R.len
  have lf:=R.lC F N
  obtain ⟨x,hx⟩:∃ x,rd[rd.length - 1]? = some x:=⟨_,List.getElem?_eq_getElem (by omega)⟩
  have LC:j3 ((rd.map fun x:Nat=>(x:Int)).map V.int) (-1) = some (V.int (x:Int)):=by
   have e:(rd.map fun x:Nat=>(x:Int))[rd.length - 1]? = some (x:Int):=by rw [List.getElem?_map,hx]; rfl
   exact vK (n:=rd.length - 1) (by rw [List.length_map]; omega) e
  walk_at "rd"
  refine aQ (aG.of r1) LC ?_
  walk_at "rd"
  have xn:x < L.length:=R.rg F N x (List.mem_of_getElem? hx)
  refine dG (fun hJ=>?_) (fun he=>?_)
  ·have xb:x≠b:=fun z=>hJ (by rw [z])
   obtain ⟨u,hu⟩:=R.last hx
   obtain ⟨y,hy⟩:=F.next N xb hu
   have xa:x≠a:=fun z=>by rw [z,F.uW N] at hu; cases hu
   obtain ⟨l,hl,Of⟩:=tl _ _ (F.gJ _ _ hy)
   have gy:gn f l x = [(y:Int)]:=by
    refine jU (im.nd x l hl) Of (by simpa using hy) fun z hz hq=>?_
    have zr:=im.rg x l hl z hz
    obtain ⟨zn,rfl⟩:=Int.eq_ofNat_of_zero_le zr.1
    have:=F.yx N xa hy (by simpa using hq)
    rw [this]
   have R2:=R.step F N hx xb hy
   have NT:=R2.lC F N
   rw [List.length_append,List.length_singleton] at NT
   refine w_turn ?_
   walk_at "rd"
   refine aQ (aG.of r1) LC ?_
   walk_at "rd"
   refine ⟨p,wy,as,L,TT,f,au,g,ks,x,l,rfl,gr.same e1,im,hn,W.same e1,hl,fun t H' e' ht CC=>?_⟩
   rw [gy] at CC
   walk_at "rd"
   refine ⟨rb,t,_,_,rfl,rfl,e' _ _ r1,CC,by rw [List.length_map,List.length_map,List.length_map]; exact Nat.le_of_lt (az (by simp; omega)),fun pz hz=>?_⟩
   walk_at "rd"
   refine ⟨⟨rd ++ [y],pz,rfl,(e1.trans e').trans (aj.upd hz),by rw [ae,List.map_append,List.map_append]; rfl,R2,by rw [List.getElem?_append_left (by omega)]; exact s1⟩,?_⟩
   show 100 - lenOf (some (.ref pz)) _ < 100 - lenOf (some (.ref rb)) H1
   rw [ow ae,ow r1]
   simp only [List.length_append,List.length_map,List.length_cons,List.length_nil]
   omega
  ·have he:x = b:=by omega
   subst he
   walk_at "rd"
   exact q rb rd H1 e1 r1 R hx s1
theorem iN:aZ ["_law_script", "_law_k"] ["_law_script", "_law_k"] (aw br):=⟨rfl,rfl,rfl,by decide +kernel,rfl,by decide +kernel,by decide +kernel⟩
theorem iR (D:Def K mg "_law_cell_at" br ["_law_script", "_law_k"]) (T:Txt K mg Z):dE P w K mg base (cQ P w) "_law_cell_at" 1 ["_law_script", "_law_k"] (qH K):=by
 refine D.dY iN (fun vs H Q E h=>?_) (fun f dv A outer s H vs Q E hr h=>?_)
 ·obtain ⟨a,ns,k,rfl,_⟩:=h; rfl
 ·obtain ⟨a,ns,k,rfl,hS,hk,q⟩:=h
  refine ⟨_,(ah (bC (aB jz (pv 1) (ax aH (by rfl) T.len aU (aa (pv 0) ag)) (aT _)) (aq (aX (aL aA (pv 0) (pv 1) (fun _ _=>rfl)))) aR)
   (aq (aX ao))),?_⟩
  dsimp only [dN]
  walk_at "rd"
  refine ⟨_,_,rfl,.inl ⟨_,hS,rfl⟩,?_⟩
  walk_at "rd"
  refine if2 (fun dD=>?_) (fun dD=>?_)
  ·walk_at "rd"
   obtain ⟨j,rfl⟩:=Int.eq_ofNat_of_zero_le hk
   have hj:j < ns.length:=by rw [List.length_map] at dD; omega
   refine aQ hS (jc (j:=j) (v:=V.int ns[j]) (by simp [hj])) ?_
   exact q _
  ·walk_at "rd"
   exact q _
theorem kh:aZ ["_law_found"] ["_law_found"] (aw bG):=⟨rfl,rfl,rfl,by decide +kernel,rfl,by decide +kernel,by decide +kernel⟩
theorem km (D:Def K mg "_law_whole" bG ["_law_found"]) (T:Txt K mg Z):dE P w K mg base (cQ P w) "_law_whole" 1 ["_law_found"] ji:=by
 refine D.dY kh (fun vs H Q E h=>?_) (fun f dv A outer s H vs Q E hr h=>?_)
 ·obtain ⟨n,rfl,_⟩:=h; rfl
 ·obtain ⟨n,rfl,q⟩:=h
  refine ⟨_,(aq (aX (pP (ax cV (by rfl) T.isinstance bO (aa (pv 0) (aa (eR (v:=.ty "int") rfl T.int vI rfl) ag))) (pO (zF (ax cV (by rfl) T.isinstance bO (aa (pv 0) (aa (eR (v:=.ty "bool") rfl T.bool xJ rfl) ag)))))))),?_⟩
  try dsimp only [dN]
  walk_at "rd"
  refine eK (.int n) (.ty _) xg ?_
  walk_at "rd"
  refine eK (.int n) (.ty _) zS ?_
  walk_at "rd"
  exact q
theorem cD:aZ ["_law_script", "_law_k", "_law_cell", "_law_j"] ["_law_script", "_law_k"] (aw bL):=⟨rfl,rfl,rfl,by decide +kernel,rfl,by decide +kernel,by decide +kernel⟩
theorem kz (D:Def K mg "_law_block" bL ["_law_script", "_law_k"]) (T:Txt K mg Z):dE P w K mg base (cQ P w) "_law_block" 1 ["_law_script", "_law_k"] (d6 K):=by
 refine D.dY cD (fun vs H Q E h=>?_) (fun f dv A outer s H vs Q E hr h=>?_)
 ·obtain ⟨a,ns,k,rfl,_⟩:=h; rfl
 ·obtain ⟨a,ns,k,rfl,hS,KU,KS,q⟩:=h
  refine ⟨_,(ah (aJ (i:=2) cD.nd rfl (by first | exact Or.inl rfl | exact Or.inr rfl) ao)
   (ah (bC (aB jz (aC b7 ao (aC bw (aC cJ (pv 1) ao) ao)) (ax aH (by rfl) T.len aU (aa (pv 0) ag)) (aT _)) (aq (aJ (i:=2) cD.nd rfl (by first | exact Or.inl rfl | exact Or.inr rfl) (aC cJ (aL aA (pv 0) (aC b7 ao (aC bw (aC cJ (pv 1) ao) ao)) (fun _ _=>rfl)) (mG (v:=10000000000000000000000000000000000000000000000000000000000000000) pQ ao ao ⟨by decide,by decide,by decide⟩ (by decide +kernel))))) aR)
   (ah (bV PassesOwn.never rfl (bA rfl T.range (aa (aC bw (pv 1) ao) ag)) (aP (i:=3) cD.nd rfl (by first | exact Or.inl rfl | exact Or.inr rfl))
   (aq (aJ (i:=2) cD.nd rfl (by first | exact Or.inl rfl | exact Or.inr rfl) (aC cJ (pv 2) ao))))
   (aq (aX (aC bw (pv 2) ao)))))),?_⟩
  dsimp only [dN]
  walk_at "rd"
  refine ⟨_,_,rfl,.inl ⟨_,hS,rfl⟩,?_⟩
  walk_at "rd"
  refine if2 (fun dD=>?_) (fun dD=>?_)
  ·walk_at "rd"
   rw [List.length_map] at dD
   obtain ⟨n0,CG⟩:=mL (ns:=ns) (k:=1 + k / 8 % 62) (by omega) dD
   refine aQ hS CG ?_
   walk_at "rd"
   refine cN ?_
   refine ⟨_,rfl,_,_,rfl,rfl,(show (0:Int) < 8 by decide),k % 8,rfl,by omega,by omega,bB (fun i σ H1=>∃ (c:Int) (v:Option V),σ = [some (.ref a),some (.int k),some (.int c),v]∧H1 = H) ⟨_,_,rfl,rfl⟩ ?_ ?_⟩
   ·rintro i σ H1 hi ⟨c,v,rfl,rfl⟩
    walk_at "rd"
    exact ⟨_,_,rfl,rfl⟩
   ·rintro σ H1 ⟨c,v,rfl,rfl⟩
    walk_at "rd"
    exact q _ (Int.emod_nonneg _ (by decide)) (Int.emod_lt_of_pos _ (by decide))
  ·walk_at "rd"
   refine cN ?_
   refine ⟨_,rfl,_,_,rfl,rfl,(show (0:Int) < 8 by decide),k % 8,rfl,by omega,by omega,bB (fun i σ H1=>∃ (c:Int) (v:Option V),σ = [some (.ref a),some (.int k),some (.int c),v]∧H1 = H) ⟨_,_,rfl,rfl⟩ ?_ ?_⟩
   ·rintro i σ H1 hi ⟨c,v,rfl,rfl⟩
    walk_at "rd"
    exact ⟨_,_,rfl,rfl⟩
   ·rintro σ H1 ⟨c,v,rfl,rfl⟩
    walk_at "rd"
    exact q _ (Int.emod_nonneg _ (by decide)) (Int.emod_lt_of_pos _ (by decide))
theorem bX:aZ ["_law_script", "_law_k", "_law_cell", "_law_number"] ["_law_script", "_law_k"] (aw bJ):=⟨rfl,rfl,rfl,by decide +kernel,rfl,by decide +kernel,by decide +kernel⟩
theorem ku (D:Def K mg "_law_mixed" bJ ["_law_script", "_law_k"]) (T:Txt K mg Z) (mZ:dE P w K mg base (cQ P w) "_law_block" 1 ["_law_script", "_law_k"] (d6 K)):dE P w K mg base (cQ P w) "_law_mixed" 2 ["_law_script", "_law_k"] (d6 K):=by
 refine D.dY bX (fun vs H Q E h=>?_) (fun f dv A outer s H vs Q E hr h=>?_)
 ·obtain ⟨a,ns,k,rfl,_⟩:=h; rfl
 ·obtain ⟨a,ns,k,rfl,hS,KU,KS,q⟩:=h
  refine ⟨_,(ah (aJ (i:=2) bX.nd rfl (by first | exact Or.inl rfl | exact Or.inr rfl) ao)
   (ah (bC (aB n9 (ax aH (by rfl) T.len aU (aa (pv 0) ag)) ao (aT _)) (aq (aJ (i:=2) bX.nd rfl (by first | exact Or.inl rfl | exact Or.inr rfl) (aL aA (pv 0) ao (fun _ _=>rfl)))) aR)
   (ah (bC (aB gU (aC bw (aC cJ (pv 2) (mG (v:=1000000) pQ ao ao ⟨by decide,by decide,by decide⟩ (by decide +kernel))) ao) ao (aT _)) (aq (aX (aN mZ hr bP (aa (pv 0) (aa (pv 1) ag))))) aR)
   (ah (bC (aB n9 (ax aH (by rfl) T.len aU (aa (pv 0) ag)) ao (aT _)) (aq (aJ (i:=2) bX.nd rfl (by first | exact Or.inl rfl | exact Or.inr rfl) (aL aA (pv 0) (aC bw (pv 1) (ax (iD rfl) (by rfl) T.min qj (aa ao (aa (ax aH (by rfl) T.len aU (aa (pv 0) ag)) ag)))) (fun _ _=>rfl)))) aR)
   (ah (aJ (i:=3) bX.nd rfl (by first | exact Or.inl rfl | exact Or.inr rfl) (aC b7 (aC bw (pv 2) (mG (v:=1000000000000000000) pQ ao ao ⟨by decide,by decide,by decide⟩ (by decide +kernel))) (aC fZ ao (aC b7 (pv 1) ao))))
   (ah (aJ (i:=3) bX.nd rfl (by first | exact Or.inl rfl | exact Or.inr rfl) (aC b7 (aC bw (aC fZ (pv 3) (pv 3)) ao) (aC fZ ao (pv 1))))
   (aq (aX (aC bw (aC fZ (pv 3) (pv 3)) ao))))))))),?_⟩
  dsimp only [dN]
  walk_at "rd"
  refine ⟨_,_,rfl,.inl ⟨_,hS,rfl⟩,?_⟩
  walk_at "rd"
  refine if2 (fun kE=>?_) (fun kE=>?_)
  ·walk_at "rd"
   rw [List.length_map] at kE
   obtain ⟨n0,CG⟩:=mL (ns:=ns) (k:=0) (by omega) kE
   refine aQ hS CG ?_
   walk_at "rd"
   refine if2 (fun _=>?_) (fun _=>?_)
   ·walk_at "rd"
    exact ⟨a,ns,k,rfl,hS,KU,KS,q⟩
   ·walk_at "rd"
    refine ⟨_,_,rfl,.inl ⟨_,hS,rfl⟩,?_⟩
    walk_at "rd"
    rw [List.length_map]
    refine if2 (fun _=>?_) (fun h=>absurd kE h)
    walk_at "rd"
    refine ⟨_,_,rfl,.inl ⟨_,hS,rfl⟩,?_⟩
    walk_at "rd"
    rw [List.length_map]
    refine ⟨_,_,rfl,?_⟩
    have mp:0 < (if (ns.length:Int) < 63 then (ns.length:Int) else 63):=by split <;> omega
    have ml:(if (ns.length:Int) < 63 then (ns.length:Int) else 63)≤ns.length:=by split <;> omega
    generalize (if (ns.length:Int) < 63 then (ns.length:Int) else 63) = mm at mp ml ⊢
    walk_at "rd"
    have i0:=Int.emod_nonneg k (show mm≠0 by omega)
    have i1:=Int.emod_lt_of_pos k mp
    obtain ⟨n1,KO⟩:=mL (ns:=ns) (k:=k % mm) i0 (by omega)
    refine aQ hS KO ?_
    walk_at "rd"
    generalize n1 = cc
    have c0:=Int.emod_nonneg cc (show (1000000000000000000:Int)≠0 by decide)
    have c1:=Int.emod_lt_of_pos cc (show (0:Int) < 1000000000000000000 by decide)
    generalize cc % 1000000000000000000 = r at c0 c1 ⊢
    have hm:IntMulOk (r + 48271 * (k + 1)) (r + 48271 * (k + 1)):=mulL (by omega) (by omega)
    walk_at "rd"
    generalize (r + 48271 * (k + 1)) * (r + 48271 * (k + 1)) = zz
    have z0:=Int.emod_nonneg zz (show (2147483629:Int)≠0 by decide)
    have z1:=Int.emod_lt_of_pos zz (show (0:Int) < 2147483629 by decide)
    generalize zz % 2147483629 = r2 at z0 z1 ⊢
    have HH:IntMulOk (r2 + 69621 * k) (r2 + 69621 * k):=mulL (by omega) (by omega)
    walk_at "rd"
    exact q _ (Int.emod_nonneg _ (by decide)) (Int.emod_lt_of_pos _ (by decide))
  ·walk_at "rd"
   rw [List.length_map] at kE
   refine if2 (fun z=>absurd z (by decide)) (fun _=>?_)
   walk_at "rd"
   refine ⟨_,_,rfl,.inl ⟨_,hS,rfl⟩,?_⟩
   walk_at "rd"
   rw [List.length_map]
   refine if2 (fun h=>absurd h kE) (fun _=>?_)
   walk_at "rd"
   generalize rM:(0:Int) % 1000000000000000000 = r
   have c0:0≤r:=by omega
   have c1:r < 1000000000000000000:=by omega
   have hm:IntMulOk (r + 48271 * (k + 1)) (r + 48271 * (k + 1)):=mulL (by omega) (by omega)
   walk_at "rd"
   generalize (r + 48271 * (k + 1)) * (r + 48271 * (k + 1)) = zz
   have z0:=Int.emod_nonneg zz (show (2147483629:Int)≠0 by decide)
   have z1:=Int.emod_lt_of_pos zz (show (0:Int) < 2147483629 by decide)
   generalize zz % 2147483629 = r2 at z0 z1 ⊢
   have HH:IntMulOk (r2 + 69621 * k) (r2 + 69621 * k):=mulL (by omega) (by omega)
   walk_at "rd"
   exact q _ (Int.emod_nonneg _ (by decide)) (Int.emod_lt_of_pos _ (by decide))
theorem cK:aZ ["_law_script", "_law_start", "_law_many", "_law_orders", "_law_thick", "_law_one", "_law_other", "_law_number"] ["_law_script", "_law_start", "_law_many"] (aw b6):=⟨rfl,rfl,rfl,by decide +kernel,rfl,by decide +kernel,by decide +kernel⟩
theorem oe (D:Def K mg "_law_any" b6 ["_law_script", "_law_start", "_law_many"]) (T:Txt K mg Z) (bW:dE P w K mg base (cQ P w) "_law_mixed" 2 ["_law_script", "_law_k"] (d6 K)):dE P w K mg base (cQ P w) "_law_any" 3 ["_law_script", "_law_start", "_law_many"] (ui K):=by
 refine D.dY cK (fun vs H Q E h=>?_) (fun f dv A outer s H vs Q E hr h=>?_)
 ·obtain ⟨a,ns,st,n,rfl,_⟩:=h; rfl
 ·obtain ⟨a,ns,st,n,rfl,hS,RH,RG,CG,KO,q⟩:=h
  refine ⟨_,(ah (iX (i:=3) cK.nd rfl (by first | exact Or.inl rfl | exact Or.inr rfl) (tg:=["_law_k"]) (fr:=[]) (by walk_at "blk_ok") rfl (bA rfl T.range (aa (pv 2) ag)) (fun _ _ _ _ _=>(aP (i:=0) (show [("_law_k" : Str)].Nodup by decide +kernel) rfl (by first | exact Or.inl rfl | exact Or.inr rfl))) (fun _ _ _ _ _=>fB) (fun _ _ _ _ _=>(cv ag)))
   (ah (aJ (i:=4) cK.nd rfl (by first | exact Or.inl rfl | exact Or.inr rfl) (aC b7 ao (aC bw (aN bW hr bP (aa (pv 0) (aa (pv 1) ag))) ao)))
   (ah (bV PassesOwn.never rfl (bA rfl T.range (aa (pv 2) ag)) (aP (i:=5) cK.nd rfl (by first | exact Or.inl rfl | exact Or.inr rfl))
   (aq (bV PassesOwn.never rfl (bA rfl T.range (aa (pv 5) ag)) (aP (i:=6) cK.nd rfl (by first | exact Or.inl rfl | exact Or.inr rfl))
   (ah (aJ (i:=7) cK.nd rfl (by first | exact Or.inl rfl | exact Or.inr rfl) (aN bW hr bP (aa (pv 0) (aa (aC b7 (aC b7 (aC b7 (pv 1) ao) (aC fZ ao (pv 5))) (pv 6)) ag))))
   (aq (bC (aB iL (aC bw (pv 7) (pv 4)) ao (aT _)) (ah (bu (cE PySem.F.plainAttrs_list PySem.F.slot_list_insert PySem.F.type_list_insert ef (aL aA (pv 3) (pv 5) (fun _ _=>rfl)) (aa (aC bw (aC cJ (pv 7) ao) (aC b7 (ax aH (by rfl) T.len aU (aa (aL aA (pv 3) (pv 5) (fun _ _=>rfl)) ag)) ao)) (aa (pv 6) ag))))
   (aq (bu (cE PySem.F.plainAttrs_list PySem.F.slot_list_insert PySem.F.type_list_insert ef (aL aA (pv 3) (pv 6) (fun _ _=>rfl)) (aa (aC bw (aC cJ (pv 7) ao) (aC b7 (ax aH (by rfl) T.len aU (aa (aL aA (pv 3) (pv 6) (fun _ _=>rfl)) ag)) ao)) (aa (pv 5) ag)))))) aR))))))
   (aq (aX (pv 3)))))),?_⟩
  dsimp only [dN]
  walk_at "rd"
  refine eN ?_
  refine ⟨_,rfl,n,rfl,by omega,by omega,fun acc bR=>jZ (fun i σ' ys H1=>∃ (as:List Addr) (v:Option V),σ' = [v]∧ys = as.map V.ref∧as.length = i∧aj H H1∧H1 acc = some (.lst ys)∧(acc :: as).Nodup∧(∀ b∈acc :: as,H b = none)∧∀ b∈as,H1 b = some (.lst [])) ⟨[],none,rfl,rfl,rfl,aj.upd bR,ae,by simp,by simpa using bR,by simp⟩ ?_ ?_⟩
  ·rintro i σ' ys H1 hi ⟨as,v,rfl,rfl,rfl,e1,h1,nd,fr,hb⟩
   walk_at "rd"
   refine ⟨Nat.zero_le _,fun p hp=>⟨by rw [ak (aF h1 hp)]; exact h1,by rw [List.length_map]; exact az (by omega),dH hi ⟨as ++ [p],_,rfl,by simp,by simp,aj.fresh (aj.fresh e1 (e1.free hp)) bR,ae,?_,?_,?_⟩⟩⟩
   ·have np:p∉acc :: as:=fun z=>by
     rcases List.mem_cons.mp z with z | z
     ·rw [z,h1] at hp; cases hp
     ·rw [hb p z] at hp; cases hp
    have:=List.nodup_cons.mpr ⟨np,nd⟩
    have pm:(acc :: (as ++ [p])).Perm (p :: acc :: as):=by
     have:acc :: (as ++ [p]) = (acc :: as) ++ [p]:=rfl
     rw [this]
     exact List.perm_append_singleton _ _
    exact pm.nodup_iff.mpr this
   ·intro b tS
    rcases List.mem_cons.mp tS with z | z
    ·rw [z]; exact bR
    ·rcases List.mem_append.mp z with z | z
     ·exact fr b (List.mem_cons_of_mem _ z)
     ·rw [List.mem_singleton.mp z]; exact e1.free hp
   ·intro b tS
    have ba:b≠acc:=fun z=>by
     subst z
     rcases List.mem_append.mp tS with z | z
     ·exact (List.nodup_cons.mp nd).1 z
     ·exact aF h1 hp (List.mem_singleton.mp z)
    rw [ak ba]
    rcases List.mem_append.mp tS with z | z
    ·rw [ak (aF (hb b z) hp)]; exact hb b z
    ·rw [List.mem_singleton.mp z]; exact ae
  ·rintro σ' ys H1 ⟨as,v,rfl,rfl,has,e1,h1,nd,fr,hb⟩
   walk_at "rd"
   refine ⟨a,ns,st,rfl,e1.seq hS,by omega,by omega,fun n1 a0 a1=>?_⟩
   have L0:(0:Int) < 2 + n1 % 3:=by omega
   walk_at "rd"
   generalize 2 + n1 % 3 = th at L0 ⊢
   refine cN ?_
   refine ⟨_,rfl,n,rfl,by omega,by omega,bB (fun i σ H1=>∃ (L:List (List Int)) (v5 v6 v7:Option V),σ = [some (.ref a),some (.int st),some (.int n),some (.ref acc),some (.int th),v5,v6,v7]∧aj H H1∧aV H1 acc as L∧Made n.toNat i 0 L) ⟨List.replicate n.toNat [],none,none,none,rfl,e1,⟨h1,by simp [has],fun i b l h2 h3=>?_⟩,Made.start (by simp) fun i l h=>?_⟩ ?_ ?_⟩
   ·rw [List.getElem?_replicate] at h3
    split at h3
    ·cases h3; exact hb b (List.mem_of_getElem? h2)
    ·cases h3
   ·rw [List.getElem?_replicate] at h
    split at h
    ·cases h; rfl
    ·cases h
   ·rintro i σ H2 hi ⟨L,v5,v6,v7,rfl,e2,g2,m2⟩
    simp only [Int.zero_add]
    walk_at "rd"
    refine cN ?_
    refine ⟨_,rfl,(i:Int),rfl,by omega,by omega,?_⟩
    rw [Int.toNat_natCast]
    refine bB (fun j σ H1=>∃ (L:List (List Int)) (v6 v7:Option V),σ = [some (.ref a),some (.int st),some (.int n),some (.ref acc),some (.int th),some (.int (i:Int)),v6,v7]∧aj H H1∧aV H1 acc as L∧Made n.toNat i j L) ⟨L,v6,v7,rfl,e2,g2,m2⟩ ?_ ?_
    ·rintro j σ H3 hj ⟨L3,w6,w7,rfl,e3,g3,m3⟩
     simp only [Int.zero_add]
     walk_at "rd"
     refine ⟨a,ns,_,rfl,e3.seq hS,by omega,by omega,fun nb b0 b1=>?_⟩
     walk_at "rd"
     refine dG (fun _=>?_) (fun _=>?_)
     ·have hL:=m3.len
      obtain ⟨p1,l1,CU,CL,yC⟩:=g3.at (i:=i) (by omega)
      obtain ⟨p2,l2,CT,CK,KH⟩:=g3.at (i:=j) (by omega)
      have z1:=m3.small CL
      have z2:=m3.small CK
      have Gg:p2≠p1:=fun z=>by
       subst z
       obtain ⟨q1,w1⟩:=List.getElem?_eq_some_iff.mp CU
       obtain ⟨q2,w2⟩:=List.getElem?_eq_some_iff.mp CT
       exact Nat.ne_of_lt hj ((List.getElem_inj (List.nodup_cons.mp nd).2).mp (w2.trans w1.symm))
      walk_at "rd"
      refine aQ (aG.of g3.top) (g3.ix CU) ?_
      refine ⟨.inl ⟨rfl,_,aG.of yC⟩,?_⟩
      walk_at "rd"
      refine aQ (aG.of g3.top) (g3.ix CU) ?_
      walk_at "rd"
      refine ⟨_,_,rfl,.inl ⟨_,aG.of yC,rfl⟩,?_⟩
      rw [List.length_map]
      have rN:(0:Int) < (l1.length:Int) + 1:=by omega
      walk_at "rd"
      have d0:=Int.emod_nonneg (nb / 12) (show (l1.length:Int) + 1≠0 by omega)
      have d1:=Int.emod_lt_of_pos (nb / 12) rN
      generalize nb / 12 % ((l1.length:Int) + 1) = k1 at d0 d1 ⊢
      refine ft (k:=k1.toNat) (by omega) yC (by rw [List.length_map]; omega) (by rw [List.length_map]; exact az (by omega)) ?_
      rw [map_put]
      have g4:=g3.set (l':=put l1 k1.toNat (j:Int)) nd CU
      have jR:H p1 = none:=fr p1 (List.mem_cons_of_mem _ (List.mem_of_getElem? CU))
      have Bo:H p2 = none:=fr p2 (List.mem_cons_of_mem _ (List.mem_of_getElem? CT))
      have Aj:upd H3 p1 (.lst ((put l1 k1.toNat (j:Int)).map V.int)) p2 = some (.lst (l2.map V.int)):=by rw [ak Gg]; exact KH
      have e4:aj H (upd H3 p1 (.lst ((put l1 k1.toNat (j:Int)).map V.int))):=aj.fresh e3 jR
      walk_at "rd"
      refine aQ (aG.of g4.top) (g4.ix CT) ?_
      refine ⟨.inl ⟨rfl,_,aG.of Aj⟩,?_⟩
      walk_at "rd"
      refine aQ (aG.of g4.top) (g4.ix CT) ?_
      walk_at "rd"
      refine ⟨_,_,rfl,.inl ⟨_,aG.of Aj,rfl⟩,?_⟩
      rw [List.length_map]
      have sS:(0:Int) < (l2.length:Int) + 1:=by omega
      walk_at "rd"
      have c0:=Int.emod_nonneg (nb / 128) (show (l2.length:Int) + 1≠0 by omega)
      have c1:=Int.emod_lt_of_pos (nb / 128) sS
      generalize nb / 128 % ((l2.length:Int) + 1) = k2 at c0 c1 ⊢
      refine ft (k:=k2.toNat) (by omega) Aj (by rw [List.length_map]; omega) (by rw [List.length_map]; exact az (by omega)) ?_
      rw [map_put]
      exact ⟨_,_,_,rfl,aj.fresh e4 Bo,g4.set nd CT,m3.step hj (by omega) CL CK⟩
     ·walk_at "rd"
      exact ⟨L3,_,_,rfl,e3,g3,m3.skip⟩
    ·rintro σ H3 ⟨L3,w6,w7,rfl,e3,g3,m3⟩
     exact ⟨L3,_,_,_,rfl,e3,g3,m3.next⟩
   ·rintro σ H2 ⟨L,v5,v6,v7,rfl,e2,g2,m2⟩
    walk_at "rd"
    exact q acc as L H2 e2 g2 nd fr (by have:=m2.len; omega) m2.map
theorem bc:aZ ["_law_orders", "_law_gone", "_law_found", "_law_one", "_law_other", "_law_ring", "_law_here", "_law_there", "_law_order"] ["_law_orders"] (aw bI):=⟨rfl,rfl,rfl,by decide +kernel,rfl,by decide +kernel,by decide +kernel⟩
theorem kr (D:Def K mg "_law_rings" bI ["_law_orders"]) (T:Txt K mg Z):dE P w K mg base (cQ P w) "_law_rings" 1 ["_law_orders"] nM:=by
 refine D.dY bc (fun vs H Q E h=>?_) (fun f dv A outer s H vs Q E hr h=>?_)
 ·obtain ⟨p,as,L,rfl,_⟩:=h; rfl
 ·obtain ⟨p,as,L,rfl,g,im,hn,hd,q⟩:=h
  refine ⟨_,(ah (aJ (i:=1) bc.nd rfl (by first | exact Or.inl rfl | exact Or.inr rfl) jy)
   (ah (aJ (i:=2) bc.nd rfl (by first | exact Or.inl rfl | exact Or.inr rfl) (cv ag))
   (ah (bV PassesOwn.never rfl (bA rfl T.range (aa (ax aH (by rfl) T.len aU (aa (pv 0) ag)) ag)) (aP (i:=3) bc.nd rfl (by first | exact Or.inl rfl | exact Or.inr rfl))
   (aq (bV PassesOwn.never rfl (cg (aL aA (pv 0) (pv 3) (fun _ _=>rfl))) (aP (i:=4) bc.nd rfl (by first | exact Or.inl rfl | exact Or.inr rfl))
   (aq (bC (fv (d9 (b8 hr) (bN (aa (pv 3) (aa (pv 4) ag))) (pv 1))) (ah (aJ (i:=5) bc.nd rfl (by first | exact Or.inl rfl | exact Or.inr rfl) (cv ag))
   (ah (aJ (i:=6) bc.nd rfl (by first | exact Or.inl rfl | exact Or.inr rfl) (pv 3))
   (ah (aJ (i:=7) bc.nd rfl (by first | exact Or.inl rfl | exact Or.inr rfl) (pv 4))
   (ah (gR PassesOwn.never (fv (d9 (b8 hr) (bN (aa (pv 6) (aa (pv 7) ag))) (pv 1))) (ah (eQ (b8 hr) (pv 1) (bN (aa (pv 6) (aa (pv 7) ag))) cZ rfl)
   (ah (bu (cE PySem.F.plainAttrs_list PySem.F.slot_list_append PySem.F.type_list_append cO (pv 5) (aa (pv 6) ag)))
   (ah (aJ (i:=8) bc.nd rfl (by first | exact Or.inl rfl | exact Or.inr rfl) (aL aA (pv 0) (pv 7) (fun _ _=>rfl)))
   (aq (zB (i:=6) (j:=7) rfl bc.nd rfl rfl (by decide) rfl rfl (aa (pv 7) (aa (aL aA (pv 8) (aC gC (cE PySem.F.plainAttrs_list PySem.F.slot_list_index PySem.F.type_list_index gY (pv 8) (aa (pv 6) ag)) ao) (fun _ _=>rfl)) ag)) rfl))))))
   (aq (bu (cE PySem.F.plainAttrs_list PySem.F.slot_list_append PySem.F.type_list_append cO (pv 2) (aa (pv 5) ag)))))))) aR)))))
   (aq (aX (pv 2)))))),?_⟩
  dsimp only [dN]
  walk_at "rd"
  intro gd HQ
  walk_at "rd"
  refine ⟨Nat.zero_le _,fun t ht=>?_⟩
  have tH:H t = none:=(aj.upd HQ).free ht
  have e0:aj H (upd (upd H gd (.dT [])) t (.lst [])):=(aj.upd HQ).trans (aj.upd ht)
  have g0:upd (upd H gd (.dT [])) t (.lst []) gd = some (.dT (kD [])):=by rw [ak (aF ae ht)]; exact ae
  have t0:aV (upd (upd H gd (.dT [])) t (.lst [])) t [] []:=⟨ae,rfl,fun i a l z=>by simp at z⟩
  generalize upd (upd H gd (.dT [])) t (.lst []) = H0 at e0 g0 t0 ⊢
  walk_at "rd"
  refine cN ?_
  refine ⟨_,rfl,_,_,rfl,.inl ⟨_,aG.of (e0 _ _ g.top),rfl⟩,(L.length:Int),by rw [List.length_map,g.len],by omega,by omega,?_⟩
  rw [Int.toNat_natCast]
  refine bB (fun i σ H1=>∃ (bs:List Addr) (R:List (List ay)) (v3 v4 v5 v6 v7 v8:Option V),σ = [some (.ref p),some (.ref gd),some (.ref t),v3,v4,v5,v6,v7,v8]∧aj H H1∧H1 gd = some (.dT (kD R.flatten))∧aV H1 t bs (R.map fun c=>c.map (·.1))∧(t :: bs).Nodup∧(∀ b∈t :: bs,H b = none)∧Dp L R∧∀ d,Dt L d→d.1 < i→d∈R.flatten)
   ⟨[],[],none,none,none,none,none,none,rfl,e0,g0,t0,by simp,by simpa using tH,Dp.start,fun d h1 h2=>by have:=h1.lo; omega⟩ ?_ ?_
  ·rintro i σ H1 hi ⟨bs,R,v3,v4,v5,v6,v7,v8,rfl,e1,g1,t1,rz,jR,Ek,EO⟩
   obtain ⟨b,l,ha,hl,dM⟩:=g.at hi
   simp only [Int.zero_add]
   have el:rowOf L (i:Int) = l:=by
    have:=aE (L:=L) (a:=(i:Int)) (by omega) (by omega)
    rw [Int.toNat_natCast,hl] at this
    exact (Option.some.inj this).symm
   walk_at "rd"
   refine cN ?_
   refine ⟨_,rfl,_,rfl,aQ (aG.of (e1 _ _ g.top)) (g.ix ha) ?_⟩
   refine ⟨b,rfl,⟨_,aG.of (e1 _ _ dM)⟩,fM (K:=K) (a:=b) (xs:=l.map V.int) (fun k σ H3=>∃ (bs:List Addr) (R:List (List ay)) (v4 v5 v6 v7 v8:Option V),σ = [some (.ref p),some (.ref gd),some (.ref t),some (.int (i:Int)),v4,v5,v6,v7,v8]∧aj H H3∧H3 gd = some (.dT (kD R.flatten))∧aV H3 t bs (R.map fun c=>c.map (·.1))∧(t :: bs).Nodup∧(∀ b∈t :: bs,H b = none)∧Dp L R∧∀ d,Dt L d→d.1 < i∨d.1 = i∧d.2∈l.take k→d∈R.flatten)
    ⟨bs,R,v4,v5,v6,v7,v8,rfl,e1,g1,t1,rz,jR,Ek,fun d h1 h2=>EO d h1 (h2.elim id fun z=>by simp at z)⟩ (fun k σ H3 _ ⟨_,_,_,_,_,_,_,_,e,_⟩=>aG.of (e _ _ dM)) ?_ ?_⟩
   ·clear bs R v3 v4 v5 v6 v7 v8 e1 g1 t1 rz jR Ek EO
    rintro k x σ H3 hx ⟨bs,R,v4,v5,v6,v7,v8,rfl,e3,g3,t3,vU,tT,Be,Bq⟩
    obtain ⟨y,hy,rfl⟩:∃ y,l[k]? = some y∧x = V.int y:=by
     rw [List.getElem?_map] at hx
     cases e:l[k]? with
     | none=>rw [e] at hx; cases hx
     | some z=>rw [e] at hx; exact ⟨z,rfl,(Option.some.inj hx).symm⟩
    have dt:Dt L ((i:Int),y):=⟨by simp,by simpa using hi,by rw [el]; exact List.mem_of_getElem? hy⟩
    walk_at "rd"
    intro q1 xr
    have e4:aj H3 (upd H3 q1 (.tup [.int i,.int y])):=aj.upd xr
    have k4:upd H3 q1 (.tup [.int i,.int y]) q1 = some (.tup ((iu ((i:Int),y)).map kV)):=ae
    generalize upd H3 q1 (.tup [.int i,.int y]) = H4 at e4 k4 ⊢
    refine ⟨_,rfl,gd,_,rfl,cW.t (k:=iu ((i:Int),y)) (e4 _ _ g3) k4,?_⟩
    rw [fR]
    walk_at "rd"
    refine dG (fun An=>?_) (fun CA=>?_)
    ·obtain ⟨n,n0,ek,nr⟩:=jV im dt
     have dp:=Be.add im dt n0 ek nr An
     have lb:=dp.len
     have lf:=Dp.lC fun c hc=>(Be.ka c hc).ne
     rw [List.flatten_append,List.flatten_singleton,List.length_append] at lb
     have tn:∀ j,(tr L ((i:Int),y) j).length = j:=fun j=>by unfold tr; simp
     rw [tn] at lb
     walk_at "rd"
     refine ⟨Nat.zero_le _,fun r rM=>?_⟩
     have g4:=e4 _ _ g3
     have t4:=t3.same e4
     have nc:=t4.kW rM
     have rH:H r = none:=(e3.trans e4).free rM
     have e5:aj H (upd H4 r (.lst [])):=(e3.trans e4).trans (aj.upd rM)
     have g5:upd H4 r (.lst []) gd = some (.dT (kD (R.flatten ++ tr L ((i:Int),y) 0))):=by
      rw [ak (aF g4 rM),show tr L ((i:Int),y) 0 = [] from rfl,List.append_nil]; exact g4
     have t5:=t4.same (aj.upd (o:=.lst []) rM)
     have r5:upd H4 r (.lst []) r = some (.lst ((bg L ((i:Int),y) 0).map V.int)):=ae
     generalize upd H4 r (.lst []) = H5 at e5 g5 t5 r5 ⊢
     walk_at "rd"
     refine iU (fun σ H6=>∃ (j:Nat) (v8:Option V),σ = [some (.ref p),some (.ref gd),some (.ref t),some (.int (i:Int)),some (.int y),some (.ref r),some (.int (it L ((i:Int),y) j).1),some (.int (it L ((i:Int),y) j).2),v8]∧j≤n∧aj H H6∧H6 gd = some (.dT (kD (R.flatten ++ tr L ((i:Int),y) j)))∧aV H6 t bs (R.map fun c=>c.map (·.1))∧H6 r = some (.lst ((bg L ((i:Int),y) j).map V.int)))
      (fun _ H6=>match H6 r with | some (.lst xs)=>n - xs.length | _=>0) ⟨0,v8,rfl,Nat.zero_le _,e5,g5,t5,r5⟩ ?_
     rintro σ H6 ⟨j,w8,rfl,hj,e6,g6,t6,r6⟩
     walk_at "rd"
     intro q7 OA
     have e7:aj H6 (upd H6 q7 (.tup [.int (it L ((i:Int),y) j).1,.int (it L ((i:Int),y) j).2])):=aj.upd OA
     have k7:upd H6 q7 (.tup [.int (it L ((i:Int),y) j).1,.int (it L ((i:Int),y) j).2]) q7 = some (.tup ((iu (it L ((i:Int),y) j)).map kV)):=ae
     generalize upd H6 q7 (.tup [.int (it L ((i:Int),y) j).1,.int (it L ((i:Int),y) j).2]) = H7 at e7 k7 ⊢
     have g7:=e7 _ _ g6
     have t7:=t6.same e7
     have r7:=e7 _ _ r6
     refine ⟨_,rfl,gd,_,rfl,cW.t (k:=iu (it L ((i:Int),y) j)) g7 k7,?_⟩
     rw [fR]
     have rl:∀ j,((bg L ((i:Int),y) j).map V.int).length = j:=fun j=>by unfold bg; simp
     have ts:tr L ((i:Int),y) (j + 1) = tr L ((i:Int),y) j ++ [it L ((i:Int),y) j]:=by unfold tr; rw [List.range_succ,List.map_append]; rfl
     walk_at "rd"
     refine dG (fun xw=>?_) (fun hold=>?_)
     ·have jn:j < n:=by
       refine Nat.lt_of_le_of_ne hj fun z=>xw (List.mem_append_right _ ?_)
       rw [z,ek]
       exact List.mem_map.mpr ⟨0,List.mem_range.mpr n0,rfl⟩
      have PU:=jK im dt j
      obtain ⟨b0,b1,b2,b3⟩:=PU.back im
      obtain ⟨c2,l2,Ql,Lo,IY⟩:=g.at (i:=(it L ((i:Int),y) j).2.toNat) (by omega)
      have PL:l2 = rowOf L (it L ((i:Int),y) j).2:=by rw [aE b0 b1] at Lo; exact (Option.some.inj Lo).symm
      subst PL
      have i2:j3 (as.map V.ref) (it L ((i:Int),y) j).2 = some (V.ref c2):=by
       have:=g.ix Ql
       rwa [Int.toNat_of_nonneg b0] at this
      refine w_turn ?_
      rw [r6]
      dsimp only
      walk_at "rd"
      intro q8 Oz
      have e8:aj H7 (upd H7 q8 (.tup [.int (it L ((i:Int),y) j).1,.int (it L ((i:Int),y) j).2])):=aj.upd Oz
      have k8:upd H7 q8 (.tup [.int (it L ((i:Int),y) j).1,.int (it L ((i:Int),y) j).2]) q8 = some (.tup ((iu (it L ((i:Int),y) j)).map kV)):=ae
      generalize upd H7 q8 (.tup [.int (it L ((i:Int),y) j).1,.int (it L ((i:Int),y) j).2]) = H8 at e8 k8 ⊢
      have g8:=e8 _ _ g7
      refine ⟨gd,_,rfl,iJ.t (k:=iu (it L ((i:Int),y) j)) g8 k8 ?_,?_⟩
      ·rw [zY,List.length_append,tn]
       exact az (by omega)
      ·rw [uH xw,List.append_assoc,← ts]
       have e9:aj H (upd H8 gd (.dT (kD (R.flatten ++ tr L ((i:Int),y) (j + 1))))):=aj.fresh ((e6.trans e7).trans e8) HQ
       have g9:upd H8 gd (.dT (kD (R.flatten ++ tr L ((i:Int),y) (j + 1)))) gd = some (.dT (kD (R.flatten ++ tr L ((i:Int),y) (j + 1)))):=ae
       have t9:=(t7.same e8).other (o:=.dT (kD (R.flatten ++ tr L ((i:Int),y) (j + 1)))) g8
       have r8:=e8 _ _ r7
       have r9:upd H8 gd (.dT (kD (R.flatten ++ tr L ((i:Int),y) (j + 1)))) r = some (.lst ((bg L ((i:Int),y) j).map V.int)):=by
        rw [ak (fun z=>by rw [z,g8] at r8; cases r8)]; exact r8
       generalize upd H8 gd (.dT (kD (R.flatten ++ tr L ((i:Int),y) (j + 1)))) = H9 at e9 g9 t9 r9 ⊢
       walk_at "rd"
       refine ⟨.inl ⟨rfl,_,aG.of r9⟩,?_⟩
       walk_at "rd"
       refine dF r9 (by rw [rl]; exact az (by omega)) ?_
       have er:(bg L ((i:Int),y) j).map V.int ++ [V.int (it L ((i:Int),y) j).1] = (bg L ((i:Int),y) (j + 1)).map V.int:=by
        unfold bg
        rw [List.range_succ,List.map_append,List.map_append]
        rfl
       rw [er]
       have eA:aj H (upd H9 r (.lst ((bg L ((i:Int),y) (j + 1)).map V.int))):=aj.fresh e9 rH
       have gA:upd H9 r (.lst ((bg L ((i:Int),y) (j + 1)).map V.int)) gd = some (.dT (kD (R.flatten ++ tr L ((i:Int),y) (j + 1)))):=by
        rw [ak (fun z=>by rw [← z,g9] at r9; cases r9)]; exact g9
       have tA:aV (upd H9 r (.lst ((bg L ((i:Int),y) (j + 1)).map V.int))) t bs (R.map fun c=>c.map (·.1)):=t9.away nc
       have rA:upd H9 r (.lst ((bg L ((i:Int),y) (j + 1)).map V.int)) r = some (.lst ((bg L ((i:Int),y) (j + 1)).map V.int)):=ae
       generalize upd H9 r (.lst ((bg L ((i:Int),y) (j + 1)).map V.int)) = HA at eA gA tA rA ⊢
       walk_at "rd"
       refine aQ (aG.of (eA _ _ g.top)) i2 ?_
       walk_at "rd"
       refine ⟨.inl ⟨rfl,_,aG.of (eA _ _ IY)⟩,?_⟩
       walk_at "rd"
       refine ⟨c2,_,_,rfl,rfl,eA _ _ IY,b3,?_⟩
       walk_at "rd"
       refine aQ (aG.of (eA _ _ IY)) (xK b3) ?_
       walk_at "rd"
       refine ⟨_,_,rfl,⟨j + 1,_,rfl,jn,eA,gA,tA,rA⟩,?_⟩
       rw [rA]
       dsimp only
       rw [rl,rl]
       omega
     ·have jn:j = n:=by
       refine Nat.le_antisymm hj (Nat.le_of_not_lt fun z=>?_)
       rcases List.mem_append.mp hold with w | w
       ·exact Be.new n0 ek An j w
       ·have nd:=jf im dt nr
        have ej:(tr L ((i:Int),y) n)[j]? = some (it L ((i:Int),y) j):=by unfold tr; simp [z]
        have:=gX (A:=[]) (by simpa using nd) ej
        refine this ?_
        have et:(tr L ((i:Int),y) n).take j = tr L ((i:Int),y) j:=by
         unfold tr
         rw [← List.map_take,List.take_range,Nat.min_eq_left (by omega)]
        rw [et]
        exact List.mem_append_right _ w
      subst jn
      have PQ:=e6.trans e7
      walk_at "rd"
      refine ⟨.inl ⟨rfl,_,aG.of t7.top⟩,?_⟩
      walk_at "rd"
      have zb:=t7.len
      rw [List.length_map] at zb
      refine dF t7.top (by rw [List.length_map]; exact az (by omega)) ?_
      have Ko:r≠t:=fun z=>nc (z▸List.mem_cons_self)
      have er:bg L ((i:Int),y) j = (tr L ((i:Int),y) j).map (·.1):=by unfold bg tr; rw [List.map_map]; rfl
      rw [er] at r7
      have t8:=t7.snoc (List.nodup_cons.mp vU).1 Ko r7
      have g8:upd H7 t (.lst (bs.map V.ref ++ [.ref r])) gd = some (.dT (kD (R.flatten ++ tr L ((i:Int),y) j))):=by
       rw [ak (fun z=>by have:=t7.top; rw [← z,g7] at this; cases this)]; exact g7
      refine ⟨bs ++ [r],R ++ [tr L ((i:Int),y) j],_,_,_,_,_,rfl,aj.fresh PQ tH,?_,?_,?_,fun b hb=>?_,dp,fun d h1 h2=>?_⟩
      ·rw [List.flatten_append,List.flatten_singleton]; exact g8
      ·rw [List.map_append]; exact t8
      ·obtain ⟨n1,n2⟩:=List.nodup_cons.mp vU
       refine List.nodup_cons.mpr ⟨fun z=>?_,jo.mpr ⟨fun z=>nc (List.mem_cons_of_mem _ z),n2⟩⟩
       rcases List.mem_append.mp z with z | z
       ·exact n1 z
       ·exact Ko (List.mem_singleton.mp z).symm
      ·rcases List.mem_cons.mp hb with z | z
       ·rw [z]; exact tH
       ·rcases List.mem_append.mp z with z | z
        ·exact tT b (List.mem_cons_of_mem _ z)
        ·rw [List.mem_singleton.mp z]; exact rH
      ·rw [List.flatten_append,List.flatten_singleton]
       rw [take_snoc hy] at h2
       by_cases z:d = ((i:Int),y)
       ·rw [z]
        exact List.mem_append_right _ (List.mem_map.mpr ⟨0,List.mem_range.mpr n0,rfl⟩)
       ·refine List.mem_append_left _ (Bq d h1 ?_)
        rcases h2 with h2 | ⟨h2,h3⟩
        ·exact .inl h2
        ·rcases List.mem_append.mp h3 with h3 | h3
         ·exact .inr ⟨h2,h3⟩
         ·exact absurd (Prod.ext h2 (List.mem_singleton.mp h3)) z
    ·refine ⟨bs,R,_,_,_,_,_,rfl,e3.trans e4,e4 _ _ g3,t3.same e4,vU,tT,Be,fun d h1 h2=>?_⟩
     rw [take_snoc hy] at h2
     rcases h2 with h2 | ⟨h2,h3⟩
     ·exact Bq d h1 (.inl h2)
     ·rcases List.mem_append.mp h3 with h3 | h3
      ·exact Bq d h1 (.inr ⟨h2,h3⟩)
      ·rw [show d = ((i:Int),y) from Prod.ext h2 (List.mem_singleton.mp h3)]; exact CA
   ·rintro σ H3 ⟨bs,R,v4,v5,v6,v7,v8,rfl,e3,g3,t3,vU,tT,Be,Bq⟩
    rw [List.length_map,List.take_length] at Bq
    refine ⟨bs,R,_,_,_,_,_,_,rfl,e3,g3,t3,vU,tT,Be,fun d h1 h2=>Bq d h1 ?_⟩
    by_cases z:d.1 = i
    ·refine .inr ⟨z,?_⟩
     have:=h1.mem
     rw [z,el] at this
     exact this
    ·exact .inl (by omega)
  ·rintro σ H1 ⟨bs,R,v3,v4,v5,v6,v7,v8,rfl,e1,g1,t1,rz,jR,Ek,EO⟩
   walk_at "rd"
   exact q t bs R H1 e1 t1 rz jR (Ek.dec fun d hd=>EO d hd hd.hi)
theorem df:aZ ["_law_orders", "_law_ring", "_law_one", "_law_other", "_law_first", "_law_second"] ["_law_orders", "_law_ring", "_law_one", "_law_other"] (aw bo):=⟨rfl,rfl,rfl,by decide +kernel,rfl,by decide +kernel,by decide +kernel⟩
theorem iO (D:Def K mg "_law_put_tie" bo ["_law_orders", "_law_ring", "_law_one", "_law_other"]) (T:Txt K mg Z):dE P w K mg base (cQ P w) "_law_put_tie" 1 ["_law_orders", "_law_ring", "_law_one", "_law_other"] kP:=by
 refine D.dY df (fun vs H Q E h=>?_) (fun f dv A outer s H vs Q E hr h=>?_)
 ·obtain ⟨p,ra,as,L,r,i,j,rfl,_⟩:=h; rfl
 ·obtain ⟨p,ra,as,L,r,i,j,rfl,g,nd,xo,Eg,sh,gd,hi,hj,hn,q⟩:=h
  have im:=sh.map
  obtain ⟨DJ,a0,a1,PN⟩:=eD gd im (c:=i)
  obtain ⟨DI,b0,b1,PM⟩:=eD gd im (c:=j)
  obtain ⟨ca,la,ha,vo,dU⟩:=g.at (i:=(cy r i).toNat) (by omega)
  obtain ⟨cb,lb,hb,rO,CD⟩:=g.at (i:=(cy r j).toNat) (by omega)
  have PJ:la = rowOf L (cy r i):=by rw [aE a0 a1] at vo; exact (Option.some.inj vo).symm
  have PH:lb = rowOf L (cy r j):=by rw [aE b0 b1] at rO; exact (Option.some.inj rO).symm
  subst PJ PH
  have ia:j3 (as.map V.ref) (cy r i) = some (V.ref ca):=by
   have:=g.ix ha
   rwa [Int.toNat_of_nonneg a0] at this
  have ib:j3 (as.map V.ref) (cy r j) = some (V.ref cb):=by
   have:=g.ix hb
   rwa [Int.toNat_of_nonneg b0] at this
  have sa:(rowOf L (cy r i)).length≤L.length:=cn (im.nd _ _ vo) fun y hy=>⟨(im.rg _ _ vo y hy).1,(im.rg _ _ vo y hy).2.1⟩
  have sb:(rowOf L (cy r j)).length≤L.length:=cn (im.nd _ _ rO) fun y hy=>⟨(im.rg _ _ rO y hy).1,(im.rg _ _ rO y hy).2.1⟩
  have ii:=List.idxOf_lt_length_of_mem DJ
  have ij:=List.idxOf_lt_length_of_mem DI
  refine ⟨_,(ah (aJ (i:=4) df.nd rfl (by first | exact Or.inl rfl | exact Or.inr rfl) (aL aA (pv 1) (pv 2) (fun _ _=>rfl)))
   (ah (aJ (i:=5) df.nd rfl (by first | exact Or.inl rfl | exact Or.inr rfl) (aL aA (pv 1) (pv 3) (fun _ _=>rfl)))
   (aq (bC (PW.pt (pw_and (aB iL (pv 4) (pv 5) (aT _)) (pw_and1 (aB ck (pv 5) (aL aA (pv 0) (pv 4) (fun _ _=>rfl)) (by with_unfolding_all rfl))))) (ah (bu (cE PySem.F.plainAttrs_list PySem.F.slot_list_insert PySem.F.type_list_insert ef (aL aA (pv 0) (pv 4) (fun _ _=>rfl)) (aa (cE PySem.F.plainAttrs_list PySem.F.slot_list_index PySem.F.type_list_index gY (aL aA (pv 0) (pv 4) (fun _ _=>rfl)) (aa (aL aA (pv 1) (aC gC (pv 2) ao) (fun _ _=>rfl)) ag)) (aa (pv 5) ag))))
   (aq (bu (cE PySem.F.plainAttrs_list PySem.F.slot_list_insert PySem.F.type_list_insert ef (aL aA (pv 0) (pv 5) (fun _ _=>rfl)) (aa (cE PySem.F.plainAttrs_list PySem.F.slot_list_index PySem.F.type_list_index gY (aL aA (pv 0) (pv 5) (fun _ _=>rfl)) (aa (aL aA (pv 1) (aC gC (pv 3) ao) (fun _ _=>rfl)) ag)) (aa (pv 4) ag)))))) aR)))),?_⟩
  dsimp only [dN]
  walk_at "rd"
  refine aQ (aG.of xo) (eY (j:=i) (by omega) (by omega) (.inl rfl)) ?_
  walk_at "rd"
  refine aQ (aG.of xo) (eY (j:=j) (by omega) (by omega) (.inl rfl)) ?_
  walk_at "rd"
  refine dG (fun hJ=>?_) (fun heq=>?_)
  ·walk_at "rd"
   refine aQ (aG.of g.top) ia ?_
   refine ir (aG.of dU) ?_
   rw [if_pos rfl]
   walk_at "rd"
   refine dG (fun Ao=>?_) (fun Og=>?_)
   ·have F:bE L (cy r i) (cy r j) (put (rowOf L (cy r i)) ((rowOf L (cy r i)).idxOf (cy r (i + (r.length - 1)))) (cy r j)) (put (rowOf L (cy r j)) ((rowOf L (cy r j)).idxOf (cy r (j + (r.length - 1)))) (cy r i)):=by
     have HF:cy r i∉rowOf L (cy r j):=fun z=>Ao (Dt.back (d:=(cy r j,cy r i)) ⟨b0,b1,z⟩ im).2.2.2
     exact ⟨im,a0,a1,b0,b1,hJ,Ao,d8 _ _ _,d8 _ _ _,fV Ao,fV HF⟩
    have MA:=F.yg sh DJ DI (iY DJ Ao) (iY DI F.Kg) (fun Pd h0 hs=>by
     rw [← PN] at h0
     rw [← PM]
     exact gd.on hs h0 _)
    walk_at "rd"
    refine aQ (aG.of g.top) ia ?_
    refine ⟨.inl ⟨rfl,_,aG.of dU⟩,?_⟩
    walk_at "rd"
    refine aQ (aG.of g.top) ia ?_
    refine ⟨.inl ⟨rfl,_,aG.of dU⟩,?_⟩
    walk_at "rd"
    refine aQ (aG.of xo) (eY (j:=i + (r.length - 1)) (by omega) (by omega) (.inr (by omega))) ?_
    walk_at "rd"
    refine ⟨ca,_,_,rfl,rfl,dU,DJ,?_⟩
    walk_at "rd"
    refine ft (k:=(rowOf L (cy r i)).idxOf (cy r (i + (r.length - 1)))) rfl dU (by rw [List.length_map]; omega) (by rw [List.length_map]; exact az (by omega)) ?_
    rw [map_put]
    have I8:=List.mem_of_getElem? ha
    have Qj:=List.mem_of_getElem? hb
    have g1:=g.set nd (l':=put (rowOf L (cy r i)) ((rowOf L (cy r i)).idxOf (cy r (i + (r.length - 1)))) (cy r j)) ha
    have o1:∀ b o,b∉as→H b = some o→upd H ca (.lst ((put (rowOf L (cy r i)) ((rowOf L (cy r i)).idxOf (cy r (i + (r.length - 1)))) (cy r j)).map V.int)) b = some o:=fun b o tS e=>by rw [iV I8 tS]; exact e
    generalize upd H ca (.lst ((put (rowOf L (cy r i)) ((rowOf L (cy r i)).idxOf (cy r (i + (r.length - 1)))) (cy r j)).map V.int)) = H1 at g1 o1 ⊢
    have HK:(L.set (cy r i).toNat (put (rowOf L (cy r i)) ((rowOf L (cy r i)).idxOf (cy r (i + (r.length - 1)))) (cy r j)))[(cy r j).toNat]? = some (rowOf L (cy r j)):=by rw [List.getElem?_set_ne (by omega)]; exact rO
    have mT:=g1.row _ _ _ hb HK
    have sR:=o1 _ _ Eg xo
    walk_at "rd"
    refine aQ (aG.of g1.top) ib ?_
    refine ⟨.inl ⟨rfl,_,aG.of mT⟩,?_⟩
    walk_at "rd"
    refine aQ (aG.of g1.top) ib ?_
    refine ⟨.inl ⟨rfl,_,aG.of mT⟩,?_⟩
    walk_at "rd"
    refine aQ (aG.of sR) (eY (j:=j + (r.length - 1)) (by omega) (by omega) (.inr (by omega))) ?_
    walk_at "rd"
    refine ⟨cb,_,_,rfl,rfl,mT,DI,?_⟩
    walk_at "rd"
    refine ft (k:=(rowOf L (cy r j)).idxOf (cy r (j + (r.length - 1)))) rfl mT (by rw [List.length_map]; omega) (by rw [List.length_map]; exact az (by omega)) ?_
    rw [map_put]
    have g2:=g1.set nd (l':=put (rowOf L (cy r j)) ((rowOf L (cy r j)).idxOf (cy r (j + (r.length - 1)))) (cy r i)) hb
    refine q _ _ (fun b o tS e=>?_) g2 MA (by rw [List.length_set,List.length_set])
    rw [iV Qj tS]
    exact o1 b o tS e
   ·exact q _ L (fun b o _ e=>e) g sh rfl
  ·walk_at "rd"
   exact q _ L (fun b o _ e=>e) g sh rfl
theorem bZ:aZ ["_law_orders", "_law_ring", "_law_corners", "_law_many", "_law_at", "_law_order"] ["_law_orders", "_law_ring", "_law_corners"] (aw bb):=⟨rfl,rfl,rfl,by decide +kernel,rfl,by decide +kernel,by decide +kernel⟩
theorem gW (D:Def K mg "_law_put_place" bb ["_law_orders", "_law_ring", "_law_corners"]) (T:Txt K mg Z):dE P w K mg base (cQ P w) "_law_put_place" 1 ["_law_orders", "_law_ring", "_law_corners"] iK:=by
 refine D.dY bZ (fun vs H Q E h=>?_) (fun f dv A outer s H vs Q E hr h=>?_)
 ·obtain ⟨p,ra,rc,as,L,r,cs,rfl,_⟩:=h; rfl
 ·obtain ⟨p,ra,rc,as,L,r,cs,rfl,g,nd,xo,Eg,Bg,Kd,Rm,Rl,kg,gd,Kk,c0,IZ,Ln,ER,De,hn,q⟩:=h
  have im:=kg.map
  have two:=gd.two
  have two2:=kg.two
  obtain ⟨c1,ct,K2⟩:∃ c1 ct,cs = c1 :: ct:=by cases cs with | nil=>exact absurd rfl c0 | cons a b=>exact ⟨a,b,rfl⟩
  refine ⟨_,(ah (aJ (i:=3) bZ.nd rfl (by first | exact Or.inl rfl | exact Or.inr rfl) (ax aH (by rfl) T.len aU (aa (pv 0) ag)))
   (ah (bV PassesOwn.never rfl (cg (pv 2)) (aP (i:=4) bZ.nd rfl (by first | exact Or.inl rfl | exact Or.inr rfl))
   (ah (aJ (i:=5) bZ.nd rfl (by first | exact Or.inl rfl | exact Or.inr rfl) (aL aA (pv 0) (aL aA (pv 1) (pv 4) (fun _ _=>rfl)) (fun _ _=>rfl)))
   (aq (bu (cE PySem.F.plainAttrs_list PySem.F.slot_list_insert PySem.F.type_list_insert ef (pv 5) (aa (cE PySem.F.plainAttrs_list PySem.F.slot_list_index PySem.F.type_list_index gY (pv 5) (aa (aL aA (pv 1) (aC gC (pv 4) ao) (fun _ _=>rfl)) ag)) (aa (pv 3) ag)))))))
   (aq (bu (cE PySem.F.plainAttrs_list PySem.F.slot_list_append PySem.F.type_list_append cO (pv 0) (aa (fX (tg:=["_law_at"]) (fr:=[("_law_ring",1)]) (by walk_at "blk_ok") rfl (cg (pv 2)) (fun _ _ _ _ _=>(aP (i:=0) (show [("_law_at" : Str),("_law_ring" : Str)].Nodup by decide +kernel) rfl (by first | exact Or.inl rfl | exact Or.inr rfl))) (fun _ _ _ _ _=>fB) (fun _ _ _ _ _=>(aL (vf (K:=K) rfl) (pv 1) (pv 0) (fun _ _=>rfl)))) ag)))))),?_⟩
  dsimp only [dN]
  walk_at "rd"
  refine ⟨_,_,rfl,.inl ⟨_,aG.of g.top,rfl⟩,?_⟩
  rw [List.length_map,g.len]
  walk_at "rd"
  refine cN ?_
  refine ⟨_,rfl,rc,rfl,⟨_,aG.of Bg⟩,fM (K:=K) (a:=rc) (xs:=(cs.map fun c:Nat=>(c:Int)).map V.int) (fun k σ H1=>∃ (G:List (List Int)) (v4 v5:Option V),σ = [some (.ref p),some (.ref ra),some (.ref rc),some (.int (L.length:Int)),v4,v5]∧(∀ b o,b∉as→H b = some o→H1 b = some o)∧aV H1 p as G∧((k = 0∧G = L)∨(∃ M cj,Pl L r c1 cj (cs.take k) M∧G = M.take L.length∧0 < k∧cs[k - 1]? = some cj)))
   ⟨L,none,none,rfl,fun _ _ _ e=>e,g,.inl ⟨rfl,rfl⟩⟩ (fun k σ H1 _ ⟨_,_,_,_,o,_⟩=>aG.of (o _ _ Kd Bg)) ?_ ?_⟩
  ·rintro k x σ H1 hx ⟨G,v4,v5,rfl,o1,g1,st⟩
   obtain ⟨c,hc,rfl⟩:∃ c:Nat,cs[k]? = some c∧x = V.int (c:Int):=by
    rw [List.getElem?_map,List.getElem?_map] at hx
    cases e:cs[k]? with
    | none=>rw [e] at hx; cases hx
    | some z=>rw [e] at hx; exact ⟨z,rfl,(Option.some.inj hx).symm⟩
   have yF:=Ln c (List.mem_of_getElem? hc)
   obtain ⟨zm,x0,x1,ed⟩:=eD gd im (c:=c)
   have sR:=o1 _ _ Eg xo
   have un:∀ e∈cs.take k,cy r e≠cy r c:=fun e he z=>by
    have:=gX (A:=[]) (B:=cs.map (cy r)) (j:=k) (x:=cy r c) (by simpa using ER) (by rw [List.getElem?_map,hc]; rfl)
    refine this ?_
    rw [List.nil_append,← List.map_take,← z]
    exact List.mem_map.mpr ⟨e,he,rfl⟩
   have step:G[(cy r c).toNat]? = some (rowOf L (cy r c))∧∃ M,Pl L r c1 c (cs.take (k + 1)) M∧G.set (cy r c).toNat (put (rowOf L (cy r c)) ((rowOf L (cy r c)).idxOf (cy r (c + (r.length - 1)))) L.length) = M.take L.length:=by
    rcases st with ⟨rfl,rfl⟩ | ⟨M,cj,pl,rfl,k0,K4⟩
    ·obtain ⟨F,pl⟩:=Pl.first kg gd Kk yF
     have ec:c1 = c:=by rw [K2] at hc; simpa using hc
     have e1:cs.take (0 + 1) = [c]:=by rw [K2,ec]; rfl
     rw [e1,ec]
     refine ⟨aE x0 x1,_,pl,?_⟩
     rw [kK (by rw [fG]) (by omega)]
     unfold dJ
     rw [List.take_left]
    ·have lt:cj < c:=by
      obtain ⟨q1,w1⟩:=List.getElem?_eq_some_iff.mp K4
      obtain ⟨q2,w2⟩:=List.getElem?_eq_some_iff.mp hc
      have:=List.pairwise_iff_getElem.mp IZ (k - 1) k q1 q2 (by omega)
      rw [w1,w2] at this
      exact this
     obtain ⟨F,Nc⟩:=pl.next kg gd Kk lt yF un
     rw [take_snoc hc]
     refine ⟨?_,_,Nc,?_⟩
     ·rw [List.getElem?_take,if_pos (by omega),← pl.keep _ x0 x1 un]
      exact aE x0 (by rw [pl.len]; omega)
     ·rw [kK pl.len (by omega)]
   obtain ⟨gx,M,Na,eM⟩:=step
   obtain ⟨ca,la,ha,vo,dU⟩:=g1.at (i:=(cy r c).toNat) (List.getElem?_eq_some_iff.mp gx).1
   rw [gx] at vo
   cases vo
   have ia:j3 (as.map V.ref) (cy r c) = some (V.ref ca):=by
    have:=g1.ix ha
    rwa [Int.toNat_of_nonneg x0] at this
   have HL:=aE x0 x1
   have sa:(rowOf L (cy r c)).length≤L.length:=cn (im.nd _ _ HL) fun y hy=>⟨(im.rg _ _ HL y hy).1,(im.rg _ _ HL y hy).2.1⟩
   have ii:=List.idxOf_lt_length_of_mem zm
   walk_at "rd"
   refine aQ (aG.of sR) (eY (j:=c) (by omega) (by omega) (.inl rfl)) ?_
   refine aQ (aG.of g1.top) ia ?_
   walk_at "rd"
   refine ⟨.inl ⟨rfl,_,aG.of dU⟩,?_⟩
   walk_at "rd"
   refine ⟨.inl ⟨rfl,_,aG.of dU⟩,?_⟩
   walk_at "rd"
   refine aQ (aG.of sR) (eY (j:=c + (r.length - 1)) (by omega) (by omega) (.inr (by omega))) ?_
   walk_at "rd"
   refine ⟨ca,_,_,rfl,rfl,dU,zm,?_⟩
   walk_at "rd"
   refine ft (k:=(rowOf L (cy r c)).idxOf (cy r (c + (r.length - 1)))) rfl dU (by rw [List.length_map]; omega) (by rw [List.length_map]; exact az (by omega)) ?_
   rw [map_put]
   have I8:=List.mem_of_getElem? ha
   have g2:=g1.set nd (l':=put (rowOf L (cy r c)) ((rowOf L (cy r c)).idxOf (cy r (c + (r.length - 1)))) L.length) ha
   rw [eM] at g2
   refine ⟨_,_,_,rfl,fun b o tS e=>?_,g2,.inr ⟨M,c,Na,rfl,by omega,by rw [Nat.add_sub_cancel]; exact hc⟩⟩
   rw [iV I8 tS]
   exact o1 b o tS e
  ·rintro σ H1 ⟨G,v4,v5,rfl,o1,g1,st⟩
   rw [List.length_map,List.length_map,List.take_length] at st
   rcases st with ⟨z,_⟩ | ⟨M,cj,pl,rfl,k0,K4⟩
   ·exact absurd (List.length_eq_zero_iff.mp z) c0
   have sR:=o1 _ _ Eg xo
   have CF:=o1 _ _ Kd Bg
   walk_at "rd"
   refine ⟨.inl ⟨rfl,_,aG.of g1.top⟩,?_⟩
   walk_at "rd"
   refine eN ?_
   refine ⟨_,rfl,rc,rfl,⟨_,aG.of CF⟩,fun acc bR=>?_⟩
   refine cU (K:=K) (a:=rc) (xs:=(cs.map fun c:Nat=>(c:Int)).map V.int) (fun i σ' ys H2=>∃ v:Option V,σ' = [v,some (.ref ra)]∧aj H1 H2∧H2 acc = some (.lst ys)∧ys = ((cs.take i).map (cy r)).map V.int)
    ⟨none,rfl,aj.upd bR,ae,rfl⟩ (fun i σ' ys H2 _ ⟨_,_,e,_⟩=>aG.of (e _ _ CF)) ?_ ?_
   ·rintro i x σ' ys H2 hx hi ⟨v,rfl,e2,a2,rfl⟩
    obtain ⟨c,hc,rfl⟩:∃ c:Nat,cs[i]? = some c∧x = V.int (c:Int):=by
     rw [List.getElem?_map,List.getElem?_map] at hx
     cases e:cs[i]? with
     | none=>rw [e] at hx; cases hx
     | some z=>rw [e] at hx; exact ⟨z,rfl,(Option.some.inj hx).symm⟩
    have yF:=Ln c (List.mem_of_getElem? hc)
    walk_at "rd"
    refine aQ (aG.of (e2 _ _ sR)) (eY (j:=c) (by omega) (by omega) (.inl rfl)) ?_
    refine ⟨a2,by rw [List.length_map,List.length_map,List.length_take]; exact az (by omega),dH hi ⟨_,rfl,aj.fresh e2 bR,ae,?_⟩⟩
    rw [take_snoc hc,List.map_append,List.map_append]
    rfl
   ·rintro σ' ys H2 ⟨v,rfl,e2,a2,rfl⟩
    rw [List.length_map,List.length_map,List.take_length] at a2
    have g2:=g1.same e2
    have zP:=g1.kW bR
    have LF:acc≠p:=fun z=>zP (z▸List.mem_cons_self)
    walk_at "rd"
    refine dF g2.top (by rw [List.length_map,g.len]; exact az (by omega)) ?_
    have g3:=g2.snoc (List.nodup_cons.mp nd).1 LF a2
    rw [← pl.new,su pl.len] at g3
    have Jn:H acc = none:=by
     cases e:H acc with
     | none=>rfl
     | some o=>
      have:=o1 acc o (fun z=>zP (List.mem_cons_of_mem _ z)) e
      rw [bR] at this
      cases this
    refine q _ M acc (fun b o hb e=>?_) Jn g3 ?_ pl.sh pl.len
    ·rw [iV (as:=p :: as) List.mem_cons_self hb]
     exact e2 _ _ (o1 b o (fun z=>hb (List.mem_cons_of_mem _ z)) e)
    ·obtain ⟨n1,n2⟩:=List.nodup_cons.mp nd
     refine List.nodup_cons.mpr ⟨fun z=>?_,jo.mpr ⟨fun z=>zP (List.mem_cons_of_mem _ z),n2⟩⟩
     rcases List.mem_append.mp z with z | z
     ·exact n1 z
     ·exact LF (List.mem_singleton.mp z).symm
theorem bj:aZ ["_law_script", "_law_start", "_law_steps", "_law_orders", "_law_k", "_law_number", "_law_rings_here", "_law_ring", "_law_corners", "_law_at"] ["_law_script", "_law_start", "_law_steps"] (aw bK):=⟨rfl,rfl,rfl,by decide +kernel,rfl,by decide +kernel,by decide +kernel⟩
theorem ky (D:Def K mg "_law_grown" bK ["_law_script", "_law_start", "_law_steps"]) (T:Txt K mg Z) (bW:dE P w K mg base (cQ P w) "_law_mixed" 2 ["_law_script", "_law_k"] (d6 K)) (mX:dE P w K mg base (cQ P w) "_law_rings" 1 ["_law_orders"] nM)
  (jN:dE P w K mg base (cQ P w) "_law_put_tie" 1 ["_law_orders", "_law_ring", "_law_one", "_law_other"] kP) (iB:dE P w K mg base (cQ P w) "_law_put_place" 1 ["_law_orders", "_law_ring", "_law_corners"] iK):dE P w K mg base (cQ P w) "_law_grown" 3 ["_law_script", "_law_start", "_law_steps"] (nN K):=by
 refine D.dY bj (fun vs H Q E h=>?_) (fun f dv A outer s H vs Q E hr h=>?_)
 ·obtain ⟨a,ns,st,n,rfl,_⟩:=h; rfl
 ·obtain ⟨a,ns,st,n,rfl,hS,Rj,Ri,hn,q⟩:=h
  refine ⟨_,(ah (aJ (i:=3) bj.nd rfl (by first | exact Or.inl rfl | exact Or.inr rfl) (cv (aa (cv (aa ao ag)) (aa (cv (aa ao ag)) ag))))
   (ah (bV PassesOwn.never rfl (bA rfl T.range (aa (pv 2) ag)) (aP (i:=4) bj.nd rfl (by first | exact Or.inl rfl | exact Or.inr rfl))
   (ah (aJ (i:=5) bj.nd rfl (by first | exact Or.inl rfl | exact Or.inr rfl) (aN bW hr bP (aa (pv 0) (aa (aC b7 (pv 1) (pv 4)) ag))))
   (ah (aJ (i:=6) bj.nd rfl (by first | exact Or.inl rfl | exact Or.inr rfl) (aN mX hr bP (aa (pv 3) ag)))
   (ah (aJ (i:=7) bj.nd rfl (by first | exact Or.inl rfl | exact Or.inr rfl) (aL aA (pv 6) (aC bw (pv 5) (ax aH (by rfl) T.len aU (aa (pv 6) ag))) (fun _ _=>rfl)))
   (aq (bC (aB gU (aC bw (aC cJ (pv 5) ao) ao) ao (aT _)) (aq (bu (aN jN hr bP (aa (pv 3) (aa (pv 7) (aa (aC bw (aC cJ (pv 5) ao) (ax aH (by rfl) T.len aU (aa (pv 7) ag))) (aa (aC bw (aC cJ (pv 5) ao) (ax aH (by rfl) T.len aU (aa (pv 7) ag))) ag))))))) (ah (aJ (i:=8) bj.nd rfl (by first | exact Or.inl rfl | exact Or.inr rfl) (cv ag))
   (ah (bV PassesOwn.never rfl (bA rfl T.range (aa (ax aH (by rfl) T.len aU (aa (pv 7) ag)) ag)) (aP (i:=9) bj.nd rfl (by first | exact Or.inl rfl | exact Or.inr rfl))
   (aq (bC (PW.pt (pw_and (aB ck (aL aA (pv 7) (pv 9) (fun _ _=>rfl)) (fD gN (pv 7) qZ (dR (pv 9))) (by with_unfolding_all rfl)) (pw_and1 (aB iL (aC bw (aC b7 (aC cJ (pv 5) ao) (aC fZ (pv 9) (aC cJ (pv 5) ao))) ao) ao (aT _))))) (aq (bu (cE PySem.F.plainAttrs_list PySem.F.slot_list_append PySem.F.type_list_append cO (pv 8) (aa (pv 9) ag)))) aR)))
   (ah (bC (aB (zJ hr.units) (pv 8) (cv ag) (aT _)) (aq (aJ (i:=8) bj.nd rfl (by first | exact Or.inl rfl | exact Or.inr rfl) (cv (aa (aC bw (aC cJ (pv 5) ao) (ax aH (by rfl) T.len aU (aa (pv 7) ag))) ag)))) aR)
   (aq (bu (aN iB hr bP (aa (pv 3) (aa (pv 7) (aa (pv 8) ag)))))))))))))))
   (aq (aX (pv 3))))),?_⟩
  dsimp only [dN]
  walk_at "rd"
  refine ⟨by rw [PySem.sizeLine_eq]; simp,fun b1 EB=>?_⟩
  walk_at "rd"
  refine ⟨by rw [PySem.sizeLine_eq]; simp,fun b2 yH=>?_⟩
  walk_at "rd"
  refine fun p hp=>?_
  have Ia:H b2 = none:=(aj.upd EB).free yH
  have yE:H p = none:=((aj.upd EB).trans (aj.upd yH)).free hp
  have Bd:b2≠b1:=fun z=>by rw [z,ae] at yH; cases yH
  have Ke:p≠b2:=fun z=>by rw [z,ae] at hp; cases hp
  have Kf:p≠b1:=fun z=>by rw [z,ak (fun w=>Bd w.symm),ae] at hp; cases hp
  have e0:aj H (upd (upd (upd H b1 (.lst [.int 1])) b2 (.lst [.int 0])) p (.lst [.ref b1,.ref b2])):=((aj.upd EB).trans (aj.upd yH)).trans (aj.upd hp)
  have g0:aV (upd (upd (upd H b1 (.lst [.int 1])) b2 (.lst [.int 0])) p (.lst [.ref b1,.ref b2])) p [b1,b2] [[1],[0]]:=by
   refine ⟨ae,rfl,fun i c l h1 h2=>?_⟩
   have hi:i = 0∨i = 1:=by
    have:=(List.getElem?_eq_some_iff.mp h1).1
    simp at this
    omega
   rcases hi with rfl | rfl
   ·simp at h1 h2
    subst h1 h2
    rw [ak (fun z=>Kf z.symm),ak (fun z=>Bd z.symm)]
    exact ae
   ·simp at h1 h2
    subst h1 h2
    rw [ak (fun z=>Ke z.symm)]
    exact ae
  have Km:(p :: [b1,b2]).Nodup:=by
   simp [Kf,Ke]
   exact fun z=>Bd z.symm
  have Ld:∀ b∈p :: [b1,b2],H b = none:=by
   intro b hb
   simp at hb
   rcases hb with rfl | rfl | rfl
   ·exact yE
   ·exact EB
   ·exact Ia
  generalize upd (upd (upd H b1 (.lst [.int 1])) b2 (.lst [.int 0])) p (.lst [.ref b1,.ref b2]) = H0 at e0 g0 ⊢
  walk_at "rd"
  refine cN ?_
  refine ⟨_,rfl,(n:Int),rfl,by omega,by omega,?_⟩
  rw [Int.toNat_natCast]
  refine bB (fun k σ H1=>∃ (as:List Addr) (L:List (List Int)) (v4 v5 v6 v7 v8 v9:Option V),σ = [some (.ref a),some (.int st),some (.int (n:Int)),some (.ref p),v4,v5,v6,v7,v8,v9]∧aj H H1∧aV H1 p as L∧(p :: as).Nodup∧(∀ b∈p :: as,H b = none)∧cG L∧L.length≤2 + k)
   ⟨[b1,b2],[[1],[0]],none,none,none,none,none,none,rfl,e0,g0,Km,Ld,qo,by simp⟩ ?_ ?_
  ·clear e0 g0 Km Ld
   rintro k σ H1 hk ⟨as,L,v4,v5,v6,v7,v8,v9,rfl,e1,g1,rz,jR,kg,hlen⟩
   simp only [Int.zero_add]
   have im:=kg.map
   have lC:=kg.lC (by omega)
   walk_at "rd"
   refine ⟨a,ns,st + k,rfl,e1.seq hS,by omega,by omega,fun num n0 n1=>?_⟩
   walk_at "rd"
   refine ⟨p,as,L,rfl,g1,im,by omega,by omega,fun t bs R H2 e2 t2 Rr Pu dec=>?_⟩
   have R0:=kg.pos dec
   have g2:=g1.same e2
   walk_at "rd"
   refine ⟨_,_,rfl,.inl ⟨_,aG.of t2.top,rfl⟩,?_⟩
   rw [List.length_map,t2.len,List.length_map]
   have hp:(0:Int) < (R.length:Int):=by omega
   walk_at "rd"
   have m0:=Int.emod_nonneg num (show (R.length:Int)≠0 by omega)
   have m1:=Int.emod_lt_of_pos num hp
   obtain ⟨mi,OR⟩:=Int.eq_ofNat_of_zero_le m0
   rw [OR] at m1 ⊢
   obtain ⟨rc,rl,Bg,Ai,hE⟩:=t2.at (i:=mi) (by rw [List.length_map]; omega)
   rw [List.getElem?_map] at Ai
   obtain ⟨c,O7,rfl⟩:∃ c,R[mi]? = some c∧c.map (·.1) = rl:=by
    cases e:R[mi]? with
    | none=>rw [e] at Ai; cases Ai
    | some z=>rw [e] at Ai; exact ⟨z,rfl,Option.some.inj Ai⟩
   have K3:=List.mem_of_getElem? O7
   obtain ⟨gd,My,ER⟩:=dec.good im K3
   have FI:(sh 0 (c.map (·.1))).Nodup:=by rw [My]; exact ER
   have De:(c.map (·.1)).length≤(fe L L.length).length:=by
    rw [List.length_map]
    exact fI ER fun d hd=>((dec.mem d).mp (List.mem_flatten.mpr ⟨c,K3,hd⟩)).all
   have MG:=List.mem_of_getElem? Bg
   have BZ:=g1.kW (Pu rc (List.mem_cons_of_mem _ MG))
   have zj:rc∉as:=fun z=>BZ (List.mem_cons_of_mem _ z)
   have JY:rc≠p:=fun z=>BZ (by rw [z]; exact List.mem_cons_self)
   generalize c.map (·.1) = r at gd FI De hE
   have two:=gd.two
   have ze:(0:Int) < (r.length:Int):=by omega
   refine aQ (aG.of t2.top) (t2.ix Bg) ?_
   walk_at "rd"
   refine if2 (fun K1=>?_) (fun OI=>?_)
   ·walk_at "rd"
    refine ⟨_,_,rfl,.inl ⟨_,aG.of hE,rfl⟩,?_⟩
    rw [List.length_map]
    walk_at "rd"
    refine ⟨_,_,rfl,.inl ⟨_,aG.of hE,rfl⟩,?_⟩
    rw [List.length_map]
    walk_at "rd"
    have i0:=Int.emod_nonneg (num / 128) (show (r.length:Int)≠0 by omega)
    have i1:=Int.emod_lt_of_pos (num / 128) ze
    have j0:=Int.emod_nonneg (num / 4096) (show (r.length:Int)≠0 by omega)
    have j1:=Int.emod_lt_of_pos (num / 4096) ze
    obtain ⟨i,hi⟩:=Int.eq_ofNat_of_zero_le i0
    obtain ⟨j,hj⟩:=Int.eq_ofNat_of_zero_le j0
    rw [hi,hj]
    refine ⟨p,rc,as,L,r,i,j,rfl,g2,rz,hE,zj,kg,gd,by omega,by omega,by omega,fun H3 L3 off g3 Mz l3=>?_⟩
    exact ⟨as,L3,_,_,_,_,_,_,rfl,aj.off (e1.trans e2) (fun b hb=>jR b (List.mem_cons_of_mem _ hb)) off,g3,rz,jR,Mz,by omega⟩
   ·walk_at "rd"
    refine ⟨Nat.zero_le _,fun qa Hz=>?_⟩
    have e3:aj H2 (upd H2 qa (.lst [])):=aj.upd Hz
    have q3:upd H2 qa (.lst []) qa = some (.lst ((([]:List Nat).map fun c:Nat=>(c:Int)).map V.int)):=ae
    generalize upd H2 qa (.lst []) = H3 at e3 q3 ⊢
    have Ca:=g2.kW Hz
    walk_at "rd"
    refine cN ?_
    refine ⟨_,rfl,_,_,rfl,.inl ⟨_,aG.of (e3 _ _ hE),rfl⟩,(r.length:Int),by rw [List.length_map],by omega,by omega,?_⟩
    rw [Int.toNat_natCast]
    refine bB (fun i σ H4=>∃ (cs:List Nat) (v9:Option V),σ = [some (.ref a),some (.int st),some (.int (n:Int)),some (.ref p),some (.int (k:Int)),some (.int num),some (.ref t),some (.ref rc),some (.ref qa),v9]∧aj H2 H4∧H4 qa = some (.lst ((cs.map fun c:Nat=>(c:Int)).map V.int))∧cs.Pairwise (· < ·)∧(∀ c∈cs,c < i)∧(cs.map (cy r)).Nodup∧cs.length≤i)
     ⟨[],_,rfl,e3,q3,.nil,by simp,.nil,Nat.le_refl _⟩ ?_ ?_
    ·rintro i σ H4 hi ⟨cs,w9,rfl,e4,q4,c1,c2,c3,c4⟩
     simp only [Int.zero_add]
     have vm:=e4 _ _ hE
     walk_at "rd"
     refine aQ (aG.of vm) (eY (j:=i) (by omega) (by omega) (.inl rfl)) ?_
     refine qU (a:=rc) (i:=7) (k:=9) (n:=i) (r:=r) rfl rfl (aG.of vm) (by omega) fun p1 rN=>?_
     have e5:aj H4 (upd H4 p1 (.lst ((r.take i).map V.int))):=aj.upd rN
     refine ir (aG.of ae) ?_
     rw [if_pos rfl]
     generalize upd H4 p1 (.lst ((r.take i).map V.int)) = H5 at e5 ⊢
     walk_at "rd"
     refine dG (fun xw=>?_) (fun hold=>?_)
     ·walk_at "rd"
      refine wB (Sz.Cp (m:=20) (n:=40) (by unfold Sz; omega) (by unfold Sz; omega)) ?_
      walk_at "rd"
      refine dG (fun h3=>?_) (fun h3=>?_)
      ·walk_at "rd"
       refine ⟨.inl ⟨rfl,_,aG.of (e5 _ _ q4)⟩,?_⟩
       walk_at "rd"
       refine dF (e5 _ _ q4) (by rw [List.length_map,List.length_map]; exact az (by omega)) ?_
       refine ⟨cs ++ [i],_,rfl,aj.fresh (e4.trans e5) Hz,?_,?_,fun c hc=>?_,?_,by rw [List.length_append,List.length_singleton]; omega⟩
       ·rw [List.map_append,List.map_append]; exact ae
       ·rw [List.pairwise_append]
        refine ⟨c1,by simp,fun x hx y hy=>?_⟩
        rw [List.mem_singleton.mp hy]
        exact c2 x hx
       ·rcases List.mem_append.mp hc with z | z
        ·have:=c2 c z; omega
        ·rw [List.mem_singleton.mp z]; omega
       ·rw [List.map_append,List.map_singleton]
        refine qJ.mpr ⟨fun z=>?_,c3⟩
        obtain ⟨c,hc,ec⟩:=List.mem_map.mp z
        refine xw ?_
        rw [← ec,yM (by have:=c2 c hc; omega)]
        refine List.mem_take_iff_getElem.mpr ⟨c,by have:=c2 c hc; omega,rfl⟩
      ·exact ⟨cs,_,rfl,e4.trans e5,e5 _ _ q4,c1,fun c hc=>by have:=c2 c hc; omega,c3,by omega⟩
     ·walk_at "rd"
      exact ⟨cs,_,rfl,e4.trans e5,e5 _ _ q4,c1,fun c hc=>by have:=c2 c hc; omega,c3,by omega⟩
    ·rintro σ H4 ⟨cs,w9,rfl,e4,q4,c1,c2,c3,c4⟩
     walk_at "rd"
     refine ⟨Nat.zero_le _,fun z hz=>?_⟩
     have e5:aj H4 (upd H4 z (.lst [])):=aj.upd hz
     refine ⟨b9 (cs.map fun c:Nat=>(c:Int)),b9 [],eJ (e5 _ _ q4),eJ ae,shaped_ints _,shaped_ints _,?_⟩
     rw [if_neg (by decide),m7]
     generalize upd H4 z (.lst []) = H5 at e5 ⊢
     walk_at "rd"
     refine if2 (fun RQ=>?_) (fun hJ=>?_)
     ·walk_at "rd"
      refine ⟨_,_,rfl,.inl ⟨_,aG.of (e5 _ _ (e4 _ _ hE)),rfl⟩,?_⟩
      rw [List.length_map]
      walk_at "rd"
      have i0:=Int.emod_nonneg (num / 128) (show (r.length:Int)≠0 by omega)
      have i1:=Int.emod_lt_of_pos (num / 128) ze
      obtain ⟨i,hi⟩:=Int.eq_ofNat_of_zero_le i0
      rw [hi] at i1 ⊢
      refine ⟨by rw [PySem.sizeLine_eq]; simp,fun q2 yD=>?_⟩
      have e6:aj H2 (upd H5 q2 (.lst [.int (i:Int)])):=(e4.trans e5).trans (aj.upd yD)
      have c6:upd H5 q2 (.lst [.int (i:Int)]) q2 = some (.lst ((([i]:List Nat).map fun c:Nat=>(c:Int)).map V.int)):=ae
      have yt:=((g2.same e4).same e5).kW yD
      generalize upd H5 q2 (.lst [.int (i:Int)]) = H6 at e6 c6 ⊢
      walk_at "rd"
      refine ⟨p,rc,q2,as,L,r,[i],rfl,g2.same e6,rz,e6 _ _ hE,zj,c6,fun w=>yt (List.mem_cons_of_mem _ w),JY,fun w=>yt (by rw [w]; exact List.mem_cons_self),kg,gd,FI,by simp,by simp,fun c hc=>by rw [List.mem_singleton.mp hc]; omega,by simp,by simp,by omega,fun H7 L7 nw off GN g7 GS FJ l7=>?_⟩
      have C3:=(e1.trans e2).trans e6
      refine ⟨_,L7,_,_,_,_,_,_,rfl,aj.off C3 jR off,g7,GS,fun b hb=>?_,FJ,by omega⟩
      rcases List.mem_cons.mp hb with w | w
      ·rw [w]; exact jR p List.mem_cons_self
      ·rcases List.mem_append.mp w with w | w
       ·exact jR b (List.mem_cons_of_mem _ w)
       ·rw [List.mem_singleton.mp w]; exact C3.free GN
     ·walk_at "rd"
      have c0:cs≠[]:=fun w=>hJ (by rw [w]; rfl)
      have e6:=e4.trans e5
      refine ⟨p,rc,qa,as,L,r,cs,rfl,g2.same e6,rz,e6 _ _ hE,zj,e5 _ _ q4,fun w=>Ca (List.mem_cons_of_mem _ w),JY,fun w=>Ca (by rw [w]; exact List.mem_cons_self),kg,gd,FI,c0,c1,c2,c3,by omega,by omega,fun H7 L7 nw off GN g7 GS FJ l7=>?_⟩
      have C3:=(e1.trans e2).trans e6
      refine ⟨_,L7,_,_,_,_,_,_,rfl,aj.off C3 jR off,g7,GS,fun b hb=>?_,FJ,by omega⟩
      rcases List.mem_cons.mp hb with w | w
      ·rw [w]; exact jR p List.mem_cons_self
      ·rcases List.mem_append.mp w with w | w
       ·exact jR b (List.mem_cons_of_mem _ w)
       ·rw [List.mem_singleton.mp w]; exact C3.free GN
  ·rintro σ H1 ⟨as,L,v4,v5,v6,v7,v8,v9,rfl,e1,g1,rz,jR,kg,hlen⟩
   walk_at "rd"
   exact q p as L H1 e1 g1 rz jR kg hlen
theorem cI:aZ ["_law_orders", "_law_start", "_law_gone", "_law_found", "_law_k", "_law_place"] ["_law_orders", "_law_start", "_law_gone"] (aw bq):=⟨rfl,rfl,rfl,by decide +kernel,rfl,by decide +kernel,by decide +kernel⟩
theorem iQ (D:Def K mg "_law_come_to" bq ["_law_orders", "_law_start", "_law_gone"]) (T:Txt K mg Z):dE P w K mg base (cQ P w) "_law_come_to" 1 ["_law_orders", "_law_start", "_law_gone"] jk:=by
 refine D.dY cI (fun vs H Q E h=>?_) (fun f dv A outer s H vs Q E hr h=>?_)
 ·obtain ⟨p,as,L,S,st,sa,rfl,_⟩:=h; rfl
 ·obtain ⟨p,as,L,S,st,sa,rfl,g,hs,hn,im,s0,s1,q⟩:=h
  refine ⟨_,(ah (aJ (i:=3) cI.nd rfl (by first | exact Or.inl rfl | exact Or.inr rfl) (cv (aa (pv 1) ag)))
   (ah (bV PassesOwn.never rfl (bA rfl T.range (aa (ax aH (by rfl) T.len aU (aa (pv 0) ag)) ag)) (aP (i:=4) cI.nd rfl (by first | exact Or.inl rfl | exact Or.inr rfl))
   (aq (bV PassesOwn.never rfl (bA rfl T.range (aa (ax aH (by rfl) T.len aU (aa (pv 0) ag)) ag)) (aP (i:=5) cI.nd rfl (by first | exact Or.inl rfl | exact Or.inr rfl))
   (aq (bC (PW.pt (pw_and (aB ck (pv 5) (pv 3) (by with_unfolding_all rfl)) (pw_and1 (aB ck (pv 5) (pv 2) (by with_unfolding_all rfl))))) (aq (bC (aB (pR hr.units) (fX (tg:=["_law_other"]) (fr:=[("_law_found",3)]) (by walk_at "blk_ok") rfl (cg (aL aA (pv 0) (pv 5) (fun _ _=>rfl))) (fun _ _ _ _ _=>(aP (i:=0) (show [("_law_other" : Str),("_law_found" : Str)].Nodup by decide +kernel) rfl (by first | exact Or.inl rfl | exact Or.inr rfl))) (fun _ _ _ _ _=>(fz (aB (pU (K:=K) rfl) (pv 0) (pv 1) (by with_unfolding_all rfl)))) (fun _ _ _ _ _=>(pv 0))) (cv ag) (aT _)) (aq (bu (cE PySem.F.plainAttrs_list PySem.F.slot_list_append PySem.F.type_list_append cO (pv 3) (aa (pv 5) ag)))) aR)) aR)))))
   (aq (aX (pv 3))))),?_⟩
  dsimp only [dN]
  walk_at "rd"
  refine ⟨by rw [PySem.sizeLine_eq]; simp,fun t ht=>?_⟩
  have e0:aj H (upd H t (.lst [.int st])):=aj.upd ht
  walk_at "rd"
  refine cN ?_
  refine ⟨_,rfl,_,_,rfl,.inl ⟨_,aG.of (e0 _ _ g.top),rfl⟩,(L.length:Int),by rw [List.length_map,g.len],by omega,by omega,?_⟩
  rw [Int.toNat_natCast]
  refine bB (fun k σ H1=>∃ (fs:List Int) (v2 v3:Option V),σ = [some (.ref p),some (.int st),some (.ref sa),some (.ref t),v2,v3]∧aj H H1∧H1 t = some (.lst (fs.map V.int))∧wc L S st fs k) ⟨[st],none,none,rfl,e0,ae,wc.start⟩ ?_ ?_
  ·rintro k σ H1 hk ⟨m5,v2,v3,rfl,e1,t1,pa⟩
   walk_at "rd"
   refine cN ?_
   refine ⟨_,rfl,_,_,rfl,.inl ⟨_,aG.of (e1 _ _ g.top),rfl⟩,(L.length:Int),by rw [List.length_map,g.len],by omega,by omega,?_⟩
   rw [Int.toNat_natCast]
   refine bB (fun j σ H2=>∃ (fs:List Int) (v2 v3:Option V),σ = [some (.ref p),some (.int st),some (.ref sa),some (.ref t),v2,v3]∧aj H H2∧H2 t = some (.lst (fs.map V.int))∧wb L S st m5 fs j) ⟨m5,_,_,rfl,e1,t1,pa.pass⟩ ?_ ?_
   ·rintro j σ H2 hj ⟨fs,w2,w3,rfl,e2,t2,pi⟩
    obtain ⟨b,l,ha,hl,dM⟩:=g.at hj
    have lf:=JB.len im ⟨s0,s1⟩ pi.nd pi.re
    have ll:l.length≤L.length:=cn (im.nd _ _ hl) fun y hy=>⟨(im.rg _ _ hl y hy).1,(im.rg _ _ hl y hy).2.1⟩
    simp only [Int.zero_add]
    walk_at "rd"
    refine ir (aG.of t2) ?_
    rw [if_pos rfl]
    walk_at "rd"
    refine dG (fun An=>?_) (fun CA=>?_)
    ·walk_at "rd"
     refine ir (x:=(j:Int)) (aG.of (e2 _ _ hs)) ?_
     rw [if_pos rfl]
     walk_at "rd"
     refine dG (fun nS=>?_) (fun yS=>⟨fs,_,_,rfl,e2,t2,pi.skip (.inr (.inl yS))⟩)
     walk_at "rd"
     refine eN ?_
     refine ⟨_,rfl,_,rfl,aQ (aG.of (e2 _ _ g.top)) (g.ix ha) ?_⟩
     refine ⟨b,rfl,⟨_,aG.of (e2 _ _ dM)⟩,fun acc bR=>?_⟩
     have at2:acc≠t:=Ne.symm (aF t2 bR)
     refine cU (K:=K) (a:=b) (xs:=l.map V.int) (fun i σ' ys H3=>∃ v:Option V,σ' = [v,some (.ref t)]∧aj H2 H3∧H3 acc = some (.lst ys)∧ys = ((l.take i).filter (fun y=>decide (y∈fs))).map V.int)
      ⟨none,rfl,aj.upd bR,ae,rfl⟩ (fun i σ' ys H3 _ ⟨_,_,e,_⟩=>aG.of (e _ _ (e2 _ _ dM))) ?_ ?_
     ·rintro i x σ' ys H3 hx hi ⟨v,rfl,e3,a3,rfl⟩
      obtain ⟨y,hy,rfl⟩:∃ y,l[i]? = some y∧x = V.int y:=by
       rw [List.getElem?_map] at hx
       cases e:l[i]? with
       | none=>rw [e] at hx; cases hx
       | some z=>rw [e] at hx; exact ⟨z,rfl,(Option.some.inj hx).symm⟩
      have tk:l.take (i + 1) = l.take i ++ [y]:=by rw [List.take_succ,hy]; rfl
      rw [List.length_map] at hi
      have fl:((l.take i).filter (fun y=>decide (y∈fs))).length≤L.length:=by
       have h1:=List.length_filter_le (fun y=>decide (y∈fs)) (l.take i)
       have h2:(l.take i).length≤l.length:=by rw [List.length_take]; omega
       omega
      walk_at "rd"
      refine ir (aG.of (e3 _ _ t2)) ?_
      rw [if_neg (by decide)]
      walk_at "rd"
      refine if2 (fun hm=>?_) (fun hm=>?_)
      ·walk_at "rd"
       refine ⟨a3,by rw [List.length_map]; exact az (by omega),dH (by rw [List.length_map]; exact hi) ⟨_,rfl,aj.fresh e3 bR,ae,?_⟩⟩
       rw [tk,List.filter_append,List.map_append,List.filter_cons,if_pos (by simpa using hm)]
       rfl
      ·refine dH (by rw [List.length_map]; exact hi) ⟨_,rfl,e3,a3,?_⟩
       rw [tk,List.filter_append,List.map_append,List.filter_cons,if_neg (by simpa using hm)]
       simp
     ·rintro σ' ys H3 ⟨v,rfl,e3,a3,rfl⟩
      rw [List.length_map,List.take_length] at a3
      walk_at "rd"
      refine ⟨Nat.zero_le _,fun z hz=>?_⟩
      refine ⟨b9 (l.filter (fun y=>decide (y∈fs))),b9 [],eJ (by rw [ak (aF a3 hz)]; exact a3),eJ ae,shaped_ints _,shaped_ints _,?_⟩
      rw [if_pos rfl,m7]
      have e4:aj H2 (upd H3 z (.lst [])):=e3.trans (aj.upd hz)
      walk_at "rd"
      refine dG (fun hJ=>?_) (fun heq=>?_)
      ·walk_at "rd"
       refine ⟨.inl ⟨rfl,_,aG.of (e4 _ _ t2)⟩,?_⟩
       walk_at "rd"
       refine dF (e4 _ _ t2) (by rw [List.length_map]; exact az (by omega)) ?_
       obtain ⟨y,hy⟩:=List.exists_mem_of_ne_nil _ hJ
       rw [List.mem_filter] at hy
       exact ⟨fs ++ [(j:Int)],_,_,rfl,aj.fresh (e2.trans e4) ht,by rw [List.map_append]; exact ae,pi.add im hl An nS hy.1 (by simpa using hy.2)⟩
      ·refine ⟨fs,_,_,rfl,e2.trans e4,e4 _ _ t2,pi.skip (.inr (.inr fun l' sT x hx hf=>?_))⟩
       rw [hl] at sT
       cases sT
       have:x∈l.filter (fun y=>decide (y∈fs)):=List.mem_filter.mpr ⟨hx,by simpa using hf⟩
       rw [heq] at this
       cases this
    ·exact ⟨fs,_,_,rfl,e2,t2,pi.skip (.inl CA)⟩
   ·rintro σ H2 ⟨fs,w2,w3,rfl,e2,t2,pi⟩
    exact ⟨fs,_,_,rfl,e2,t2,pi.done pa⟩
  ·rintro σ H1 ⟨fs,v2,v3,rfl,e1,t1,pa⟩
   walk_at "rd"
   exact q t fs H1 e1 t1 pa.nd (pa.all im ⟨s0,s1⟩)
theorem fb:aZ ["_law_road", "_law_orders", "_law_one", "_law_other", "_law_k"] ["_law_road", "_law_orders", "_law_one", "_law_other"] (aw bp):=⟨rfl,rfl,rfl,by decide +kernel,rfl,by decide +kernel,by decide +kernel⟩
theorem iP (D:Def K mg "_law_is_road" bp ["_law_road", "_law_orders", "_law_one", "_law_other"]) (T:Txt K mg Z) (eX:dE P w K mg base (cQ P w) "_law_whole" 1 ["_law_found"] ji):dE P w K mg base (cQ P w) "_law_is_road" 2 ["_law_road", "_law_orders", "_law_one", "_law_other"] kQ:=by
 refine D.dY fb (fun vs H Q E h=>?_) (fun f dv A outer s H vs Q E hr h=>?_)
 ·obtain ⟨x,p,as,L,a,b,rd,rfl,_⟩:=h; rfl
 ·obtain ⟨x,p,as,L,a,b,rd,rfl,g,hn,hx,R,q⟩:=h
  have two:=R.len
  have el:((aK rd).map V.int).length = rd.length:=by rw [List.length_map,aK,List.length_map]
  have fw:rd.length≤L.length:=by
   have:=R.nd.length_le_of_subset (l₂:=List.range L.length) fun x hx=>List.mem_range.mpr (R.rg x hx)
   simpa using this
  have AS:∀ {k c:Nat},rd[k]? = some c→j3 ((aK rd).map V.int) (k:Int) = some (V.int (c:Int)):=fun {k c} h=>by
   have e:(aK rd)[k]? = some (c:Int):=by unfold aK; rw [List.getElem?_map,h]; rfl
   have kl:=(List.getElem?_eq_some_iff.mp e).1
   exact jc (by rw [List.getElem?_map,e]; rfl)
  refine ⟨_,(ah (bC (PW.pt (pw_or (eP (eO (ax cV (by rfl) T.isinstance bO (aa (pv 0) (aa (eR (v:=.ty "list") rfl T.list hW rfl) ag))))) (pw_or (aB jz (ax aH (by rfl) T.len aU (aa (pv 0) ag)) ao (aT _)) (pw_or (aB iL (aL aA (pv 0) ao (fun _ _=>rfl)) (pv 2) (aT _)) (pw_or1 (aB iL (aL aA (pv 0) (kU ie ao) (fun _ _=>rfl)) (pv 3) (aT _))))))) (aq (aX cZ)) aR)
   (ah (bV PassesOwn.never rfl (bA rfl T.range (aa (ax aH (by rfl) T.len aU (aa (pv 0) ag)) ag)) (aP (i:=4) fb.nd rfl (by first | exact Or.inl rfl | exact Or.inr rfl))
   (ah (bC (PW.pt (pw_or (eP (eO (aN eX hr bP (aa (aL aA (pv 0) (pv 4) (fun _ _=>rfl)) ag)))) (pw_or (aB jz (aL aA (pv 0) (pv 4) (fun _ _=>rfl)) ao (aT _)) (pw_or (aB yy (aL aA (pv 0) (pv 4) (fun _ _=>rfl)) (ax aH (by rfl) T.len aU (aa (pv 1) ag)) (aT _)) (pw_or1 (aB cR (aL aA (pv 0) (pv 4) (fun _ _=>rfl)) (fD gN (pv 0) qZ (dR (pv 4))) (by with_unfolding_all rfl))))))) (aq (aX cZ)) aR)
   (aq (bC (PW.pt (pw_and (aB n9 (pv 4) ao (aT _)) (pw_and1 (aB ck (aL aA (pv 0) (pv 4) (fun _ _=>rfl)) (aL aA (pv 1) (aL aA (pv 0) (aC gC (pv 4) ao) (fun _ _=>rfl)) (fun _ _=>rfl)) (by with_unfolding_all rfl))))) (aq (aX cZ)) aR))))
   (aq (aX cZ)))),?_⟩
  dsimp only [dN]
  walk_at "rd"
  refine eK (.lst hx) (.ty _) p8 ?_
  walk_at "rd"
  refine ⟨_,_,rfl,.inl ⟨_,aG.of hx,rfl⟩,?_⟩
  rw [el]
  walk_at "rd"
  refine if2 (fun h=>absurd h (by omega)) (fun _=>?_)
  walk_at "rd"
  refine aQ (aG.of hx) (AS R.hd) ?_
  walk_at "rd"
  refine dG (fun h=>absurd rfl h) (fun _=>?_)
  walk_at "rd"
  refine aQ (aG.of hx) (Fw.vK (l:=aK rd) (n:=rd.length - 1) (y:=(b:Int)) (by rw [aK,List.length_map]; omega) (by unfold aK; rw [List.getElem?_map,R.lst]; rfl)) ?_
  walk_at "rd"
  refine dG (fun h=>absurd rfl h) (fun _=>?_)
  walk_at "rd"
  refine cN ?_
  refine ⟨_,rfl,_,_,rfl,.inl ⟨_,aG.of hx,rfl⟩,(rd.length:Int),by rw [el],by omega,by omega,?_⟩
  rw [Int.toNat_natCast]
  refine bB (fun k σ H1=>∃ v:Option V,σ = [some (.ref x),some (.ref p),some (.int (a:Int)),some (.int (b:Int)),v]∧aj H H1) ⟨none,rfl,fun _ _ e=>e⟩ ?_ ?_
  ·rintro k σ H1 hk ⟨v,rfl,e1⟩
   simp only [Int.zero_add]
   obtain ⟨c,hc⟩:∃ c,rd[k]? = some c:=⟨_,List.getElem?_eq_getElem hk⟩
   have cl:=R.rg c (List.mem_of_getElem? hc)
   have x1:=e1 _ _ hx
   have g1:=g.same e1
   walk_at "rd"
   refine aQ (aG.of x1) (AS hc) ?_
   walk_at "rd"
   refine ⟨_,rfl,?_⟩
   walk_at "rd"
   refine aQ (aG.of x1) (AS hc) ?_
   walk_at "rd"
   refine if2 (fun h=>absurd h (by omega)) (fun _=>?_)
   walk_at "rd"
   refine aQ (aG.of x1) (AS hc) ?_
   walk_at "rd"
   refine ⟨_,_,rfl,.inl ⟨_,aG.of g1.top,rfl⟩,?_⟩
   rw [List.length_map,g1.len]
   walk_at "rd"
   refine if2 (fun h=>absurd h (by omega)) (fun _=>?_)
   walk_at "rd"
   refine aQ (aG.of x1) (AS hc) ?_
   refine qU (a:=x) (i:=0) (k:=4) (n:=k) (r:=aK rd) rfl rfl (aG.of x1) (by rw [aK,List.length_map]; omega) fun p1 rN=>?_
   have e2:aj H1 (upd H1 p1 (.lst (((aK rd).take k).map V.int))):=aj.upd rN
   refine ir (aG.of ae) ?_
   rw [if_neg (by decide)]
   generalize upd H1 p1 (.lst (((aK rd).take k).map V.int)) = H2 at e2 ⊢
   walk_at "rd"
   refine if2 (fun h=>?_) (fun _=>?_)
   ·exfalso
    obtain ⟨j,hj⟩:=List.mem_iff_getElem?.mp h
    have jl:=(List.getElem?_eq_some_iff.mp hj).1
    rw [List.length_take] at jl
    rw [List.getElem?_take,if_pos (by omega)] at hj
    unfold aK at hj
    rw [List.getElem?_map] at hj
    cases e:rd[j]? with
    | none=>rw [e] at hj; cases hj
    | some y=>
     rw [e] at hj
     have hy:(y:Int) = (c:Int):=Option.some.inj hj
     have hy:y = c:=by omega
     subst hy
     have q1:=List.getElem?_eq_some_iff.mp e
     have q2:=List.getElem?_eq_some_iff.mp hc
     have:=(List.getElem_inj R.nd).mp (q1.2.trans q2.2.symm)
     omega
   walk_at "rd"
   refine if2 (fun h=>?_) (fun _=>?_)
   ·walk_at "rd"
    obtain ⟨u,hu⟩:∃ u,rd[k - 1]? = some u:=⟨_,List.getElem?_eq_getElem (by omega)⟩
    obtain ⟨l,hl,yF⟩:=R.go (k - 1) u c hu (by rw [show k - 1 + 1 = k by omega]; exact hc)
    have x2:=e2 _ _ x1
    have g2:=g1.same e2
    have ul:=R.rg u (List.mem_of_getElem? hu)
    obtain ⟨ru,l',Oy,sT,dM⟩:=g2.at (i:=u) ul
    obtain rfl:l = l':=by rw [hl] at sT; exact Option.some.inj sT
    refine aQ (aG.of x2) (AS hc) ?_
    walk_at "rd"
    refine aQ (aG.of x2) (by rw [show (k:Int) - 1 = ((k - 1:Nat):Int) by omega]; exact AS hu) ?_
    refine aQ (aG.of g2.top) (g2.ix Oy) ?_
    refine ir (ns:=l) (aG.of dM) ?_
    rw [if_pos rfl]
    walk_at "rd"
    refine dG (fun h=>absurd yF h) (fun _=>?_)
    exact ⟨_,rfl,e1.trans e2⟩
   ·exact ⟨_,rfl,e1.trans e2⟩
  ·rintro σ H1 ⟨v,rfl,e1⟩
   walk_at "rd"
   exact q _ e1
theorem dW:aZ ["_law_found", "_law_orders", "_law_one", "_law_other", "_law_road", "_law_amid"] ["_law_found", "_law_orders", "_law_one", "_law_other"] (aw bH):=⟨rfl,rfl,rfl,by decide +kernel,rfl,by decide +kernel,by decide +kernel⟩
theorem ko (D:Def K mg "_law_three" bH ["_law_found", "_law_orders", "_law_one", "_law_other"]) (T:Txt K mg Z) (jO:dE P w K mg base (cQ P w) "_law_is_road" 2 ["_law_road", "_law_orders", "_law_one", "_law_other"] kQ):dE P w K mg base (cQ P w) "_law_three" 3 ["_law_found", "_law_orders", "_law_one", "_law_other"] nJ:=by
 refine D.dY dW (fun vs H Q E h=>?_) (fun f dv A outer s H vs Q E hr h=>?_)
 ·obtain ⟨x,p,as,xs,L,a,b,ρ,rfl,_⟩:=h; rfl
 ·obtain ⟨x,p,as,xs,L,a,b,ρ,rfl,g,hn,gx,R,q⟩:=h
  have l3:=R.len
  have lx:xs.length = 3:=by rw [gx.len,List.length_map,l3]
  refine ⟨_,(ah (bC (PW.pt (pw_or (eP (eO (ax cV (by rfl) T.isinstance bO (aa (pv 0) (aa (eR (v:=.ty "list") rfl T.list hW rfl) ag))))) (pw_or1 (aB iL (ax aH (by rfl) T.len aU (aa (pv 0) ag)) ao (aT _))))) (aq (aX cZ)) aR)
   (ah (bV PassesOwn.never rfl (cg (pv 0)) (aP (i:=4) dW.nd rfl (by first | exact Or.inl rfl | exact Or.inr rfl))
   (aq (bC (eP (eO (aN jO hr bP (aa (pv 4) (aa (pv 1) (aa (pv 2) (aa (pv 3) ag))))))) (aq (aX cZ)) aR)))
   (ah (aJ (i:=5) dW.nd rfl (by first | exact Or.inl rfl | exact Or.inr rfl) (aC pV (aC pV (fD gN (aL aA (pv 0) ao (fun _ _=>rfl)) (dR ao) (dR (kU ie ao))) (fD gN (aL aA (pv 0) ao (fun _ _=>rfl)) (dR ao) (dR (kU ie ao)))) (fD gN (aL aA (pv 0) ao (fun _ _=>rfl)) (dR ao) (dR (kU ie ao)))))
   (aq (aX (pP (gT gU (ax tG (by rfl) T.len aU (aa (fY (tF rfl) (by rfl) T.set AO (aa (pv 5) ag)) ag)) (ax aH (by rfl) T.len aU (aa (pv 5) ag)) (aT _)) (pO (gT jz (ax aH (by rfl) T.len aU (aa (fX (tg:=["_law_road"]) (fr:=[]) (by walk_at "blk_ok") rfl (cg (pv 0)) (fun _ _ _ _ _=>(aP (i:=0) (show [("_law_road" : Str)].Nodup by decide +kernel) rfl (by first | exact Or.inl rfl | exact Or.inr rfl))) (fun _ _ _ _ _=>(fz (aB gU (ax (tI (K:=K) rfl) (by rfl) T.len aU (aa (pv 0) ag)) ao (aT _)))) (fun _ _ _ _ _=>(pv 0))) ag)) ao (aT _))))))))),?_⟩
  dsimp only [dN]
  have short:∀ r∈ρ,2≤r.length∧r.length≤60:=fun r hr=>by
   have:=(R.road r hr).nd.length_le_of_subset (l₂:=List.range L.length) fun x hx=>List.mem_range.mpr ((R.road r hr).rg x hx)
   exact ⟨(R.road r hr).len,by simp at this; omega⟩
  have cut:∀ r:List Nat,2≤r.length→ng ((aK r).map V.int) (some 1) (some (-1)) = (aK (bx r)).map V.int:=fun r hr=>by
   unfold ng HT.mq aK bx
   dsimp only
   rw [if_neg (show ¬ ((1:Int) < 0) by decide),if_pos (show (-1:Int) < 0 by decide),List.length_map,List.length_map,← List.map_drop,← List.map_drop,← List.map_take,← List.map_take]
   rw [show min (Int.toNat 1) r.length = 1 by show min 1 _ = 1; omega]
   congr 3
   omega
  obtain ⟨r0,r1,r2,rfl⟩:∃ r0 r1 r2,ρ = [r0,r1,r2]:=by
   match ρ,l3 with
   | [r0,r1,r2],_=>exact ⟨r0,r1,r2,rfl⟩
  obtain ⟨x0,x1,x2,rfl⟩:∃ x0 x1 x2,xs = [x0,x1,x2]:=by
   match xs,lx with
   | [x0,x1,x2],_=>exact ⟨x0,x1,x2,rfl⟩
  have s0:=short r0 (by simp)
  have s1:=short r1 (by simp)
  have s2:=short r2 (by simp)
  have am:(aK (bx r0) ++ aK (bx r1) ++ aK (bx r2)).Nodup:=by
   have:=R.bx
   have e:aK (bx r0) ++ aK (bx r1) ++ aK (bx r2) = ([r0,r1,r2].map bx).flatten.map fun c:Nat=>(c:Int):=by unfold aK; simp
   rw [e,List.Nodup,List.pairwise_map]
   exact List.Pairwise.imp (fun h z=>h (by omega)) this
  have la:∀ r:List Nat,(aK (bx r)).length≤r.length:=fun r=>by
   unfold aK bx
   rw [List.length_map,List.length_take,List.length_drop]
   omega
  walk_at "rd"
  refine eK (.lst gx.top) (.ty _) p8 ?_
  walk_at "rd"
  refine ⟨_,_,rfl,.inl ⟨_,aG.of gx.top,rfl⟩,?_⟩
  walk_at "rd"
  refine dG (fun h=>absurd rfl h) (fun _=>?_)
  walk_at "rd"
  refine cN ?_
  refine ⟨_,rfl,x,rfl,⟨_,aG.of gx.top⟩,fM (K:=K) (a:=x) (xs:=[x0,x1,x2].map V.ref) (fun k σ H1=>∃ v:Option V,σ = [some (.ref x),some (.ref p),some (.int (a:Int)),some (.int (b:Int)),v,none]∧aj H H1) ⟨none,rfl,fun _ _ e=>e⟩ (fun k σ H1 _ ⟨_,_,e⟩=>aG.of (e _ _ gx.top)) ?_ ?_⟩
  ·rintro k y σ H1 hy ⟨v,rfl,e1⟩
   have kl:k < ([r0,r1,r2].map aK).length:=by
    have:=(List.getElem?_eq_some_iff.mp hy).1
    simpa using this
   obtain ⟨c,l,hc,hl,dM⟩:=gx.at kl
   obtain rfl:y = V.ref c:=by
    rw [List.getElem?_map,hc] at hy
    exact (Option.some.inj hy).symm
   obtain ⟨r,hr,rfl⟩:∃ r∈[r0,r1,r2],aK r = l:=by
    have:=List.mem_of_getElem? hl
    obtain ⟨r,h1,h2⟩:=List.mem_map.mp this
    exact ⟨r,h1,h2⟩
   walk_at "rd"
   refine ⟨c,p,as,L,a,b,r,rfl,g.same e1,hn,e1 _ _ dM,R.road r hr,fun H2 e2=>?_⟩
   walk_at "rd"
   exact ⟨_,rfl,e1.trans e2⟩
  ·rintro σ H1 ⟨v,rfl,e1⟩
   have g1:=gx.same e1
   have h0:=g1.row 0 x0 _ rfl rfl
   have h1:=g1.row 1 x1 _ rfl rfl
   have h2:=g1.row 2 x2 _ rfl rfl
   walk_at "rd"
   refine mz ?_
   walk_at "rd"
   refine aQ (aG.of g1.top) rfl ?_
   walk_at "rd"
   refine ⟨_,rfl,_,rfl,_,rfl,x0,_,rfl,aG.of h0,fun p0 OG=>?_⟩
   rw [cut r0 s0.1]
   have e2:aj H1 (upd H1 p0 (.lst ((aK (bx r0)).map V.int))):=aj.upd OG
   have k0:upd H1 p0 (.lst ((aK (bx r0)).map V.int)) p0 = some (.lst ((aK (bx r0)).map V.int)):=ae
   generalize upd H1 p0 (.lst ((aK (bx r0)).map V.int)) = H2 at e2 k0 ⊢
   walk_at "rd"
   refine mz ?_
   walk_at "rd"
   refine aQ (aG.of (e2 _ _ g1.top)) rfl ?_
   walk_at "rd"
   refine ⟨_,rfl,_,rfl,_,rfl,x1,_,rfl,aG.of (e2 _ _ h1),fun p1 rN=>?_⟩
   rw [cut r1 s1.1]
   have e3:aj H2 (upd H2 p1 (.lst ((aK (bx r1)).map V.int))):=aj.upd rN
   have k1:upd H2 p1 (.lst ((aK (bx r1)).map V.int)) p1 = some (.lst ((aK (bx r1)).map V.int)):=ae
   generalize upd H2 p1 (.lst ((aK (bx r1)).map V.int)) = H3 at e3 k1 ⊢
   have q0:=la r0
   have q1:=la r1
   have q2:=la r2
   refine ⟨p0,p1,_,_,rfl,rfl,e3 _ _ k0,k1,by rw [List.length_map,List.length_map]; exact Nat.le_of_lt (az (by omega)),fun p2 sS=>?_⟩
   have e4:aj H3 (upd H3 p2 (.lst ((aK (bx r0)).map V.int ++ (aK (bx r1)).map V.int))):=aj.upd sS
   have k2:upd H3 p2 (.lst ((aK (bx r0)).map V.int ++ (aK (bx r1)).map V.int)) p2 = some (.lst ((aK (bx r0)).map V.int ++ (aK (bx r1)).map V.int)):=ae
   generalize upd H3 p2 (.lst ((aK (bx r0)).map V.int ++ (aK (bx r1)).map V.int)) = H4 at e4 k2 ⊢
   have Iu:=(e2.trans e3).trans e4
   walk_at "rd"
   refine mz ?_
   walk_at "rd"
   refine aQ (aG.of (Iu _ _ g1.top)) rfl ?_
   walk_at "rd"
   refine ⟨_,rfl,_,rfl,_,rfl,x2,_,rfl,aG.of (Iu _ _ h2),fun p3 Er=>?_⟩
   rw [cut r2 s2.1]
   have e5:aj H4 (upd H4 p3 (.lst ((aK (bx r2)).map V.int))):=aj.upd Er
   have k3:upd H4 p3 (.lst ((aK (bx r2)).map V.int)) p3 = some (.lst ((aK (bx r2)).map V.int)):=ae
   generalize upd H4 p3 (.lst ((aK (bx r2)).map V.int)) = H5 at e5 k3 ⊢
   refine ⟨p2,p3,_,_,rfl,rfl,e5 _ _ k2,k3,by rw [List.length_append,List.length_map,List.length_map,List.length_map]; exact Nat.le_of_lt (az (by omega)),fun p4 OF=>?_⟩
   have ea:(aK (bx r0)).map V.int ++ (aK (bx r1)).map V.int ++ (aK (bx r2)).map V.int = (aK (bx r0) ++ aK (bx r1) ++ aK (bx r2)).map V.int:=by simp
   rw [ea]
   have lam:(aK (bx r0) ++ aK (bx r1) ++ aK (bx r2)).length≤180:=by rw [List.length_append,List.length_append]; omega
   generalize aK (bx r0) ++ aK (bx r1) ++ aK (bx r2) = yP at am lam ⊢
   have e6:aj H5 (upd H5 p4 (.lst (yP.map V.int))):=aj.upd OF
   have k4:upd H5 p4 (.lst (yP.map V.int)) p4 = some (.lst (yP.map V.int)):=ae
   generalize upd H5 p4 (.lst (yP.map V.int)) = H6 at e6 k4 ⊢
   walk_at "rd"
   refine ⟨p4,_,rfl,aG.of k4,by omega,fun se S Ov=>?_⟩
   have e7:aj H6 (upd H6 se (.set S (fg yP).length)):=aj.upd Ov
   have k5:upd H6 se (.set S (fg yP).length) se = some (.set S (fg yP).length):=ae
   generalize upd H6 se (.set S (fg yP).length) = H7 at e7 k5 ⊢
   refine ⟨se,_,_,rfl,k5,?_⟩
   walk_at "rd"
   refine ⟨_,_,rfl,.inl ⟨_,aG.of (e7 _ _ k4),rfl⟩,?_⟩
   rw [List.length_map,(oO _).mpr am]
   walk_at "rd"
   refine if2 (fun _=>?_) (fun h=>absurd rfl h)
   have Lk:=((Iu.trans e5).trans e6).trans e7
   have g7:=g1.same Lk
   walk_at "rd"
   refine eN ?_
   refine ⟨_,rfl,x,rfl,⟨_,aG.of g7.top⟩,fun acc bR=>?_⟩
   refine cU (K:=K) (a:=x) (xs:=[x0,x1,x2].map V.ref) (fun i σ' ys Hx=>∃ v:Option V,σ' = [v]∧ys.length = (([r0,r1,r2].take i).filter fun r=>decide (r.length = 2)).length∧aj H7 Hx∧Hx acc = some (.lst ys))
    ⟨none,rfl,rfl,aj.upd bR,ae⟩ (fun i σ' ys Hx _ ⟨_,_,_,e,_⟩=>aG.of (e _ _ g7.top)) ?_ ?_
   ·rintro i y σ' ys Hx hy hi ⟨v,rfl,ly,e8,a8⟩
    have kl:i < ([r0,r1,r2].map aK).length:=by simpa using hi
    obtain ⟨c,l,hc,hl,dM⟩:=g7.at kl
    obtain rfl:y = V.ref c:=by
     rw [List.getElem?_map,hc] at hy
     exact (Option.some.inj hy).symm
    obtain ⟨r,hr,rfl⟩:∃ r,[r0,r1,r2][i]? = some r∧aK r = l:=by
     rw [List.getElem?_map] at hl
     cases e:[r0,r1,r2][i]? with
     | none=>rw [e] at hl; cases hl
     | some r=>rw [e] at hl; exact ⟨r,rfl,Option.some.inj hl⟩
    walk_at "rd"
    refine ⟨_,_,rfl,.inl ⟨_,aG.of (e8 _ _ dM),rfl⟩,?_⟩
    rw [List.length_map,aK,List.length_map]
    have PB:ys.length≤3:=by
     rw [ly]
     have:=List.length_filter_le (fun r:List Nat=>decide (r.length = 2)) ([r0,r1,r2].take i)
     rw [List.length_take] at this
     simp at this
     omega
    walk_at "rd"
    refine if2 (fun h=>?_) (fun h=>?_)
    ·walk_at "rd"
     refine ⟨a8,az (by omega),dH hi ⟨_,rfl,?_,aj.fresh e8 bR,ae⟩⟩
     have h':r.length = 2:=by omega
     rw [take_snoc hr,List.filter_append,List.length_append,List.length_append,ly,List.filter_cons,if_pos (by simp [h'])]
     rfl
    ·refine dH hi ⟨_,rfl,?_,e8,a8⟩
     have h':¬ r.length = 2:=by omega
     rw [take_snoc hr,List.filter_append,List.length_append,ly,List.filter_cons,if_neg (by simp [h'])]
     rfl
   ·rintro σ' ys H8 ⟨v,rfl,ly,e8,a8⟩
    walk_at "rd"
    refine ⟨_,_,rfl,.inl ⟨_,aG.of a8,rfl⟩,?_⟩
    have one:=R.one
    have Rz:ys.length < 2:=by
     rw [ly,List.length_map,show [x0,x1,x2].length = [r0,r1,r2].length from rfl,List.take_length]
     exact one
    walk_at "rd"
    rw [decide_eq_true (show ((ys.length:Nat):Int) < 2 by omega)]
    exact q _ ((e1.trans Lk).trans e8)
theorem eG:aZ ["_law_found", "_law_orders", "_law_one", "_law_other", "_law_place", "_law_less"] ["_law_found", "_law_orders", "_law_one", "_law_other"] (aw bU):=⟨rfl,rfl,rfl,by decide +kernel,rfl,by decide +kernel,by decide +kernel⟩
theorem mJ (D:Def K mg "_law_shut" bU ["_law_found", "_law_orders", "_law_one", "_law_other"]) (T:Txt K mg Z) (eX:dE P w K mg base (cQ P w) "_law_whole" 1 ["_law_found"] ji) (jP:dE P w K mg base (cQ P w) "_law_come_to" 1 ["_law_orders", "_law_start", "_law_gone"] jk):dE P w K mg base (cQ P w) "_law_shut" 3 ["_law_found", "_law_orders", "_law_one", "_law_other"] qE:=by
 refine D.dY eG (fun vs H Q E h=>?_) (fun f dv A outer s H vs Q E hr h=>?_)
 ·obtain ⟨x,p,as,L,a,b,l,S,rfl,_⟩:=h; rfl
 ·obtain ⟨x,p,as,L,a,b,l,S,rfl,g,im,hn,hl,hb,nF,hx,R,q⟩:=h
  have ha:a < L.length:=(List.getElem?_eq_some_iff.mp hl).1
  have lC:=R.lC
  have PD:S.length≤2:=by split at lC <;> omega
  have el:((aK S).map V.int).length = S.length:=by rw [List.length_map,aK,List.length_map]
  have Ki:∀ c:Nat,c∉S→(c:Int)∉aK S:=fun c hc z=>by
   obtain ⟨y,hy,e⟩:=List.mem_map.mp z
   have:y = c:=by omega
   exact hc (this▸hy)
  have BY:rowOf L (a:Int) = l:=by
   have:=aE (L:=L) (a:=(a:Int)) (by omega) (by omega)
   rw [Int.toNat_natCast,hl] at this
   exact (Option.some.inj this).symm
  refine ⟨_,(ah (bC (PW.pt (pw_or (eP (eO (ax cV (by rfl) T.isinstance bO (aa (pv 0) (aa (eR (v:=.ty "list") rfl T.list hW rfl) ag))))) (pw_or (aB (pR hr.units) (pv 0) (pN rfl T.set T.sorted (pv 0)) (aT _)) (pw_or (aB cR (pv 2) (pv 0) (by with_unfolding_all rfl)) (pw_or1 (aB cR (pv 3) (pv 0) (by with_unfolding_all rfl))))))) (aq (aX cZ)) aR)
   (ah (bC (aB n9 (ax aH (by rfl) T.len aU (aa (pv 0) ag)) (aC gC ao (fY tJ (by rfl) T.int vI (aa (gT cR (pv 3) (aL aA (pv 1) (pv 2) (fun _ _=>rfl)) (by with_unfolding_all rfl)) ag))) (aT _)) (aq (aX cZ)) aR)
   (ah (bV PassesOwn.never rfl (cg (pv 0)) (aP (i:=4) eG.nd rfl (by first | exact Or.inl rfl | exact Or.inr rfl))
   (aq (bC (PW.pt (pw_or (eP (eO (aN eX hr bP (aa (pv 4) ag)))) (pw_or (aB jz (pv 4) ao (aT _)) (pw_or1 (aB yy (pv 4) (ax aH (by rfl) T.len aU (aa (pv 1) ag)) (aT _)))))) (aq (aX cZ)) aR)))
   (ah (iX (i:=5) eG.nd rfl (by first | exact Or.inl rfl | exact Or.inr rfl) (tg:=["_law_order"]) (fr:=[]) (by walk_at "blk_ok") rfl (cg (pv 1)) (fun _ _ _ _ _=>(aP (i:=0) (show [("_law_order" : Str)].Nodup by decide +kernel) rfl (by first | exact Or.inl rfl | exact Or.inr rfl))) (fun _ _ _ _ _=>fB) (fun _ _ _ _ _=>(fY (gh (K:=K) rfl) (by rfl) T.list hW (aa (pv 0) ag))))
   (ah (bC (aB cR (pv 3) (aL aA (pv 5) (pv 2) (fun _ _=>rfl)) (by with_unfolding_all rfl)) (ah (bu (cE PySem.F.plainAttrs_list PySem.F.slot_list_remove PySem.F.type_list_remove kZ (aL aA (pv 5) (pv 2) (fun _ _=>rfl)) (aa (pv 3) ag)))
   (aq (bu (cE PySem.F.plainAttrs_list PySem.F.slot_list_remove PySem.F.type_list_remove kZ (aL aA (pv 5) (pv 3) (fun _ _=>rfl)) (aa (pv 2) ag))))) aR)
   (aq (aX (gT ck (pv 3) (aN jP hr bP (aa (pv 5) (aa (pv 2) (aa (pv 0) ag)))) (by with_unfolding_all rfl))))))))),?_⟩
  dsimp only [dN]
  walk_at "rd"
  refine eK (.lst hx) (.ty _) p8 ?_
  walk_at "rd"
  refine sF (r_var rfl ⟨x,_,rfl,aG.of hx,by unfold aK; rw [List.length_map]; omega,fun ff y pm so hy=>?_⟩)
  have e1:aj H (upd H y (.lst (ff.map V.int))):=aj.upd hy
  refine ⟨b9 (aK S),b9 ff,eJ (e1 _ _ hx),eJ ae,shaped_ints _,shaped_ints _,?_⟩
  rw [if_pos rfl,m7,decide_eq_true ((pf pm so).mpr (xc.mpr R.inc))]
  generalize upd H y (.lst (ff.map V.int)) = H1 at e1 ⊢
  have x1:=e1 _ _ hx
  walk_at "rd"
  refine ir (ns:=aK S) (aG.of x1) ?_
  rw [if_neg (by decide),decide_eq_false (Ki a R.na)]
  walk_at "rd"
  refine ir (ns:=aK S) (aG.of x1) ?_
  rw [if_neg (by decide),decide_eq_false (Ki b R.nb)]
  walk_at "rd"
  have g1:=g.same e1
  obtain ⟨ra,l',Ic,sT,dM⟩:=g1.at (i:=a) ha
  obtain rfl:l = l':=by rw [hl] at sT; exact Option.some.inj sT
  refine ⟨_,_,rfl,.inl ⟨_,aG.of x1,rfl⟩,?_⟩
  rw [el]
  walk_at "rd"
  refine aQ (aG.of g1.top) (g1.ix Ic) ?_
  refine ir (ns:=l) (aG.of dM) ?_
  rw [if_neg (by decide)]
  refine .inr ⟨_,rfl,?_⟩
  walk_at "rd"
  refine if2 (fun h=>?_) (fun _=>?_)
  ·exfalso
   by_cases z:(b:Int)∈l
   ·rw [decide_eq_true z] at h
    rw [if_pos z] at lC
    simp at h
    omega
   ·rw [decide_eq_false z] at h
    rw [if_neg z] at lC
    simp at h
    omega
  walk_at "rd"
  refine cN ?_
  refine ⟨_,rfl,x,rfl,⟨_,aG.of x1⟩,fM (K:=K) (a:=x) (xs:=(aK S).map V.int) (fun k σ H2=>∃ v:Option V,σ = [some (.ref x),some (.ref p),some (.int (a:Int)),some (.int (b:Int)),v,none]∧aj H1 H2) ⟨none,rfl,fun _ _ e=>e⟩ (fun k σ H2 _ ⟨_,_,e⟩=>aG.of (e _ _ x1)) ?_ ?_⟩
  ·rintro k z σ H2 hz ⟨v,rfl,e2⟩
   obtain ⟨c,hc,rfl⟩:∃ c:Nat,S[k]? = some c∧z = V.int (c:Int):=by
    unfold aK at hz
    rw [List.getElem?_map,List.getElem?_map] at hz
    cases e:S[k]? with
    | none=>rw [e] at hz; cases hz
    | some w=>rw [e] at hz; exact ⟨w,rfl,(Option.some.inj hz).symm⟩
   have cl:=R.rg c (List.mem_of_getElem? hc)
   walk_at "rd"
   refine ⟨_,rfl,?_⟩
   walk_at "rd"
   refine if2 (fun h=>absurd h (by omega)) (fun _=>?_)
   walk_at "rd"
   refine ⟨_,_,rfl,.inl ⟨_,aG.of (e2 _ _ g1.top),rfl⟩,?_⟩
   rw [List.length_map,g1.len]
   walk_at "rd"
   refine if2 (fun h=>absurd h (by omega)) (fun _=>?_)
   exact ⟨_,rfl,e2⟩
  ·rintro σ H2 ⟨v,rfl,e2⟩
   have g2:=g1.same e2
   have x2:=e2 _ _ x1
   dsimp only
   refine mB (fun σ H'=>∃ (du:Addr) (ds:List Addr) (M:List (List Int)),σ = [some (.ref x),some (.ref p),some (.int (a:Int)),some (.int (b:Int)),v,some (.ref du)]∧aj H2 H'∧aV H' du ds L∧(du :: ds).Nodup∧(∀ b∈du :: ds,H2 b = none)) ?_ (fun N hN=>?_)
   rotate_left
   ·walk_at "rd"
    refine qV (i:=1) rfl g2 (by omega) fun du ds H3 e3 g3 vU tT=>?_
    walk_at "rd"
    exact hN _ _ ⟨du,ds,L,rfl,e3,g3,vU,tT⟩
   rintro σ H3 ⟨du,ds,_,rfl,e3,g3,vU,tT⟩
   refine mB (fun σ H'=>∃ (M:List (List Int)),σ = [some (.ref x),some (.ref p),some (.int (a:Int)),some (.int (b:Int)),v,some (.ref du)]∧aj H2 H'∧aV H' du ds M∧aI M∧M.length = L.length∧∀ (p:Nat) (q:Int) (r:List Int),M[p]? = some r→q∈r→∃ y:Nat,q = (y:Int)∧Tw L a b p y) ?_ (fun N hN=>?_)
   ·rintro σ H4 ⟨M,rfl,e4,g4,mM,lM,hM⟩
    have x4:=e4 _ _ x2
    walk_at "rd"
    refine ⟨du,ds,M,aK S,(a:Int),x,rfl,g4,x4,by omega,mM,by omega,by omega,fun t fs H5 e5 ht Rt GW=>?_⟩
    refine ir (ns:=fs) (aG.of ht) ?_
    rw [if_pos rfl,decide_eq_false (fun z=>R.off M hM ((GW _).mp z))]
    exact q _ (((e1.trans e2).trans e4).trans e5)
   ·obtain ⟨ca,la,Ey,vo,dU⟩:=g3.at (i:=a) ha
    obtain ⟨cb,lb,Ew,rO,CD⟩:=g3.at (i:=b) hb
    obtain rfl:l = la:=by rw [hl] at vo; exact Option.some.inj vo
    walk_at "rd"
    refine aQ (aG.of g3.top) (g3.ix Ey) ?_
    refine ir (ns:=l) (aG.of dU) ?_
    rw [if_neg (by decide)]
    walk_at "rd"
    refine if2 (fun vX=>?_) (fun Ao=>?_)
    ·have dt:Dt L ((a:Int),(b:Int)):=⟨by show (0:Int)≤(a:Int); omega,by show (a:Int) < _; omega,by show (b:Int)∈rowOf L (a:Int); rw [BY]; exact vX⟩
     obtain ⟨b0,b1,ne',bk⟩:=dt.back im
     have BX:rowOf L (b:Int) = lb:=by
      have:=aE (L:=L) (a:=(b:Int)) b0 b1
      rw [Int.toNat_natCast,rO] at this
      exact (Option.some.inj this).symm
     walk_at "rd"
     refine aQ (aG.of g3.top) (g3.ix Ey) ?_
     refine ⟨.inl ⟨rfl,_,aG.of dU⟩,?_⟩
     walk_at "rd"
     refine ⟨ca,_,(b:Int),rfl,rfl,dU,vX,?_⟩
     have g5:=g3.set vU (l':=l.erase (b:Int)) Ey
     have e5:aj H2 (upd H3 ca (.lst ((l.erase (b:Int)).map V.int))):=aj.fresh e3 (tT ca (List.mem_cons_of_mem _ (List.mem_of_getElem? Ey)))
     generalize upd H3 ca (.lst ((l.erase (b:Int)).map V.int)) = H5 at g5 e5 ⊢
     have HJ:(L.set a (l.erase (b:Int)))[b]? = some lb:=by rw [List.getElem?_set_ne nF]; exact rO
     have vk:=g5.row _ _ _ Ew HJ
     walk_at "rd"
     refine aQ (aG.of g5.top) (g5.ix Ew) ?_
     refine ⟨.inl ⟨rfl,_,aG.of vk⟩,?_⟩
     walk_at "rd"
     refine ⟨cb,_,(a:Int),rfl,rfl,vk,by rw [← BX]; exact bk,?_⟩
     have g6:=g5.set vU (l':=lb.erase (a:Int)) Ew
     have e6:aj H2 (upd H5 cb (.lst ((lb.erase (a:Int)).map V.int))):=aj.fresh e5 (tT cb (List.mem_cons_of_mem _ (List.mem_of_getElem? Ew)))
     generalize upd H5 cb (.lst ((lb.erase (a:Int)).map V.int)) = H6 at g6 e6 ⊢
     have er:(L.set a (l.erase (b:Int))).set b (lb.erase (a:Int)) = rem L (a:Int) (b:Int):=by
      unfold rem
      rw [BY,BX,Int.toNat_natCast,Int.toNat_natCast]
     rw [er] at g6
     have mM:=qO im dt
     refine hN _ _ ⟨_,rfl,e6,g6,mM,eI,fun p' q' r h1 h2=>?_⟩
     have pl:p' < L.length:=by have:=(List.getElem?_eq_some_iff.mp h1).1; rwa [eI] at this
     have r0:=mM.rg p' r h1 q' h2
     obtain ⟨y,rfl⟩:=Int.eq_ofNat_of_zero_le r0.1
     have rp:rowOf (rem L (a:Int) (b:Int)) (p':Int) = r:=by
      have:=aE (L:=rem L (a:Int) (b:Int)) (a:=(p':Int)) (by omega) (by rw [eI]; omega)
      rw [Int.toNat_natCast,h1] at this
      exact (Option.some.inj this).symm
     obtain ⟨k1,k2,k3⟩:=(gQ im dt (x:=(p':Int)) (y:=(y:Int)) (by omega) (by omega)).mp (by rw [rp]; exact h2)
     have yE:=aE (L:=L) (a:=(p':Int)) (by omega) (by omega)
     rw [Int.toNat_natCast] at yE
     refine ⟨y,rfl,⟨_,yE,k1⟩,fun z=>?_⟩
     rcases z with ⟨z1,z2⟩ | ⟨z1,z2⟩
     ·exact k2 ⟨by omega,by omega⟩
     ·exact k3 ⟨by omega,by omega⟩
    ·refine hN _ _ ⟨L,rfl,e3,g3,im,rfl,fun p' q' r h1 h2=>?_⟩
     obtain ⟨y,rfl⟩:=Int.eq_ofNat_of_zero_le (im.rg p' r h1 q' h2).1
     refine ⟨y,rfl,⟨r,h1,h2⟩,fun z=>?_⟩
     rcases z with ⟨rfl,rfl⟩ | ⟨rfl,rfl⟩
     ·rw [hl] at h1
      injection h1 with h1
      subst h1
      exact Ao h2
     ·exact Ao (im.sy p' r h1 _ h2 y rfl _ hl)
theorem mj:aZ ["_law_found", "_law_orders", "_law_one", "_law_other"] ["_law_found", "_law_orders", "_law_one", "_law_other"] (aw bT):=⟨rfl,rfl,rfl,by decide +kernel,rfl,by decide +kernel,by decide +kernel⟩
theorem mI (D:Def K mg "_law_told" bT ["_law_found", "_law_orders", "_law_one", "_law_other"]) (T:Txt K mg Z) (mW:dE P w K mg base (cQ P w) "_law_three" 3 ["_law_found", "_law_orders", "_law_one", "_law_other"] nJ) (oH:dE P w K mg base (cQ P w) "_law_shut" 3 ["_law_found", "_law_orders", "_law_one", "_law_other"] qE):dE P w K mg base (cQ P w) "_law_told" 4 ["_law_found", "_law_orders", "_law_one", "_law_other"] qC:=by
 refine D.dY mj (fun vs H Q E h=>?_) (fun f dv A outer s H vs Q E hr h=>?_)
 ·obtain ⟨t,x,p,as,L,a,b,l,rfl,_⟩:=h; rfl
 ·obtain ⟨t,x,p,as,L,a,b,l,rfl,g,im,hn,hl,hb,nF,hh,q⟩:=h
  refine ⟨_,(ah (bC (PW.pt (pw_or (eP (eO (ax cV (by rfl) T.isinstance bO (aa (pv 0) (aa (eR (v:=.ty "tuple") rfl T.tuple vG rfl) ag))))) (pw_or (aB iL (ax aH (by rfl) T.len aU (aa (pv 0) ag)) ao (aT _)) (pw_or1 (eP (eO (ax cV (by rfl) T.isinstance bO (aa (aL dh (pv 0) ao (fun _ _=>rfl)) (aa (eR (v:=.ty "str") rfl T.str AN rfl) ag))))))))) (aq (aX cZ)) aR)
   (ah (bC (aB gU (aL dh (pv 0) ao (fun _ _=>rfl)) mF (aT _)) (aq (aX (aN mW hr bP (aa (aL dh (pv 0) ao (fun _ _=>rfl)) (aa (pv 1) (aa (pv 2) (aa (pv 3) ag))))))) aR)
   (aq (aX (pP (gT gU (aL dh (pv 0) ao (fun _ _=>rfl)) mF (aT _)) (pO (aN oH hr bP (aa (aL dh (pv 0) ao (fun _ _=>rfl)) (aa (pv 1) (aa (pv 2) (aa (pv 3) ag))))))))))),?_⟩
  dsimp only [dN]
  rcases hh with ⟨xs,ρ,ht,gx,R⟩ | ⟨S,ht,hx,R⟩
  ·walk_at "rd"
   refine eK (.tup ht) (.ty _) (by rfl) ?_
   walk_at "rd"
   refine ⟨_,_,rfl,.inr ⟨_,SqT.of ht,rfl⟩,?_⟩
   walk_at "rd"
   refine dG (fun h=>absurd rfl h) (fun _=>?_)
   walk_at "rd"
   refine eK (.str _) (.ty _) (by rfl) ?_
   walk_at "rd"
   refine uD ?_
   walk_at "rd"
   refine if2 (fun _=>?_) (fun h=>absurd rfl h)
   walk_at "rd"
   refine ⟨x,p,as,xs,L,a,b,ρ,rfl,g,hn,gx,R,fun H1 e1=>?_⟩
   exact q _ e1
  ·walk_at "rd"
   refine eK (.tup ht) (.ty _) (by rfl) ?_
   walk_at "rd"
   refine ⟨_,_,rfl,.inr ⟨_,SqT.of ht,rfl⟩,?_⟩
   walk_at "rd"
   refine dG (fun h=>absurd rfl h) (fun _=>?_)
   walk_at "rd"
   refine eK (.str _) (.ty _) (by rfl) ?_
   walk_at "rd"
   refine uD ?_
   walk_at "rd"
   refine if2 (fun h=>absurd h (by decide +kernel)) (fun _=>?_)
   walk_at "rd"
   refine uD ?_
   walk_at "rd"
   refine if2 (fun _=>?_) (fun h=>absurd rfl h)
   walk_at "rd"
   refine ⟨x,p,as,L,a,b,l,S,rfl,g,im,hn,hl,hb,nF,hx,R,fun H1 e1=>?_⟩
   exact q _ e1
theorem fm:aZ ["_law_script", "_law_orders", "_law_handed", "_law_k", "_law_number", "_law_one", "_law_other"] ["_law_script"] (aw gP):=⟨rfl,rfl,rfl,by decide +kernel,rfl,by decide +kernel,by decide +kernel⟩
theorem zL {fa:Addr} {fd:FuncData} (F:A8 K "law" "law" gP fa fd) (T:Txt K mg Z)
  (xy:dE P w K mg base (cQ P w) "roads" 3 ["orders", "one", "other"] nK) (fL:dE P w K mg base (cQ P w) "_law_cell_at" 1 ["_law_script", "_law_k"] (qH K)) (bW:dE P w K mg base (cQ P w) "_law_mixed" 2 ["_law_script", "_law_k"] (d6 K)) (qc:dE P w K mg base (cQ P w) "_law_any" 3 ["_law_script", "_law_start", "_law_many"] (ui K)) (mY:dE P w K mg base (cQ P w) "_law_grown" 3 ["_law_script", "_law_start", "_law_steps"] (nN K)) (oG:dE P w K mg base (cQ P w) "_law_told" 4 ["_law_found", "_law_orders", "_law_one", "_law_other"] qC):kJ P w K mg base (cQ P w) 10 fa fd ["_law_script"] (lY K):=by
 refine F.okN fm (fun vs H Q E h=>?_) (fun dv A outer s H vs Q E hr h=>?_)
 ·obtain ⟨a,ns,rfl,_⟩:=h; rfl
 ·obtain ⟨a,ns,rfl,hS,hlen,kq⟩:=h
  refine ⟨_,(ah (bC (aB gU (aC bw (aN fL hr bP (aa (pv 0) (aa ao ag))) ao) ao (aT _)) (aq (aJ (i:=1) fm.nd rfl (by first | exact Or.inl rfl | exact Or.inr rfl) (aN qc hr bP (aa (pv 0) (aa ao (aa (aC b7 ao (aC bw (aC cJ (aN fL hr bP (aa (pv 0) (aa ao ag))) ao) ao)) ag)))))) (aq (aJ (i:=1) fm.nd rfl (by first | exact Or.inl rfl | exact Or.inr rfl) (aN mY hr bP (aa (pv 0) (aa ao (aa (aC bw (aN bW hr bP (aa (pv 0) (aa ao ag))) ao) ag)))))))
   (ah (iX (i:=2) fm.nd rfl (by first | exact Or.inl rfl | exact Or.inr rfl) (tg:=["_law_order"]) (fr:=[]) (by walk_at "blk_ok") rfl (cg (pv 1)) (fun _ _ _ _ _=>(aP (i:=0) (show [("_law_order" : Str)].Nodup by decide +kernel) rfl (by first | exact Or.inl rfl | exact Or.inr rfl))) (fun _ _ _ _ _=>fB) (fun _ _ _ _ _=>(fY (gh (K:=K) rfl) (by rfl) T.list hW (aa (pv 0) ag))))
   (ah (bV PassesOwn.never rfl (bA rfl T.range (aa (ax (lK rfl) (by rfl) T.max vH (aa ao (aa (ax (iD rfl) (by rfl) T.min qj (aa ao (aa (ax aH (by rfl) T.len aU (aa (pv 0) ag)) ag))) ag))) ag)) (aP (i:=3) fm.nd rfl (by first | exact Or.inl rfl | exact Or.inr rfl))
   (ah (aJ (i:=4) fm.nd rfl (by first | exact Or.inl rfl | exact Or.inr rfl) (aN bW hr bP (aa (pv 0) (aa (aC b7 ao (pv 3)) ag))))
   (ah (aJ (i:=5) fm.nd rfl (by first | exact Or.inl rfl | exact Or.inr rfl) (aC bw (pv 4) (ax aH (by rfl) T.len aU (aa (pv 1) ag))))
   (ah (aJ (i:=6) fm.nd rfl (by first | exact Or.inl rfl | exact Or.inr rfl) (aC bw (aC b7 (aC b7 (pv 5) ao) (aC bw (aC cJ (pv 4) ao) (aC gC (ax aH (by rfl) T.len aU (aa (pv 1) ag)) ao))) (ax aH (by rfl) T.len aU (aa (pv 1) ag))))
   (aq (bC (PW.pt (pw_or (eP (eO (aN oG hr bP (aa (aN xy hr bP (aa (pv 2) (aa (pv 5) (aa (pv 6) ag)))) (aa (pv 1) (aa (pv 5) (aa (pv 6) ag))))))) (pw_or1 (aB (pR hr.units) (pv 2) (pv 1) (aT _))))) (aq (aX cZ)) aR))))))
   (aq (aX cZ))))),?_⟩
  dsimp only [dN]
  refine mB (fun σ H'=>∃ (p:Addr) (as:List Addr) (L:List (List Int)),σ = [some (.ref a),some (.ref p),none,none,none,none,none]∧aj H H'∧aV H' p as L∧aI L∧2≤L.length∧L.length≤12) ?_ (fun N hN=>?_)
  rotate_left
  ·walk_at "rd"
   refine ⟨a,ns,0,rfl,hS,by decide,fun n0=>?_⟩
   walk_at "rd"
   refine if2 (fun _=>?_) (fun _=>?_)
   ·walk_at "rd"
    refine ⟨a,ns,0,rfl,hS,by decide,fun n1=>?_⟩
    walk_at "rd"
    have m0:=Int.emod_nonneg (n1 / 2) (show (8:Int)≠0 by decide)
    have m1:=Int.emod_lt_of_pos (n1 / 2) (show (0:Int) < 8 by decide)
    refine ⟨a,ns,3,2 + n1 / 2 % 8,rfl,hS,by decide,by decide,by omega,by omega,fun p as L H1 e1 g nd fr hL im=>?_⟩
    walk_at "rd"
    exact hN _ _ ⟨p,as,L,rfl,e1,g,im,by omega,by omega⟩
   ·walk_at "rd"
    refine ⟨a,ns,1,rfl,hS,by decide,by decide,fun n1 Rx Rw=>?_⟩
    walk_at "rd"
    have m0:=Int.emod_nonneg n1 (show (11:Int)≠0 by decide)
    have m1:=Int.emod_lt_of_pos n1 (show (0:Int) < 11 by decide)
    obtain ⟨m,hm⟩:=Int.eq_ofNat_of_zero_le m0
    rw [hm]
    refine ⟨a,ns,3,m,rfl,hS,by decide,by decide,by omega,fun p as L H' e g nd fr kg hl=>?_⟩
    walk_at "rd"
    exact hN _ _ ⟨p,as,L,rfl,e,g,kg.map,kg.two,by omega⟩
  rintro σ H1 ⟨p,as,L,rfl,e1,g1,im,two,l12⟩
  walk_at "rd"
  refine qV (i:=1) rfl g1 (by omega) fun hp hs H2 e2 g2 Co Bo=>?_
  have Av:=g1.same e2
  have C4:=e1.trans e2
  walk_at "rd"
  refine cN ?_
  refine eL (sG (eL (r_c (eL (sG (eL (r_c (eL (sG (eL (r_var rfl (jt ?_))))  )) )) ) )))
  refine ⟨_,_,rfl,.inl ⟨_,C4.seq hS,rfl⟩,jt ⟨_,_,rfl,jt ⟨_,_,rfl,jt ?_⟩⟩⟩
  obtain ⟨cnt,HY,h8⟩:∃ cnt:Nat,(if (if ((ns.map V.int).length:Int) < 8 then ((ns.map V.int).length:Int) else 8) > 1 then (if ((ns.map V.int).length:Int) < 8 then ((ns.map V.int).length:Int) else 8) else 1) = (cnt:Int)∧cnt≤8:=by
   rw [List.length_map]
   by_cases z:(ns.length:Int) < 8
   ·rw [if_pos z]
    by_cases y:(ns.length:Int) > 1
    ·rw [if_pos y]; exact ⟨ns.length,rfl,by omega⟩
    ·rw [if_neg y]; exact ⟨1,rfl,by omega⟩
   ·rw [if_neg z,if_pos (by decide)]
    exact ⟨8,rfl,by omega⟩
  rw [HY]
  refine ⟨(cnt:Int),rfl,by omega,by omega,?_⟩
  rw [Int.toNat_natCast]
  have Lp:(0:Int) < (L.length:Int):=by omega
  have QG:(0:Int) < (L.length:Int) - 1:=by omega
  refine bB (fun k σ H3=>∃ v3 v4 v5 v6:Option V,σ = [some (.ref a),some (.ref p),some (.ref hp),v3,v4,v5,v6]∧aj H2 H3) ⟨none,none,none,none,rfl,fun _ _ e=>e⟩ ?_ ?_
  ·rintro k σ H3 hk ⟨v3,v4,v5,v6,rfl,e3⟩
   simp only [Int.zero_add]
   have wa:=Av.same e3
   have Ik:=g2.same e3
   walk_at "rd"
   refine ⟨a,ns,90 + k,rfl,(C4.trans e3).seq hS,by omega,by omega,fun num n0 n1=>?_⟩
   walk_at "rd"
   refine ⟨_,_,rfl,.inl ⟨_,aG.of wa.top,rfl⟩,?_⟩
   rw [List.length_map,wa.len]
   walk_at "rd"
   refine ⟨_,_,rfl,.inl ⟨_,aG.of wa.top,rfl⟩,?_⟩
   rw [List.length_map,wa.len]
   walk_at "rd"
   refine ⟨_,_,rfl,.inl ⟨_,aG.of wa.top,rfl⟩,?_⟩
   rw [List.length_map,wa.len]
   walk_at "rd"
   have x0:=Int.emod_nonneg num (show (L.length:Int)≠0 by omega)
   have x1:=Int.emod_lt_of_pos num Lp
   have y0:=Int.emod_nonneg (num / 64) (show (L.length:Int) - 1≠0 by omega)
   have y1:=Int.emod_lt_of_pos (num / 64) QG
   have z0:=Int.emod_nonneg (num % L.length + 1 + num / 64 % (L.length - 1)) (show (L.length:Int)≠0 by omega)
   have z1:=Int.emod_lt_of_pos (num % L.length + 1 + num / 64 % (L.length - 1)) Lp
   have ne:num % L.length≠(num % L.length + 1 + num / 64 % (L.length - 1)) % L.length:=by
    generalize num % (L.length:Int) = u at x0 x1
    generalize num / 64 % ((L.length:Int) - 1) = v at y0 y1
    by_cases q:u + 1 + v < L.length
    ·rw [Int.emod_eq_of_lt (by omega) q]; omega
    ·rw [← Int.sub_emod_right,Int.emod_eq_of_lt (by omega) (by omega)]; omega
   generalize (num % (L.length:Int) + 1 + num / 64 % ((L.length:Int) - 1)) % (L.length:Int) = y at z0 z1 ne ⊢
   generalize num % (L.length:Int) = x at x0 x1 ne ⊢
   obtain ⟨i,rfl⟩:=Int.eq_ofNat_of_zero_le x0
   obtain ⟨j,rfl⟩:=Int.eq_ofNat_of_zero_le z0
   have il:i < L.length:=by omega
   have hl:L[i]? = some L[i]:=List.getElem?_eq_getElem il
   refine ⟨hp,hs,L,i,j,L[i],rfl,Ik,im,by omega,hl,by omega,fun z=>ne (by rw [z]),fun x xs ρ t H4 e4 ht gx R=>?_,fun x S t H4 e4 ht hx R=>?_⟩
   ·walk_at "rd"
    refine ⟨t,x,p,as,L,i,j,L[i],rfl,wa.same e4,im,by omega,hl,by omega,fun z=>ne (by rw [z]),.inl ⟨xs,ρ,ht,gx,R⟩,fun H5 e5=>?_⟩
    walk_at "rd"
    have AD:=e4.trans e5
    refine ⟨eB L,eB L,(Ik.same AD).DU,(wa.same AD).DU,dO _,dO _,?_⟩
    rw [if_pos rfl,oK,decide_eq_true rfl]
    walk_at "rd"
    exact ⟨_,_,_,_,rfl,e3.trans AD⟩
   ·walk_at "rd"
    refine ⟨t,x,p,as,L,i,j,L[i],rfl,wa.same e4,im,by omega,hl,by omega,fun z=>ne (by rw [z]),.inr ⟨S,ht,hx,R⟩,fun H5 e5=>?_⟩
    walk_at "rd"
    have AD:=e4.trans e5
    refine ⟨eB L,eB L,(Ik.same AD).DU,(wa.same AD).DU,dO _,dO _,?_⟩
    rw [if_pos rfl,oK,decide_eq_true rfl]
    walk_at "rd"
    exact ⟨_,_,_,_,rfl,e3.trans AD⟩
  ·rintro σ H3 ⟨v3,v4,v5,v6,rfl,e3⟩
   walk_at "rd"
   exact kq _
end
end AU
end
namespace AU
open PySem L2 Fr Gm Fw
local macro_rules | `(tactic| walk_at "rd1")=>`(tactic| first
 | with_reducible refine r_seq ?_ | with_reducible refine r_asg ?_ | with_reducible refine r_gname ?_ | with_reducible refine r_op ?_ | with_reducible refine r_c ?_
 | ((with_reducible refine' r_var ?hv ?_); case' hv=>exact rfl)
 | with_reducible refine uv ?_ | with_reducible refine zo ?_ | with_reducible refine zq ?_ | with_reducible refine uE ?_ | with_reducible refine uy ?_
 | with_reducible refine uu ?_ | with_reducible refine ur ?_ | with_reducible refine pJ ?_ | with_reducible refine uB ?_ | with_reducible refine pE ?_ | with_reducible refine FO ?_ | with_reducible refine zv ?_
 | with_reducible refine ux ?_ | with_reducible refine uG ?_ | with_reducible refine zt ?_ | with_reducible refine pM ?_ | with_reducible refine yj ?_ | with_reducible refine pF ?_ | with_reducible refine yl ?_
 | with_reducible refine jt ?_ | with_reducible refine eL ?_ | with_reducible refine pL ?_ | with_reducible refine sG ?_ | with_reducible refine uq ?_ | with_reducible refine uz ?_ | with_reducible refine pH ?_
 | with_reducible refine mD ?_ | with_reducible refine pI ?_ | with_reducible refine uw ?_ | with_reducible refine Em ?_ | with_reducible refine Hk ?_ | with_reducible refine Ae ?_ | with_reducible refine Cv ?_
 | ((with_reducible refine wB ?hc ?_); case' hc=>walk_at "side")
 | ((with_reducible refine' uA ?hp ?hi ?_); (case' hp=>walk_at "seq"); (case' hi=>exact rfl))
 | ((with_reducible refine' aQ ?hp ?hi ?_); (case' hp=>walk_at "seq"); (case' hi=>exact rfl))
 | ((with_reducible refine' mC ?hp ?hi ?_); (case' hp=>walk_at "seq"); (case' hi=>exact rfl))
 | ((with_reducible refine And.intro ?hl ?_); case' hl=>(first | exact BQ | exact BP))
 | with_reducible refine zu ?_ | with_reducible refine yo ?_ | with_reducible refine mw ?_ | with_reducible refine yk ?_ | with_reducible refine pG ?_ | with_reducible refine qS ?_ | with_reducible refine qR ?_ | with_reducible refine ju ?_ | with_reducible refine uF ?_ | with_reducible refine pK ?_
 | dsimp only)
local macro_rules | `(tactic| walk_at "rd")=>`(tactic| repeat walk_at "rd1")
local macro_rules | `(tactic| walk_at "blk_vis")=>`(tactic| first | exact Or.inl rfl | exact Or.inr (Or.inl rfl) | exact Or.inr (Or.inr rfl))
local macro_rules | `(tactic| walk_at "blk_ok")=>`(tactic| exact ⟨rfl,by decide +kernel,by decide +kernel,rfl,by (first | exact trivial | exact ⟨rfl,trivial⟩ | exact ⟨rfl,rfl,trivial⟩ | exact ⟨rfl,rfl,rfl,trivial⟩ | exact ⟨rfl,rfl,rfl,rfl,trivial⟩ | exact ⟨rfl,rfl,rfl,rfl,rfl,trivial⟩),rfl,
 by (first | exact aD | exact ai ⟨rfl,by walk_at "blk_vis",rfl,rfl⟩ aD | exact ai ⟨rfl,by walk_at "blk_vis",rfl,rfl⟩ (ai ⟨rfl,by walk_at "blk_vis",rfl,rfl⟩ aD) | exact ai ⟨rfl,by walk_at "blk_vis",rfl,rfl⟩ (ai ⟨rfl,by walk_at "blk_vis",rfl,rfl⟩ (ai ⟨rfl,by walk_at "blk_vis",rfl,rfl⟩ aD)) | exact ai ⟨rfl,by walk_at "blk_vis",rfl,rfl⟩ (ai ⟨rfl,by walk_at "blk_vis",rfl,rfl⟩ (ai ⟨rfl,by walk_at "blk_vis",rfl,rfl⟩ (ai ⟨rfl,by walk_at "blk_vis",rfl,rfl⟩ aD)))),
 by (first | exact ai rfl (ai rfl (ai rfl (ai rfl aD))) | exact aD | exact ai rfl aD | exact ai rfl (ai rfl aD) | exact ai rfl (ai rfl (ai rfl aD)))⟩)
local macro_rules | `(tactic| walk_at "blk_ok1")=>`(tactic| exact ⟨rfl,fun _=>rfl,fun _=>rfl,by decide +kernel,rfl,by (first | exact trivial | exact ⟨rfl,trivial⟩ | exact ⟨rfl,rfl,trivial⟩ | exact ⟨rfl,rfl,rfl,trivial⟩ | exact ⟨rfl,rfl,rfl,rfl,trivial⟩),rfl,
 by (first | exact aD | exact ai ⟨rfl,by walk_at "blk_vis",⟨rfl,rfl⟩,rfl⟩ aD | exact ai ⟨rfl,by walk_at "blk_vis",⟨rfl,rfl⟩,rfl⟩ (ai ⟨rfl,by walk_at "blk_vis",⟨rfl,rfl⟩,rfl⟩ aD) | exact ai ⟨rfl,by walk_at "blk_vis",⟨rfl,rfl⟩,rfl⟩ (ai ⟨rfl,by walk_at "blk_vis",⟨rfl,rfl⟩,rfl⟩ (ai ⟨rfl,by walk_at "blk_vis",⟨rfl,rfl⟩,rfl⟩ aD))),
 by (first | exact aD | exact ai rfl aD | exact ai rfl (ai rfl aD) | exact ai rfl (ai rfl (ai rfl aD)))⟩)
local macro_rules | `(tactic| walk_at "side")=>`(tactic| first | assumption | exact (show (0:Int) < _ by decide) | exact nh (by decide) (by decide) | exact ni (by decide) (by decide) | exact mulL (by decide) (by decide))
local macro_rules | `(tactic| walk_at "seq")=>`(tactic| first | assumption | exact SqT.of (by assumption))
theorem all_mk {l:PySem.W.OpenLaw} {w:World} {K:PySem.W.Frag} {h:Heap} {mg:Str→Option Value} {fa:Addr} (X:K.In h) (G:h.Ns mainGlobals mg) (O2:mg "law" = some (.ref fa))
  {f0:Addr} {Nu Qw:Option Addr} {Mv:Array (Option Value)} {NG N7 P6 M9 LA Qi:Value}
  (a0:PySem.W.nsIn K mainGlobals "ties" = some (some (.ref f0))) (l0:K.lookup f0 = some ⟨NG,Nu,.func (PySem.W.fnOf "ties" "ties" (aW fq) (aS fq) (aw fq) .none N7 P6 M9 Qw LA Qi),Mv⟩) (c0:PySem.W.codeIn K LA "ties" = true) (k0:PySem.W.keepIn K (.ref f0) = true)
  {f1:Addr} {Nt Qv:Option Addr} {Mu:Array (Option Value)} {NF N6 P5 M8 Lz Qh:Value}
  (a1:PySem.W.nsIn K mainGlobals "open_ways" = some (some (.ref f1))) (l1:K.lookup f1 = some ⟨NF,Nt,.func (PySem.W.fnOf "open_ways" "open_ways" (aW bS) (aS bS) (aw bS) .none N6 P5 M8 Qv Lz Qh),Mu⟩) (c1:PySem.W.codeIn K Lz "open_ways" = true) (k1:PySem.W.keepIn K (.ref f1) = true)
  {f2:Addr} {Nr Qu:Option Addr} {BQ:Array (Option Value)} {ND N5 P4 M7 Ly Qg:Value}
  (a2:PySem.W.nsIn K mainGlobals "doors_from" = some (some (.ref f2))) (l2:K.lookup f2 = some ⟨ND,Nr,.func (PySem.W.fnOf "doors_from" "doors_from" (aW bF) (aS bF) (aw bF) .none N5 P4 M7 Qu Ly Qg),BQ⟩) (c2:PySem.W.codeIn K Ly "doors_from" = true) (k2:PySem.W.keepIn K (.ref f2) = true)
  {f3:Addr} {Nq Qt:Option Addr} {BP:Array (Option Value)} {NC N4 P2 M6 Lx Qf:Value}
  (a3:PySem.W.nsIn K mainGlobals "go_to" = some (some (.ref f3))) (l3:K.lookup f3 = some ⟨NC,Nq,.func (PySem.W.fnOf "go_to" "go_to" (aW dQ) (aS dQ) (aw dQ) .none N4 P2 M6 Qt Lx Qf),BP⟩) (c3:PySem.W.codeIn K Lx "go_to" = true) (k3:PySem.W.keepIn K (.ref f3) = true)
  {f4:Addr} {Np Qs:Option Addr} {Mt:Array (Option Value)} {NB N3 P1 M5 Lw Qe:Value}
  (a4:PySem.W.nsIn K mainGlobals "gone_on" = some (some (.ref f4))) (l4:K.lookup f4 = some ⟨NB,Np,.func (PySem.W.fnOf "gone_on" "gone_on" (aW cM) (aS cM) (aw cM) .none N3 P1 M5 Qs Lw Qe),Mt⟩) (c4:PySem.W.codeIn K Lw "gone_on" = true) (k4:PySem.W.keepIn K (.ref f4) = true)
  {f5:Addr} {Nn Qr:Option Addr} {Ms:Array (Option Value)} {NA N2 P0 M4 Lv Qd:Value}
  (a5:PySem.W.nsIn K mainGlobals "road_by" = some (some (.ref f5))) (l5:K.lookup f5 = some ⟨NA,Nn,.func (PySem.W.fnOf "road_by" "road_by" (aW cL) (aS cL) (aw cL) .none N2 P0 M4 Qr Lv Qd),Ms⟩) (c5:PySem.W.codeIn K Lv "road_by" = true) (k5:PySem.W.keepIn K (.ref f5) = true)
  {f6:Addr} {Nm Qq:Option Addr} {Mr:Array (Option Value)} {Nz N1 PZ M3 Lu Qc:Value}
  (a6:PySem.W.nsIn K mainGlobals "roads" = some (some (.ref f6))) (l6:K.lookup f6 = some ⟨Nz,Nm,.func (PySem.W.fnOf "roads" "roads" (aW dP) (aS dP) (aw dP) .none N1 PZ M3 Qq Lu Qc),Mr⟩) (c6:PySem.W.codeIn K Lu "roads" = true) (k6:PySem.W.keepIn K (.ref f6) = true)
  {f7:Addr} {Nj Qp:Option Addr} {Mq:Array (Option Value)} {Ny NZ PY M0 Ls Qb:Value}
  (a7:PySem.W.nsIn K mainGlobals "_law_cell_at" = some (some (.ref f7))) (l7:K.lookup f7 = some ⟨Ny,Nj,.func (PySem.W.fnOf "_law_cell_at" "_law_cell_at" (aW br) (aS br) (aw br) .none NZ PY M0 Qp Ls Qb),Mq⟩) (c7:PySem.W.codeIn K Ls "_law_cell_at" = true) (k7:PySem.W.keepIn K (.ref f7) = true)
  {f8:Addr} {Nh Qo:Option Addr} {Mp:Array (Option Value)} {Nx NY PX MZ Lr Qa:Value}
  (a8:PySem.W.nsIn K mainGlobals "_law_whole" = some (some (.ref f8))) (l8:K.lookup f8 = some ⟨Nx,Nh,.func (PySem.W.fnOf "_law_whole" "_law_whole" (aW bG) (aS bG) (aw bG) .none NY PX MZ Qo Lr Qa),Mp⟩) (c8:PySem.W.codeIn K Lr "_law_whole" = true) (k8:PySem.W.keepIn K (.ref f8) = true)
  {f9:Addr} {Ng Qn:Option Addr} {Mo:Array (Option Value)} {Nw NX PV MY Lq P9:Value}
  (a9:PySem.W.nsIn K mainGlobals "_law_block" = some (some (.ref f9))) (l9:K.lookup f9 = some ⟨Nw,Ng,.func (PySem.W.fnOf "_law_block" "_law_block" (aW bL) (aS bL) (aw bL) .none NX PV MY Qn Lq P9),Mo⟩) (c9:PySem.W.codeIn K Lq "_law_block" = true) (k9:PySem.W.keepIn K (.ref f9) = true)
  {EN:Addr} {Gx Jl:Option Addr} {FH:Array (Option Value)} {GK Hg IH Gd Du IX:Value}
  (a10:PySem.W.nsIn K mainGlobals "_law_mixed" = some (some (.ref EN))) (l10:K.lookup EN = some ⟨GK,Gx,.func (PySem.W.fnOf "_law_mixed" "_law_mixed" (aW bJ) (aS bJ) (aw bJ) .none Hg IH Gd Jl Du IX),FH⟩) (c10:PySem.W.codeIn K Du "_law_mixed" = true) (k10:PySem.W.keepIn K (.ref EN) = true)
  {EM:Addr} {Gw Jk:Option Addr} {FG:Array (Option Value)} {GJ Hf IG Gb Ds IW:Value}
  (a11:PySem.W.nsIn K mainGlobals "_law_any" = some (some (.ref EM))) (l11:K.lookup EM = some ⟨GJ,Gw,.func (PySem.W.fnOf "_law_any" "_law_any" (aW b6) (aS b6) (aw b6) .none Hf IG Gb Jk Ds IW),FG⟩) (c11:PySem.W.codeIn K Ds "_law_any" = true) (k11:PySem.W.keepIn K (.ref EM) = true)
  {EL:Addr} {Gv Jj:Option Addr} {FF:Array (Option Value)} {GI He IF Ga Dr IV:Value}
  (a12:PySem.W.nsIn K mainGlobals "_law_rings" = some (some (.ref EL))) (l12:K.lookup EL = some ⟨GI,Gv,.func (PySem.W.fnOf "_law_rings" "_law_rings" (aW bI) (aS bI) (aw bI) .none He IF Ga Jj Dr IV),FF⟩) (c12:PySem.W.codeIn K Dr "_law_rings" = true) (k12:PySem.W.keepIn K (.ref EL) = true)
  {EK:Addr} {Gu Ji:Option Addr} {FE:Array (Option Value)} {GH Hd IE F9 Dq IU:Value}
  (a13:PySem.W.nsIn K mainGlobals "_law_put_tie" = some (some (.ref EK))) (l13:K.lookup EK = some ⟨GH,Gu,.func (PySem.W.fnOf "_law_put_tie" "_law_put_tie" (aW bo) (aS bo) (aw bo) .none Hd IE F9 Ji Dq IU),FE⟩) (c13:PySem.W.codeIn K Dq "_law_put_tie" = true) (k13:PySem.W.keepIn K (.ref EK) = true)
  {EJ:Addr} {Gs Jh:Option Addr} {FD:Array (Option Value)} {GG Hc ID F7 Dm IT:Value}
  (a14:PySem.W.nsIn K mainGlobals "_law_put_place" = some (some (.ref EJ))) (l14:K.lookup EJ = some ⟨GG,Gs,.func (PySem.W.fnOf "_law_put_place" "_law_put_place" (aW bb) (aS bb) (aw bb) .none Hc ID F7 Jh Dm IT),FD⟩) (c14:PySem.W.codeIn K Dm "_law_put_place" = true) (k14:PySem.W.keepIn K (.ref EJ) = true)
  {EI:Addr} {Gr Jg:Option Addr} {FC:Array (Option Value)} {GF Hb IC F6 Dl IS:Value}
  (a15:PySem.W.nsIn K mainGlobals "_law_grown" = some (some (.ref EI))) (l15:K.lookup EI = some ⟨GF,Gr,.func (PySem.W.fnOf "_law_grown" "_law_grown" (aW bK) (aS bK) (aw bK) .none Hb IC F6 Jg Dl IS),FC⟩) (c15:PySem.W.codeIn K Dl "_law_grown" = true) (k15:PySem.W.keepIn K (.ref EI) = true)
  {EH:Addr} {Gq Jf:Option Addr} {FA:Array (Option Value)} {GD Ha IB F5 Dk IQ:Value}
  (a16:PySem.W.nsIn K mainGlobals "_law_come_to" = some (some (.ref EH))) (l16:K.lookup EH = some ⟨GD,Gq,.func (PySem.W.fnOf "_law_come_to" "_law_come_to" (aW bq) (aS bq) (aw bq) .none Ha IB F5 Jf Dk IQ),FA⟩) (c16:PySem.W.codeIn K Dk "_law_come_to" = true) (k16:PySem.W.keepIn K (.ref EH) = true)
  {EG:Addr} {Gp Je:Option Addr} {Fz:Array (Option Value)} {GC G9 IA F4 Dj IP:Value}
  (a17:PySem.W.nsIn K mainGlobals "_law_is_road" = some (some (.ref EG))) (l17:K.lookup EG = some ⟨GC,Gp,.func (PySem.W.fnOf "_law_is_road" "_law_is_road" (aW bp) (aS bp) (aw bp) .none G9 IA F4 Je Dj IP),Fz⟩) (c17:PySem.W.codeIn K Dj "_law_is_road" = true) (k17:PySem.W.keepIn K (.ref EG) = true)
  {EF:Addr} {Gn Jd:Option Addr} {Fy:Array (Option Value)} {GB G8 Iz F2 Di IM:Value}
  (a18:PySem.W.nsIn K mainGlobals "_law_three" = some (some (.ref EF))) (l18:K.lookup EF = some ⟨GB,Gn,.func (PySem.W.fnOf "_law_three" "_law_three" (aW bH) (aS bH) (aw bH) .none G8 Iz F2 Jd Di IM),Fy⟩) (c18:PySem.W.codeIn K Di "_law_three" = true) (k18:PySem.W.keepIn K (.ref EF) = true)
  {EE:Addr} {Gk Jc:Option Addr} {Fx:Array (Option Value)} {GA G7 Iy F1 Dh IL:Value}
  (a19:PySem.W.nsIn K mainGlobals "_law_shut" = some (some (.ref EE))) (l19:K.lookup EE = some ⟨GA,Gk,.func (PySem.W.fnOf "_law_shut" "_law_shut" (aW bU) (aS bU) (aw bU) .none G7 Iy F1 Jc Dh IL),Fx⟩) (c19:PySem.W.codeIn K Dh "_law_shut" = true) (k19:PySem.W.keepIn K (.ref EE) = true)
  {ED:Addr} {Gj Jb:Option Addr} {Fv:Array (Option Value)} {Gz G6 Iw F0 Dg IK:Value}
  (a20:PySem.W.nsIn K mainGlobals "_law_told" = some (some (.ref ED))) (l20:K.lookup ED = some ⟨Gz,Gj,.func (PySem.W.fnOf "_law_told" "_law_told" (aW bT) (aS bT) (aw bT) .none G6 Iw F0 Jb Dg IK),Fv⟩) (c20:PySem.W.codeIn K Dg "_law_told" = true) (k20:PySem.W.keepIn K (.ref ED) = true)
  {Im:Addr} {Gi Dx:Option Addr} {Fu:Array (Option Value)} {Gy Cr C8 Cb AL Dc:Value}
  (a21:PySem.W.nsIn K mainGlobals "law" = some (some (.ref Im))) (l21:K.lookup Im = some ⟨Gy,Gi,.func (PySem.W.fnOf "law" "law" (aW gP) (aS gP) (aw gP) .none Cr C8 Cb Dx AL Dc),Fu⟩) (c21:PySem.W.codeIn K AL "law" = true) (k21:PySem.W.keepIn K (.ref Im) = true)
  (z0:PySem.W.nsIn K mainGlobals "len" = some none)
  (z1:PySem.W.nsIn K mainGlobals "range" = some none)
  (z2:PySem.W.nsIn K mainGlobals "min" = some none)
  (z3:PySem.W.nsIn K mainGlobals "max" = some none)
  (z4:PySem.W.nsIn K mainGlobals "list" = some none)
  (z5:PySem.W.nsIn K mainGlobals "enumerate" = some none)
  (z6:PySem.W.nsIn K mainGlobals "sorted" = some none)
  (z7:PySem.W.nsIn K mainGlobals "isinstance" = some none)
  (z8:PySem.W.nsIn K mainGlobals "int" = some none)
  (z9:PySem.W.nsIn K mainGlobals "bool" = some none)
  (z10:PySem.W.nsIn K mainGlobals "set" = some none)
  (z11:PySem.W.nsIn K mainGlobals "tuple" = some none)
  (z12:PySem.W.nsIn K mainGlobals "str" = some none)
  {Bw:Tok} (g_IN:PySem.W.nsIn K mainGlobals "IN" = some (some (.int 0 Bw)))
  {yY:Tok} (g_OUT:PySem.W.nsIn K mainGlobals "OUT" = some (some (.int 1 yY)))
  : ∃ fd:FuncData,(∀ (s:Shared) (v:Value),BindsTo s fd ⟨[v],[]⟩ [("_law_script",v)])∧∀ base:Heap,K.In base→base.Ns mainGlobals mg→kJ l.prog w K mg base (cQ l.prog w) 10 fa fd ["_law_script"] (lY K):=by
 have e:=O2.symm.trans (PySem.W.mg_of X G a21)
 cases e
 have T:Txt K mg ⟨⟩:=⟨PySem.W.mg_none_of X G z0,PySem.W.mg_none_of X G z1,PySem.W.mg_none_of X G z2,PySem.W.mg_none_of X G z3,PySem.W.mg_none_of X G z4,PySem.W.mg_none_of X G z5,PySem.W.mg_none_of X G z6,PySem.W.mg_none_of X G z7,PySem.W.mg_none_of X G z8,PySem.W.mg_none_of X G z9,PySem.W.mg_none_of X G z10,PySem.W.mg_none_of X G z11,PySem.W.mg_none_of X G z12,⟨_,PySem.W.mg_of X G g_IN⟩,⟨_,PySem.W.mg_of X G g_OUT⟩⟩
 have D0:Def K mg "ties" fq ["orders"]:=⟨⟨f0,_,aM (st:=fq) l0 c0 k0,PySem.W.mg_of X G a0,(aM (st:=fq) l0 c0 k0).binds (ps:=["orders"]) fun _ _ _ _ _ _ us hl=>match us,hl with | [_],_=>rfl⟩⟩
 have D1:Def K mg "open_ways" bS ["orders", "one", "other"]:=⟨⟨f1,_,aM (st:=bS) l1 c1 k1,PySem.W.mg_of X G a1,(aM (st:=bS) l1 c1 k1).binds (ps:=["orders", "one", "other"]) fun _ _ _ _ _ _ us hl=>match us,hl with | [_,_,_],_=>rfl⟩⟩
 have D2:Def K mg "doors_from" bF ["ways", "start"]:=⟨⟨f2,_,aM (st:=bF) l2 c2 k2,PySem.W.mg_of X G a2,(aM (st:=bF) l2 c2 k2).binds (ps:=["ways", "start"]) fun _ _ _ _ _ _ us hl=>match us,hl with | [_,_],_=>rfl⟩⟩
 have D3:Def K mg "go_to" dQ ["ways", "ahead", "goal"]:=⟨⟨f3,_,aM (st:=dQ) l3 c3 k3,PySem.W.mg_of X G a3,(aM (st:=dQ) l3 c3 k3).binds (ps:=["ways", "ahead", "goal"]) fun _ _ _ _ _ _ us hl=>match us,hl with | [_,_,_],_=>rfl⟩⟩
 have D4:Def K mg "gone_on" cM ["orders", "ways", "place"]:=⟨⟨f4,_,aM (st:=cM) l4 c4 k4,PySem.W.mg_of X G a4,(aM (st:=cM) l4 c4 k4).binds (ps:=["orders", "ways", "place"]) fun _ _ _ _ _ _ us hl=>match us,hl with | [_,_,_],_=>rfl⟩⟩
 have D5:Def K mg "road_by" cL ["orders", "ways", "start", "goal"]:=⟨⟨f5,_,aM (st:=cL) l5 c5 k5,PySem.W.mg_of X G a5,(aM (st:=cL) l5 c5 k5).binds (ps:=["orders", "ways", "start", "goal"]) fun _ _ _ _ _ _ us hl=>match us,hl with | [_,_,_,_],_=>rfl⟩⟩
 have D6:Def K mg "roads" dP ["orders", "one", "other"]:=⟨⟨f6,_,aM (st:=dP) l6 c6 k6,PySem.W.mg_of X G a6,(aM (st:=dP) l6 c6 k6).binds (ps:=["orders", "one", "other"]) fun _ _ _ _ _ _ us hl=>match us,hl with | [_,_,_],_=>rfl⟩⟩
 have D7:Def K mg "_law_cell_at" br ["_law_script", "_law_k"]:=⟨⟨f7,_,aM (st:=br) l7 c7 k7,PySem.W.mg_of X G a7,(aM (st:=br) l7 c7 k7).binds (ps:=["_law_script", "_law_k"]) fun _ _ _ _ _ _ us hl=>match us,hl with | [_,_],_=>rfl⟩⟩
 have D8:Def K mg "_law_whole" bG ["_law_found"]:=⟨⟨f8,_,aM (st:=bG) l8 c8 k8,PySem.W.mg_of X G a8,(aM (st:=bG) l8 c8 k8).binds (ps:=["_law_found"]) fun _ _ _ _ _ _ us hl=>match us,hl with | [_],_=>rfl⟩⟩
 have D9:Def K mg "_law_block" bL ["_law_script", "_law_k"]:=⟨⟨f9,_,aM (st:=bL) l9 c9 k9,PySem.W.mg_of X G a9,(aM (st:=bL) l9 c9 k9).binds (ps:=["_law_script", "_law_k"]) fun _ _ _ _ _ _ us hl=>match us,hl with | [_,_],_=>rfl⟩⟩
 have Q5:Def K mg "_law_mixed" bJ ["_law_script", "_law_k"]:=⟨⟨EN,_,aM (st:=bJ) l10 c10 k10,PySem.W.mg_of X G a10,(aM (st:=bJ) l10 c10 k10).binds (ps:=["_law_script", "_law_k"]) fun _ _ _ _ _ _ us hl=>match us,hl with | [_,_],_=>rfl⟩⟩
 have Q4:Def K mg "_law_any" b6 ["_law_script", "_law_start", "_law_many"]:=⟨⟨EM,_,aM (st:=b6) l11 c11 k11,PySem.W.mg_of X G a11,(aM (st:=b6) l11 c11 k11).binds (ps:=["_law_script", "_law_start", "_law_many"]) fun _ _ _ _ _ _ us hl=>match us,hl with | [_,_,_],_=>rfl⟩⟩
 have Q3:Def K mg "_law_rings" bI ["_law_orders"]:=⟨⟨EL,_,aM (st:=bI) l12 c12 k12,PySem.W.mg_of X G a12,(aM (st:=bI) l12 c12 k12).binds (ps:=["_law_orders"]) fun _ _ _ _ _ _ us hl=>match us,hl with | [_],_=>rfl⟩⟩
 have Q2:Def K mg "_law_put_tie" bo ["_law_orders", "_law_ring", "_law_one", "_law_other"]:=⟨⟨EK,_,aM (st:=bo) l13 c13 k13,PySem.W.mg_of X G a13,(aM (st:=bo) l13 c13 k13).binds (ps:=["_law_orders", "_law_ring", "_law_one", "_law_other"]) fun _ _ _ _ _ _ us hl=>match us,hl with | [_,_,_,_],_=>rfl⟩⟩
 have Q1:Def K mg "_law_put_place" bb ["_law_orders", "_law_ring", "_law_corners"]:=⟨⟨EJ,_,aM (st:=bb) l14 c14 k14,PySem.W.mg_of X G a14,(aM (st:=bb) l14 c14 k14).binds (ps:=["_law_orders", "_law_ring", "_law_corners"]) fun _ _ _ _ _ _ us hl=>match us,hl with | [_,_,_],_=>rfl⟩⟩
 have Q0:Def K mg "_law_grown" bK ["_law_script", "_law_start", "_law_steps"]:=⟨⟨EI,_,aM (st:=bK) l15 c15 k15,PySem.W.mg_of X G a15,(aM (st:=bK) l15 c15 k15).binds (ps:=["_law_script", "_law_start", "_law_steps"]) fun _ _ _ _ _ _ us hl=>match us,hl with | [_,_,_],_=>rfl⟩⟩
 have QZ:Def K mg "_law_come_to" bq ["_law_orders", "_law_start", "_law_gone"]:=⟨⟨EH,_,aM (st:=bq) l16 c16 k16,PySem.W.mg_of X G a16,(aM (st:=bq) l16 c16 k16).binds (ps:=["_law_orders", "_law_start", "_law_gone"]) fun _ _ _ _ _ _ us hl=>match us,hl with | [_,_,_],_=>rfl⟩⟩
 have QY:Def K mg "_law_is_road" bp ["_law_road", "_law_orders", "_law_one", "_law_other"]:=⟨⟨EG,_,aM (st:=bp) l17 c17 k17,PySem.W.mg_of X G a17,(aM (st:=bp) l17 c17 k17).binds (ps:=["_law_road", "_law_orders", "_law_one", "_law_other"]) fun _ _ _ _ _ _ us hl=>match us,hl with | [_,_,_,_],_=>rfl⟩⟩
 have QX:Def K mg "_law_three" bH ["_law_found", "_law_orders", "_law_one", "_law_other"]:=⟨⟨EF,_,aM (st:=bH) l18 c18 k18,PySem.W.mg_of X G a18,(aM (st:=bH) l18 c18 k18).binds (ps:=["_law_found", "_law_orders", "_law_one", "_law_other"]) fun _ _ _ _ _ _ us hl=>match us,hl with | [_,_,_,_],_=>rfl⟩⟩
 have QW:Def K mg "_law_shut" bU ["_law_found", "_law_orders", "_law_one", "_law_other"]:=⟨⟨EE,_,aM (st:=bU) l19 c19 k19,PySem.W.mg_of X G a19,(aM (st:=bU) l19 c19 k19).binds (ps:=["_law_found", "_law_orders", "_law_one", "_law_other"]) fun _ _ _ _ _ _ us hl=>match us,hl with | [_,_,_,_],_=>rfl⟩⟩
 have QV:Def K mg "_law_told" bT ["_law_found", "_law_orders", "_law_one", "_law_other"]:=⟨⟨ED,_,aM (st:=bT) l20 c20 k20,PySem.W.mg_of X G a20,(aM (st:=bT) l20 c20 k20).binds (ps:=["_law_found", "_law_orders", "_law_one", "_law_other"]) fun _ _ _ _ _ _ us hl=>match us,hl with | [_,_,_,_],_=>rfl⟩⟩
 refine ⟨PySem.W.fnOf "law" "law" (aW gP) (aS gP) (aw gP) .none Cr C8 Cb Dx AL Dc,fun s v=>.of_eq rfl,fun base hK hG=>?_⟩
 have A4:=wW (P:=l.prog) (w:=w) (base:=base) D0 T
 have oY:=mH (P:=l.prog) (w:=w) (base:=base) D1 T A4
 have nq:=kj (P:=l.prog) (w:=w) (base:=base) D2 T
 have xV:=uP (P:=l.prog) (w:=w) (base:=base) D3 T
 have lS:=pX (P:=l.prog) (w:=w) (base:=base) D4 T
 have tN:=pW (P:=l.prog) (w:=w) (base:=base) D5 T lS
 have xU:=uO (P:=l.prog) (w:=w) (base:=base) D6 T oY nq xV lS tN
 have j9:=iR (P:=l.prog) (w:=w) (base:=base) D7 T
 have h9:=km (P:=l.prog) (w:=w) (base:=base) D8 T
 have nD:=kz (P:=l.prog) (w:=w) (base:=base) D9 T
 have eZ:=ku (P:=l.prog) (w:=w) (base:=base) Q5 T nD
 have qv:=oe (P:=l.prog) (w:=w) (base:=base) Q4 T eZ
 have nv:=kr (P:=l.prog) (w:=w) (base:=base) Q3 T
 have j6:=iO (P:=l.prog) (w:=w) (base:=base) Q2 T
 have iI:=gW (P:=l.prog) (w:=w) (base:=base) Q1 T
 have nC:=ky (P:=l.prog) (w:=w) (base:=base) Q0 T eZ nv j6 iI
 have j8:=iQ (P:=l.prog) (w:=w) (base:=base) QZ T
 have j7:=iP (P:=l.prog) (w:=w) (base:=base) QY T h9
 have nu:=ko (P:=l.prog) (w:=w) (base:=base) QX T j7
 have o5:=mJ (P:=l.prog) (w:=w) (base:=base) QW T h9 j8
 have oZ:=mI (P:=l.prog) (w:=w) (base:=base) QV T nu o5
 exact zL (aM (st:=gP) l21 c21 k21) T xU j9 eZ qv nC oZ
theorem walk {l:PySem.W.OpenLaw} {q:Program} {loose:List Str} {XP:(Str→Option Value)→Heap→Prop} {YP:World→Heap→Prop} {d:DefRec} {K:Params→PySem.W.Frag} (hn:l.most = some 63) (CP:d.params.defaults = [])
  (hY:∀ (w:World) (h:Heap),YP w h→(K w.params).In h)
  (F:∀ (w:World) (mg:Str→Option Value) (fa:Addr) (h:Heap),(K w.params).In h→h.Ns mainGlobals mg→mg d.name = some (.ref fa)→
   ∃ fd:FuncData,(∀ (s:Shared) (u:Value),BindsTo s fd ⟨[u],[]⟩ [("_law_script",u)])∧∀ base:Heap,(K w.params).In base→base.Ns mainGlobals mg→kJ l.prog w (K w.params) mg base (cQ l.prog w) 10 fa fd ["_law_script"] (lY (K w.params))) :
  PySem.W.WalkO q loose XP YP l.row.toRowW d [] (fun f vs=>PySem.call f vs):=
 L2.wg (n:=63) (k:=10) (x:= "_law_script") (CX:=fun w=>cQ l.prog w) (sp:=fun w=>lY (K w.params)) hn (by decide) CP ⟨rfl,by decide,by decide⟩ hY F (fun _ _ a ns hl _ hS=>⟨a,ns,rfl,hS,hl,fun _=>rfl⟩) fun _ _ _ _ _ z=>tq z
end AU
theorem PySem.W.Fast.tw1113065121625529100:True:=trivial
theorem PySem.W.Fast.tw447673896847270063:True:=trivial
theorem PySem.W.Fast.tw746958076914842864:True:=trivial
theorem PySem.W.Fast.tw9801739579075884769:True:=trivial
theorem PySem.W.Fast.tw5811406952659210993:True:=trivial
theorem PySem.W.Fast.tw12010263350166331263:True:=trivial
theorem PySem.W.Fast.tw10214775717389397000:True:=trivial
theorem PySem.W.Fast.tw4331609134784116825:True:=trivial
theorem PySem.W.Fast.tw7616195968782256235:True:=trivial
theorem PySem.W.Fast.tw13897437772645177883:True:=trivial
theorem PySem.W.Fast.tw13562703509491982267:True:=trivial
open PySem PySem.W PyProof.Rows
set_option maxRecDepth 100000 in
set_option maxHeartbeats 0 in
theorem PySem.Challenge.cw_standup_k32_whole_roads_holds : PySem.Challenge.rw_standup_k32_whole_roads.Holds := by
 w_on; o_law; k_head; (case hw=>w_witness2)
 k_fill
 refine AU.walk (l:=PySem.Challenge.rw_standup_k32_whole_roads) rfl rfl (fun w h Y=>PySem.W.kIn_of Y) ?F
 case F=>
  intro w mg fa h KX G CH
  refine' AU.all_mk KX G CH ?a0 ?l0 ?c0 ?k0 ?a1 ?l1 ?c1 ?k1 ?a2 ?l2 ?c2 ?k2 ?a3 ?l3 ?c3 ?k3 ?a4 ?l4 ?c4 ?k4 ?a5 ?l5 ?c5 ?k5 ?a6 ?l6 ?c6 ?k6 ?a7 ?l7 ?c7 ?k7 ?a8 ?l8 ?c8 ?k8 ?a9 ?l9 ?c9 ?k9 ?a10 ?l10 ?c10 ?k10 ?a11 ?l11 ?c11 ?k11 ?a12 ?l12 ?c12 ?k12 ?a13 ?l13 ?c13 ?k13 ?a14 ?l14 ?c14 ?k14 ?a15 ?l15 ?c15 ?k15 ?a16 ?l16 ?c16 ?k16 ?a17 ?l17 ?c17 ?k17 ?a18 ?l18 ?c18 ?k18 ?a19 ?l19 ?c19 ?k19 ?a20 ?l20 ?c20 ?k20 ?a21 ?l21 ?c21 ?k21 ?z0 ?z1 ?z2 ?z3 ?z4 ?z5 ?z6 ?z7 ?z8 ?z9 ?z10 ?z11 ?z12 ?g_IN ?g_OUT
  (case a0=>k_is)
  (case l0=>k_is)
  (case c0=>k_is)
  (case k0=>k_is)
  (case a1=>k_is)
  (case l1=>k_is)
  (case c1=>k_is)
  (case k1=>k_is)
  (case a2=>k_is)
  (case l2=>k_is)
  (case c2=>k_is)
  (case k2=>k_is)
  (case a3=>k_is)
  (case l3=>k_is)
  (case c3=>k_is)
  (case k3=>k_is)
  (case a4=>k_is)
  (case l4=>k_is)
  (case c4=>k_is)
  (case k4=>k_is)
  (case a5=>k_is)
  (case l5=>k_is)
  (case c5=>k_is)
  (case k5=>k_is)
  (case a6=>k_is)
  (case l6=>k_is)
  (case c6=>k_is)
  (case k6=>k_is)
  (case a7=>k_is)
  (case l7=>k_is)
  (case c7=>k_is)
  (case k7=>k_is)
  (case a8=>k_is)
  (case l8=>k_is)
  (case c8=>k_is)
  (case k8=>k_is)
  (case a9=>k_is)
  (case l9=>k_is)
  (case c9=>k_is)
  (case k9=>k_is)
  (case a10=>k_is)
  (case l10=>k_is)
  (case c10=>k_is)
  (case k10=>k_is)
  (case a11=>k_is)
  (case l11=>k_is)
  (case c11=>k_is)
  (case k11=>k_is)
  (case a12=>k_is)
  (case l12=>k_is)
  (case c12=>k_is)
  (case k12=>k_is)
  (case a13=>k_is)
  (case l13=>k_is)
  (case c13=>k_is)
  (case k13=>k_is)
  (case a14=>k_is)
  (case l14=>k_is)
  (case c14=>k_is)
  (case k14=>k_is)
  (case a15=>k_is)
  (case l15=>k_is)
  (case c15=>k_is)
  (case k15=>k_is)
  (case a16=>k_is)
  (case l16=>k_is)
  (case c16=>k_is)
  (case k16=>k_is)
  (case a17=>k_is)
  (case l17=>k_is)
  (case c17=>k_is)
  (case k17=>k_is)
  (case a18=>k_is)
  (case l18=>k_is)
  (case c18=>k_is)
  (case k18=>k_is)
  (case a19=>k_is)
  (case l19=>k_is)
  (case c19=>k_is)
  (case k19=>k_is)
  (case a20=>k_is)
  (case l20=>k_is)
  (case c20=>k_is)
  (case k20=>k_is)
  (case a21=>k_is)
  (case l21=>k_is)
  (case c21=>k_is)
  (case k21=>k_is)
  (case z0=>k_is)
  (case z1=>k_is)
  (case z2=>k_is)
  (case z3=>k_is)
  (case z4=>k_is)
  (case z5=>k_is)
  (case z6=>k_is)
  (case z7=>k_is)
  (case z8=>k_is)
  (case z9=>k_is)
  (case z10=>k_is)
  (case z11=>k_is)
  (case z12=>k_is)
  (case g_IN=>k_is)
  (case g_OUT=>k_is)
