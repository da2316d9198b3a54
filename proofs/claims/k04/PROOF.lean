import PyProof.Rows.All
import Wide.All
import OpenK.AllK
import Wide.FinOn
import Lean
import PyProof.EqAt
import PyProof.EqKinds
import PyProof.TupleCall
import KE.KRevIter
import KE.KIntText
import KE.KDictList
import PySem.Challenge.RW_standup_k04_one_answer_or_none
set_option Elab.async false
set_option linter.all false
set_option maxRecDepth 100000
set_option maxHeartbeats 4000000
namespace L2
open PySem PySem.Spec PyProof.Rows
abbrev Key:=Sum Int Str
def vf:Key→Value→Bool
 | .inl k,v=>Value.isInt k v
 | .inr x,v=>Value.isStrOf x v
def DG (w:World):Key→Int
 | .inl k=>hashInt k
 | .inr x=>hashStr w x
theorem bS:∀ {k:Key} {v:Value},vf k v = true→(∃ i t,k = Sum.inl i∧v = Value.int i t)∨(∃ x t,k = Sum.inr x∧v = Value.str x t)
 | .inl i,v,h=>by
  obtain ⟨t,e⟩:=Value.isInt_shape (k:=i) (v:=v) h
  exact .inl ⟨i,t,rfl,e⟩
 | .inr x,v,h=>by
  obtain ⟨t,e⟩:=Value.isStrOf_shape (x:=x) (v:=v) h
  exact .inr ⟨x,t,rfl,e⟩
theorem wR (a b:Int):decide ((Sum.inl a:Key) = Sum.inl b) = (a == b):=by
 by_cases e:a = b
 ·subst e; simp
 ·have h:¬ (Sum.inl a:Key) = Sum.inl b:=fun q=>e (Sum.inl.inj q)
  rw [decide_eq_false h]
  exact (beq_eq_false_iff_ne.mpr e).symm
theorem wN (a b:Str):decide ((Sum.inr a:Key) = Sum.inr b) = decide (a = b):=by
 by_cases e:a = b
 ·subst e; simp
 ·have h:¬ (Sum.inr a:Key) = Sum.inr b:=fun q=>e (Sum.inr.inj q)
  rw [decide_eq_false h,decide_eq_false e]
theorem wQ (a:Int) (b:Str):decide ((Sum.inl a:Key) = Sum.inr b) = false:=decide_eq_false (fun q=>nomatch q)
theorem wO (a:Str) (b:Int):decide ((Sum.inr a:Key) = Sum.inl b) = false:=decide_eq_false (fun q=>nomatch q)
def lh (prog:Program) (w:World):PySem.KeyKind prog w Key where
 is:=vf
 hash:=DG w
 inj:=fun v a b ha hb=>by
  rcases bS ha with ⟨i,t,rfl,rfl⟩ | ⟨x,t,rfl,rfl⟩
  ·rcases bS hb with ⟨j,u,rfl,e⟩ | ⟨y,u,rfl,e⟩
   ·injection e with e1 _; rw [e1]
   ·exact nomatch e
  ·rcases bS hb with ⟨j,u,rfl,e⟩ | ⟨y,u,rfl,e⟩
   ·exact nomatch e
   ·injection e with e1 _; rw [e1]
 byValue:=fun k v h=>by
  rcases bS h with ⟨i,t,rfl,rfl⟩ | ⟨x,t,rfl,rfl⟩ <;> rfl
 pyHash:=fun hv h=>by
  rcases bS hv with ⟨i,t,rfl,rfl⟩ | ⟨x,t,rfl,rfl⟩
  ·exact wpAny_pyHash_int h
  ·exact wpAny_pyHash_str h
 eqBool:=fun hu hv h=>by
  rcases bS hu with ⟨i,t,rfl,rfl⟩ | ⟨x,t,rfl,rfl⟩
  ·rcases bS hv with ⟨j,u,rfl,rfl⟩ | ⟨y,u,rfl,rfl⟩
   ·rw [wR] at h; exact wpAny_eqBool_int h
   ·rw [wQ] at h; exact SeqAt.EqAt.int_str i t y u _ _ _ _ h
  ·rcases bS hv with ⟨j,u,rfl,rfl⟩ | ⟨y,u,rfl,rfl⟩
   ·rw [wO] at h; exact SeqAt.EqAt.str_int x t j u _ _ _ _ h
   ·rw [wN] at h; exact wpAny_eqBool_str h
 «strs»:=fun k x t v h=>by
  rcases bS h with ⟨i,u,rfl,e⟩ | ⟨y,u,rfl,e⟩
  ·exact nomatch e
  ·injection e with e1 _
   subst e1
   cases v <;> rfl
end L2
namespace L2
open PySem PySem.Spec PyProof.Rows
inductive V where
 | df | bl (b:Bool) | int (i:Int) | str (x:Str) | nT (b:Array UInt8) | nP (b:UInt64) | ref (a:Addr) | ty (n:String)
 deriving DecidableEq
def RelV:V→Value→Prop
 | .df,u=>u = Value.none
 | .bl b,u=>u = Value.bool b
 | .int i,u=>∃ t,u = Value.int i t
 | .str x,u=>∃ t,u = Value.str x t
 | .nT b,u=>∃ t,u = Value.bytes b t
 | .nP b,u=>∃ t,u = Value.float b t
 | .ref a,u=>u = Value.ref a
 | .ty n,u=>u = Value.type n
abbrev Vals:List V→List Value→Prop:=Paired RelV
theorem Vals.length {xs:List V} {us:List Value} (r:Vals xs us):xs.length = us.length:=Paired.length r
theorem Vals.get:∀ {xs:List V} {us:List Value} {i:Nat} {x:V},Vals xs us→xs[i]? = some x→∃ u,us[i]? = some u∧RelV x u
 | _,_,_,_,.nil,e=>by simp at e
 | _,_,0,_,.cons r _,e=>by simp at e; subst e; exact ⟨_,rfl,r⟩
 | _,_,i + 1,x,.cons _ t,e=>by
  obtain ⟨u,h1,h2⟩:=Vals.get (i:=i) (x:=x) t (by simpa using e)
  exact ⟨u,by simpa using h1,h2⟩
theorem Vals.set {x:V} {u:Value} (r:RelV x u):∀ {xs:List V} {us:List Value} (i:Nat),Vals xs us→Vals (xs.set i x) (us.set i u)
 | _,_,_,.nil=>.nil
 | _,_,0,.cons _ t=>.cons r t
 | _,_,i + 1,.cons q t=>.cons q (Vals.set r i t)
theorem Vals.append:∀ {xs ys:List V} {us ws:List Value},Vals xs us→Vals ys ws→Vals (xs ++ ys) (us ++ ws)
 | _,_,_,_,.nil,s=>s
 | _,_,_,_,.cons r t,s=>.cons r (Vals.append t s)
theorem Vals.take:∀ {xs:List V} {us:List Value} (n:Nat),Vals xs us→Vals (xs.take n) (us.take n)
 | _,_,0,_=>.nil
 | _,_,_ + 1,.nil=>.nil
 | _,_,n + 1,.cons r t=>.cons r (Vals.take n t)
theorem Vals.drop:∀ {xs:List V} {us:List Value} (n:Nat),Vals xs us→Vals (xs.drop n) (us.drop n)
 | _,_,0,r=>r
 | _,_,_ + 1,.nil=>.nil
 | _,_,n + 1,.cons _ t=>Vals.drop n t
def xP:Option V→Option Value→Prop
 | some v,some u=>RelV v u
 | none,none=>True
 | _,_=>False
def KV {κ : Type}:List (κ×V)→List (κ×Value)→Prop:=Paired fun (p : κ×V) (q : κ×Value)=>p.1 = q.1∧RelV p.2 q.2
def kV:Key→V
 | .inl i=>.int i
 | .inr x=>.str x
inductive HO where
 /-- a list -/
 | lst (xs:List V)
 /-- a tuple (never changes) -/
 | tup (xs:List V)
 /-- a dict yl keys are ints and texts; one yl keys are tuples of ints and texts (p7 empty one is both) -/
 | dK (bE:List (Key×V)) | dT (bE:List (List Key×V))
 /-- a set of ints: aY members,aY size -/
 | set (S:Int→Bool) (n:Nat)
 /-- an instance of p7 class at C,aY dict at dx,aY attributes -/
 | ins (C dx:Addr) (fs:List (Str×V))
 /-- p7 dict of p7 instance at x -/
 | own (x:Addr)
 /-- p7 dict of an exception -/
 | xd (fs:List (Str×V))
 /-- a bound method,f of x -/
 | met (f x:Addr)
 /-- a range object lo,lo + 1,.. below hi -/
 | AE (lo hi:Int)
 /-- a yp IL is known to p7 object (p7 qy; a dict while a loop walks it): read,never written while it is so -/
 | lN (o:Obj) (u:HO)
 /-- a code object's table -/
 | uM (ps:Array Value)
 /-- any other yp,by Bx is true of aY one object (a def of one's own: MT a S n:=HO.ext fun h=>..) -/
 | ext (φ : Heap→Prop)
abbrev Hp:=Addr→Option HO
def upd (H:Hp) (a:Addr) (o:HO):Hp:=fun b=>if b = a then some o else H b
theorem ah {H:Hp} {a:Addr} {o:HO}:upd H a o a = some o:=by unfold upd; rw [if_pos rfl]
theorem av {H:Hp} {a b:Addr} {o:HO} (h:b≠a):upd H a o b = H b:=by unfold upd; rw [if_neg h]
theorem aG {H:Hp} {a b:Addr} {o:HO} (h:H a = some o) (h':H b = none):a≠b:=by
 intro e; subst e; rw [h] at h'; cases h'
section
variable (P:Program) (w:World)
def bW (H:Hp) (h:Heap) (a:Addr):HO→Prop
 | .lst xs=>xs.length≤sizeLine∧∃ (aY:List Value) (n:Nat),Vals xs aY∧h.get? a = some { cls:=.type "list",data:=.seq aY.toArray n }
 | .tup xs=>xs.length≤sizeLine∧∃ aY:List Value,Vals xs aY∧IsTup h a aY.toArray
 | .dK bE=>bE.length≤sizeLine∧(a == sysModules) = false∧∃ vs,KV bE vs∧h.DictOf (lh P w) a vs
 | .dT bE=>bE.length≤sizeLine∧(a == sysModules) = false∧∃ xs:List (List Key×Addr×Value),
   Paired (fun (p:List Key×V) (q:List Key×Addr×Value)=>p.1 = q.1∧H q.2.1 = some (.tup (p.1.map kV))∧RelV p.2 q.2.2) bE xs∧
   ∃ o es ep,h.get? a = some o∧o.ExactDict∧o.data = .dict es ep∧es.toList = xs.map (entryOfKey (tupleKind (lh P w)))∧(xs.map (·.1)).Nodup
 | .set S n=>h.SetOf (intKind P w) a S n
 | .ins C dx fs=>H dx = some (.own a)∧fs.length≤1000∧dx≠a∧h.get? a = some (PySem.W.instObj C dx)∧
   ∃ mA,h.Ns1 dx mA∧(∀ f,xP (fs.lookup f) (mA f))∧PySem.Within mA (fs.map (·.1))
 | .own _=>∃ o,h.get? a = some o
 | .xd fs=>∃ mA,h.Ns1 a mA∧∀ f,xP (fs.lookup f) (mA f)
 | .AE lo hi=>∃ t u v,h.get? a = some { cls:=.type "range",data:=.fields #[.int lo t,.int hi u,.int 1 v] }
 | .lN o u=>h.get? a = some o∧bW H h a u
 | .uM ps=>h.get? a = some { cls:=.none,data:=.fields ps }
 | .met f x=>h.get? a = some (PySem.W.methodObj (.ref f) (.ref x))
 | .ext φ=>φ h∧(∃ o,h.get? a = some o)∧∀ h1 h2:Heap,φ h1→(∀ o,h1.get? a = some o→h2.get? a = some o)→φ h2
def fT (H:Hp) (h:Heap):Prop:=∀ a o,H a = some o→bW P w H h a o
end
section
variable {P:Program} {w:World} {H H':Hp} {h h':Heap} {a:Addr} {o:HO}
theorem bW.lt (x:bW P w H h a o):a < h.objs.size:=by
 cases o with
 | lst xs=>obtain ⟨_,_,_,_,e⟩:=x; exact Heap.lt_size e
 | tup xs=>obtain ⟨_,_,_,p⟩:=x; exact p.lt
 | dK bE=>obtain ⟨_,_,_,_,o,_,_,e,_⟩:=x; exact Heap.lt_size e
 | dT bE=>obtain ⟨_,_,_,_,o,_,_,e,_⟩:=x; exact Heap.lt_size e
 | set S n=>obtain ⟨o,_,_,_,e,_⟩:=x; exact Heap.lt_size e
 | ins C dx fs=>obtain ⟨_,_,_,e,_⟩:=x; exact Heap.lt_size e
 | own y=>obtain ⟨_,e⟩:=x; exact Heap.lt_size e
 | xd fs=>obtain ⟨_,⟨_,_,_,e,_⟩,_⟩:=x; exact Heap.lt_size e
 | AE lo hi=>obtain ⟨_,_,_,e⟩:=x; exact Heap.lt_size e
 | lN ob u=>obtain ⟨e,_⟩:=x; exact Heap.lt_size e
 | uM ps=>exact Heap.lt_size (show h.get? a = some _ from x)
 | met f y=>exact Heap.lt_size (show h.get? a = some _ from x)
 | ext φ=>obtain ⟨_,⟨_,e⟩,_⟩:=x; exact Heap.lt_size e
theorem Paired.tX {α β : Type} {F G : α→β→Prop}:∀ {l₁ : List α} {l₂ : List β},Paired F l₁ l₂→(∀ a b,F a b→G a b)→Paired G l₁ l₂
 | _,_,.nil,_=>.nil
 | _,_,.cons r t,f=>.cons (f _ _ r) (Paired.tX t f)
theorem bW.iw (x:bW P w H h a o) (k:∀ b u,(b = a∨H b = some (.own a))→h.get? b = some u→h'.get? b = some u)
  (ho:∀ b,H b = some (.own a)→H' b = some (.own a)) (ht:∀ b xs,H b = some (.tup xs)→H' b = some (.tup xs)):bW P w H' h' a o:=by
 induction o with
 | lst xs=>obtain ⟨z,aY,n,r,e⟩:=x; exact ⟨z,aY,n,r,k _ _ (.inl rfl) e⟩
 | tup xs=>obtain ⟨z,aY,r,ob,e,c⟩:=x; exact ⟨z,aY,r,ob,k _ _ (.inl rfl) e,c⟩
 | dK bE=>obtain ⟨z,y,vs,r,ob,es,ep,e,c⟩:=x; exact ⟨z,y,vs,r,ob,es,ep,k _ _ (.inl rfl) e,c⟩
 | dT bE=>
  obtain ⟨z,y,xs,r,ob,es,ep,e,c⟩:=x
  exact ⟨z,y,xs,Paired.tX r fun p q z=>⟨z.1,ht _ _ z.2.1,z.2.2⟩,ob,es,ep,k _ _ (.inl rfl) e,c⟩
 | set S n=>obtain ⟨ob,es,ep,t,e,c⟩:=x; exact ⟨ob,es,ep,t,k _ _ (.inl rfl) e,c⟩
 | ins C dx fs=>
  obtain ⟨d,z,ne,e,mA,⟨od,es,ep,e2,c⟩,r⟩:=x
  exact ⟨ho _ d,z,ne,k _ _ (.inl rfl) e,mA,⟨od,es,ep,k _ _ (.inr d) e2,c⟩,r⟩
 | own y=>obtain ⟨ob,e⟩:=x; exact ⟨ob,k _ _ (.inl rfl) e⟩
 | xd fs=>obtain ⟨mA,⟨od,es,ep,e,c⟩,r⟩:=x; exact ⟨mA,⟨od,es,ep,k _ _ (.inl rfl) e,c⟩,r⟩
 | AE lo hi=>obtain ⟨t,u,v,e⟩:=x; exact ⟨t,u,v,k _ _ (.inl rfl) e⟩
 | lN ob u ih=>obtain ⟨e,q⟩:=x; exact ⟨k _ _ (.inl rfl) e,ih q⟩
 | uM ps=>
  have e:h.get? a = some { cls:=.none,data:=.fields ps }:=x
  show h'.get? a = some { cls:=.none,data:=.fields ps }
  exact k a _ (.inl rfl) e
 | met f y=>
  have e:h.get? a = some (PySem.W.methodObj (.ref f) (.ref y)):=x
  show h'.get? a = some (PySem.W.methodObj (.ref f) (.ref y))
  exact k a _ (.inl rfl) e
 | ext φ=>obtain ⟨p,⟨o,e⟩,st⟩:=x; exact ⟨st _ _ p fun o q=>k _ _ (.inl rfl) q,⟨o,k _ _ (.inl rfl) e⟩,st⟩
theorem fT.lt (x:fT P w H h) (e:H a = some o):a < h.objs.size:=(x a o e).lt
theorem fT.fresh (x:fT P w H h) (e:h.objs.size≤a):H a = none:=by
 cases q:H a with
 | none=>rfl
 | some u=>exact absurd (Nat.lt_of_lt_of_le (x.lt q) e) (Nat.lt_irrefl _)
theorem fT.kept (x:fT P w H h) (k:∀ b u,h.get? b = some u→h'.get? b = some u):fT P w H h':=fun a o e=>
 (x a o e).iw (fun b u _ q=>k b u q) (fun _ q=>q) fun _ _ q=>q
theorem fT.laid (x:fT P w H h) (k:∀ b u,h.get? b = some u→h'.get? b = some u) (hp:h.objs.size≤a) (new:bW P w (upd H a o) h' a o):fT P w (upd H a o) h':=fun b u e=>by
 have hn:=x.fresh hp
 by_cases hb:b = a
 ·subst hb; rw [ah] at e; cases e; exact new
 ·rw [av hb] at e
  exact (x b u e).iw (fun c v _ q=>k c v q) (fun c q=>by rw [av (aG q hn)]; exact q) fun c xs q=>by rw [av (aG q hn)]; exact q
end
def Rd (H:Hp) (a:Addr) (u:HO):Prop:=H a = some u∨∃ o,H a = some (.lN o u)
theorem Rd.ok {P:Program} {w:World} {H:Hp} {h:Heap} {a:Addr} {u:HO} (r:Rd H a u) (x:fT P w H h):bW P w H h a u:=by
 rcases r with r | ⟨o,r⟩
 ·exact x a u r
 ·obtain ⟨_,q⟩:=x a _ r
  exact q
def Br:Option HO→Prop
 | some (.lst _)=>True
 | some (.dK _)=>True
 | some (.dT _)=>True
 | some (.set _ _)=>True
 | some (.ins _ _ _)=>True
 | some (.ext _)=>True
 | _=>False
section
variable {P:Program} {w:World} {H:Hp} {h h':Heap} {x e:Addr} {o':HO}
theorem fT.write (ok:fT P w H h) (mu:Br (H x)) (he:e = x∨H e = some (.own x)) (k:∀ b u,b≠e→h.get? b = some u→h'.get? b = some u) (x9:∃ u,h'.get? e = some u)
  (new:bW P w (upd H x o') h' x o'):fT P w (upd H x o') h':=fun b u q=>by
 have yU:∀ c y,H c = some (.own y)→c≠x:=fun c y r z=>by subst z; rw [r] at mu; exact mu
 have Dv:∀ c xs,H c = some (.tup xs)→c≠x:=fun c xs r z=>by subst z; rw [r] at mu; exact mu
 by_cases hb:b = x
 ·subst hb; rw [ah] at q; cases q; exact new
 ·rw [av hb] at q
  by_cases xn:b = e
  ·have q':H b = some (.own x):=by
    rcases he with z | z
    ·exact absurd (xn.trans z) hb
    ·rw [xn]; exact z
   rw [q] at q'; cases q'
   obtain ⟨v,hv⟩:=x9
   exact ⟨v,by rw [xn]; exact hv⟩
  ·refine (ok b u q).iw (fun c v hc r=>k c v ?_ r) (fun c r=>by rw [av (yU c b r)]; exact r) fun c xs r=>by rw [av (Dv c xs r)]; exact r
   rcases hc with rfl | hc
   ·exact xn
   ·rintro rfl
    rcases he with z | z
    ·exact yU c b hc z
    ·rw [hc] at z; cases z; exact hb rfl
end
structure Un (fs ex:List Addr) (H H':Hp) (h h':Heap):Prop where
 keep:∀ b o,h.get? b = some o→H b = none→b∉fs→b∉ex→h'.get? b = some o
 slot:∀ b o,h.get? b = some o→H b = none→b∈fs→b∉ex→∃ sl,h'.get? b = some { o with slots:=sl }
 free:∀ b o,h.get? b = some o→H b = none→b∉ex→H' b = none
 there:∀ b o,h.get? b = some o→b∉ex→∃ o',h'.get? b = some o'
 iT:∀ b xs,H b = some (.tup xs)→H' b = some (.tup xs)
 iE:∀ b o u,H b = some (.lN o u)→H' b = some (.lN o u)
 iU:∀ b ps,H b = some (.uM ps)→∃ more,H' b = some (.uM (ps ++ more))
section
variable {fs pD ex N9:List Addr} {H H1 H2:Hp} {h h1 h2 h':Heap} {a x e:Addr} {o:HO}
theorem Un.any (u:Un fs ex H H1 h h1) {b:Addr} {ob:Obj} (q:h.get? b = some ob) (n:H b = none) (hx:b∉ex):∃ sl,h1.get? b = some { ob with slots:=sl }:=by
 by_cases hb:b∈fs
 ·exact u.slot b ob q n hb hx
 ·exact ⟨ob.slots,u.keep b ob q n hb hx⟩
theorem Un.kept (k:∀ b u,h.get? b = some u→h'.get? b = some u):Un fs ex H H h h':=
 ⟨fun b ob q _ _ _=>k b ob q,fun b ob q _ _ _=>⟨ob.slots,k b ob q⟩,fun _ _ _ n _=>n,fun b ob q _=>⟨ob,k b ob q⟩,fun _ _ q=>q,fun _ _ _ q=>q,fun _ ps q=>⟨#[],by rw [q]; simp⟩⟩
theorem Un.refl:Un fs ex H H h h:=Un.kept fun _ _ q=>q
theorem Un.laid (k:∀ b u,h.get? b = some u→h'.get? b = some u) (hp:h.objs.size≤a) (hn:H a = none):Un fs ex H (upd H a o) h h' where
 keep:=fun b u q _ _ _=>k b u q
 slot:=fun b u q _ _ _=>⟨u.slots,k b u q⟩
 free:=fun b u q n _=>by rw [av (Nat.ne_of_lt (Nat.lt_of_lt_of_le (Heap.lt_size q) hp))]; exact n
 there:=fun b u q _=>⟨u,k b u q⟩
 iT:=fun b xs q=>by rw [av (aG q hn)]; exact q
 iE:=fun b u xs q=>by rw [av (aG q hn)]; exact q
 iU:=fun b ps q=>⟨#[],by rw [av (aG q hn),q]; simp⟩
theorem Un.write (mu:Br (H x)) (he:e = x∨H e = some (.own x)) (k:∀ b u,b≠e→h.get? b = some u→h'.get? b = some u) (x9:∃ u,h'.get? e = some u):Un fs ex H (upd H x o) h h':=by
 have hx:∀ b,H b = none→b≠x:=fun b n z=>by subst z; rw [n] at mu; exact mu
 have hb:∀ b,H b = none→b≠e:=fun b n z=>by
  subst z
  rcases he with r | r
  ·exact hx b n r
  ·rw [n] at r; cases r
 have hm:∀ b u,H b = some u→¬ Br (some u)→b≠x:=fun b u q nm z=>by subst z; rw [q] at mu; exact nm mu
 refine ⟨fun b u q n _ _=>k b u (hb b n) q,fun b u q n _ _=>⟨u.slots,k b u (hb b n) q⟩,fun b u q n _=>by rw [av (hx b n)]; exact n,fun b u q _=>?_,
  fun b xs q=>by rw [av (hm b _ q fun z=>z)]; exact q,fun b u xs q=>by rw [av (hm b _ q fun z=>z)]; exact q,fun b ps q=>⟨#[],by rw [av (hm b _ q fun z=>z),q]; simp⟩⟩
 by_cases xn:b = e
 ·subst xn; exact x9
 ·exact ⟨u,k b u xn q⟩
end
def Aw (h:Heap) (H:Hp):List Addr:=(List.range h.objs.size).filter fun a=>(H a).isSome
def lr (h:Heap) (H:Hp):Heap:=PySem.W.hideAll h (Aw h H)
theorem pA (h:Heap) (H:Hp):(lr h H).objs.size = h.objs.size:=PySem.W.hideAll_size _ _
theorem rT {h:Heap} {H:Hp} {b:Addr} {o:Obj} (e:h.get? b = some o) (n:H b = none):(lr h H).get? b = some o:=
 PySem.W.hideAll_get _ e fun hm=>by
  have q:(H b).isSome = true:=(List.mem_filter.mp hm).2
  rw [n] at q; simp at q
theorem tU {h:Heap} {H:Hp} {b:Addr} {o:Obj} (e:(lr h H).get? b = some o):h.get? b = some o∧H b = none:=by
 have e':h.get? b = some o:=PySem.W.of_hideAll (Aw h H) e
 refine ⟨e',?_⟩
 cases q:H b with
 | none=>rfl
 | some x=>
  have hm:b∈Aw h H:=List.mem_filter.mpr ⟨List.mem_range.mpr (Heap.lt_size e'),by simp [q]⟩
  have z:(lr h H).get? b = none:=PySem.W.hideAll_none (Aw h H) hm
  rw [z] at e; cases e
def uF (g h:Heap) (L:Addr):List (Addr×Obj):=(List.range h.objs.size).filterMap fun a=>if a = L∨(g.get? a).isSome = true then none else (h.get? a).map fun o=>(a,o)
def rest (g h:Heap) (L d:Addr):List (Addr×Obj):=(uF g h L).filter fun p=>decide (p.1≠d)
end L2
namespace L2
open PySem PySem.Spec PyProof.Rows
structure Mod (K:PySem.W.Frag) (mg:Str→Option Value) (base:Heap):Prop where
 yX:K.In base
 glob:base.Ns mainGlobals mg
 blt:∃ mb,base.Ns builtinsNs mb∧∀ x:Str,x≠ "__name__"→mb x = bootBuiltins x
 nolimit:base.NoLimit
structure Cx where
 prog:Program
 w:World
 K:PySem.W.Frag
 mg:Str→Option Value
 base:Heap
 A:Around
 N:List Str
 s₀ : Shared
 H₀ : Hp
 env:Env
 outer:List Env
 stack:List Env
 ex:List Addr
 fn:Str→Bool
 calm:Bool
 pn:List (Addr×Obj)
 xe:Value→Shared→Prop
def eC (l:List Env):List Addr:=l.filterMap (·.frame)
abbrev Cx.fs (X:Cx):List Addr:=eC X.outer
def Aj (sc:Scope) (x:Str):Prop:=sc.names.lookup x = some .local∨sc.names.lookup x = some .cell∨sc.names.lookup x = some .free
def Loc (sc:Scope) (x:Str):Prop:=sc.names.lookup x = some .local∨sc.names.lookup x = some .cell
def Look (env:Env) (h:Heap) (m:Str→Option Value) (x:Str) (u:Value):Prop:=
 (env.kindOf x = some .local∧m x = some u)∨((env.kindOf x = some .cell∨env.kindOf x = some .free)∧∃ c,env.cells.lookup x = some c∧h.IsCell c (some u))
structure Cx.Ok (X:Cx):Prop where
 mod:Mod X.K X.mg X.base
 kind:X.env.scope.kind = .function
 glob:X.env.globals = mainGlobals
 blt:X.env.builtins = builtinsNs
 above:X.s₀.heap.objs.size≤X.env.locals
 inj:∀ x y c,X.env.cells.lookup x = some c→X.env.cells.lookup y = some c→x = y
 has:∀ x,(X.env.kindOf x = some .cell∨X.env.kindOf x = some .free)→∃ c,X.env.cells.lookup x = some c
 yh:∀ x c,X.fn x = true→X.env.cells.lookup x = some c→X.s₀.heap.objs.size≤c
 hd:X.calm = true→X.A.handled = none
 frames:X.A.frames = some X.stack
 lT:X.stack = X.outer∨(X.stack = X.env :: X.outer∧X.env.frame = some X.env.locals)
 EW:∀ b∈X.ex,b≠X.env.locals∧∀ x c,X.env.cells.lookup x = some c→c≠b
 bs:∀ b o,X.base.get? b = some o→X.s₀.heap.get? b = some o∧X.H₀ b = none
 uD:X.base.objs.size≤X.s₀.heap.objs.size
 nC:∀ b o,X.base.get? b = some o→b∉X.ex
 r0:∀ b∈X.ex,b∉X.fs
 hV:X.s₀.heap.FunFrames X.base X.outer
 xy:∀ b∈X.fs,X.H₀ b = none
structure Inv (X:Cx) (pins:List (Addr×Obj)) (σ : List (Option V)) (H:Hp) (s:Shared):Prop where
 ok:X.Ok
 os:s.os = X.s₀.os
 bare:AllBare s.gens
 base:Un X.fs X.ex X.H₀ H X.s₀.heap s.heap
 loc:∃ m,s.heap.Ns X.env.locals m∧∀ (i:Nat) (x:Str) (v:V),X.N[i]? = some x→σ[i]? = some (some v)→Aj X.env.scope x→∃ u,RelV v u∧Look X.env s.heap m x u
 cell:∀ x c,X.env.cells.lookup x = some c→∃ v,s.heap.IsCell c v
 free:H X.env.locals = none
 dk:∀ x c,X.env.cells.lookup x = some c→H c = none
 pin:∀ p∈X.pn ++ pins,s.heap.get? p.1 = some p.2∧H p.1 = none∧p.1≠X.env.locals∧p.1∉X.fs∧∀ v,p.2.data≠.cell v
 bJ:fT X.prog X.w H s.heap
 len : σ.length = X.N.length
section
variable {X:Cx} {pins:List (Addr×Obj)} {σ : List (Option V)} {H H':Hp} {s:Shared} {h':Heap}
theorem Cx.Ok.Dy (ok:X.Ok) {b:Addr} {o:Obj} (e:X.base.get? b = some o):b∉X.fs:=fun hb=>by
 have:=(ok.hV.mem hb).1
 rw [e] at this; cases this
theorem Inv.bs (I:Inv X pins σ H s):∀ b o,X.base.get? b = some o→s.heap.get? b = some o∧H b = none:=fun b o e=>
 ⟨I.base.keep b o (I.ok.bs b o e).1 (I.ok.bs b o e).2 (I.ok.Dy e) (I.ok.nC b o e),I.base.free b o (I.ok.bs b o e).1 (I.ok.bs b o e).2 (I.ok.nC b o e)⟩
theorem Inv.bk (I:Inv X pins σ H s):∀ b o,X.base.get? b = some o→s.heap.get? b = some o:=fun b o e=>(I.bs b o e).1
theorem Inv.mod (I:Inv X pins σ H s):Mod X.K X.mg X.base:=I.ok.mod
theorem Inv.jO (I:Inv X pins σ H s):X.K.In s.heap:=I.ok.mod.yX.keeps I.bk
theorem Inv.lt (I:Inv X pins σ H s):X.env.locals < s.heap.objs.size:=let ⟨_,hn,_⟩:=I.loc; hn.lt
theorem Inv.sz (I:Inv X pins σ H s):X.s₀.heap.objs.size≤s.heap.objs.size:=Nat.le_trans I.ok.above (Nat.le_of_lt I.lt)
theorem Inv.Dx (I:Inv X pins σ H s) {a:Addr} (h:s.heap.objs.size≤a):a∉X.fs:=fun hb=>by
 obtain ⟨_,o,ho,_⟩:=I.ok.hV.mem hb
 exact absurd (Nat.lt_of_lt_of_le (Heap.lt_size ho) (Nat.le_trans I.sz h)) (Nat.lt_irrefl _)
theorem Inv.uv (I:Inv X pins σ H s):∀ x c,X.env.cells.lookup x = some c→c≠X.env.locals:=fun x c e z=>by
 obtain ⟨v,o,ho,hd⟩:=I.cell x c e
 obtain ⟨m,⟨o',es,ep,pw,LK,_⟩,_⟩:=I.loc
 rw [z,pw] at ho; cases ho; rw [LK] at hd; cases hd
theorem Inv.hV (I:Inv X pins σ H s):s.heap.FunFrames X.base X.outer:=by
 have all:∀ (l:List Env),(∀ b∈eC l,b∈X.fs)→X.s₀.heap.FunFrames X.base l→s.heap.FunFrames X.base l:=by
  intro l
  induction l with
  | nil=>intro _ _; trivial
  | cons env r ih=>
   intro hs hl
   obtain ⟨hk,⟨L,o,hf,hn,ho,hd⟩,hr⟩:=hl
   have hL:L∈X.fs:=hs L (by unfold eC; rw [List.filterMap_cons,hf]; exact List.mem_cons_self)
   obtain ⟨sl,e⟩:=I.base.slot L o ho (I.ok.xy L hL) hL fun z=>I.ok.r0 L z hL
   exact ⟨hk,⟨L,_,hf,hn,e,hd⟩,ih (fun b hb=>hs b (by unfold eC; rw [List.filterMap_cons,hf]; exact List.mem_cons_of_mem _ hb)) hr⟩
 exact all X.outer (fun _ hb=>hb) I.ok.hV
theorem Inv.stack (I:Inv X pins σ H s):s.heap.FunFrames X.base X.stack:=by
 rcases I.ok.lT with e | ⟨e,hf⟩
 ·rw [e]; exact I.hV
 ·rw [e]
  obtain ⟨m,hn,_⟩:=I.loc
  refine .cons (by rw [I.ok.kind]; decide) hf hn ?_ I.hV
  exact Heap.get?_none_of_le (Nat.le_trans I.ok.uD I.ok.above)
theorem Inv.dD (I:Inv X pins σ H s):∀ b∈eC X.stack,b∈X.env.locals :: X.fs:=fun b hb=>by
 rcases I.ok.lT with e | ⟨e,hf⟩
 ·rw [e] at hb; exact List.mem_cons_of_mem _ hb
 ·rw [e] at hb
  unfold eC at hb
  rw [List.filterMap_cons,hf] at hb
  exact hb
theorem Inv.iJ (I:Inv X pins σ H s):∀ b∈eC X.stack,H b = none:=fun b hb=>by
 rcases List.mem_cons.mp (I.dD b hb) with e | hb
 ·rw [e]; exact I.free
 ·obtain ⟨_,o,ho,_⟩:=I.ok.hV.mem hb
  exact I.base.free b o ho (I.ok.xy b hb) fun z=>I.ok.r0 b z hb
theorem Inv.step {g':Array GenState} {t':Nat} {d':Drawn} {ch:List Addr} (I:Inv X pins σ H s)
  (sX:∀ b∈ch,(b∈X.ex∨X.s₀.heap.objs.size≤b)∧b≠X.env.locals∧(∀ x c,X.env.cells.lookup x = some c→c≠b)∧∀ p∈X.pn ++ pins,p.1≠b)
  (keep:∀ b o,b≠X.env.locals→b∉X.fs→b∉ch→s.heap.get? b = some o→H b = none→h'.get? b = some o)
  (slot:∀ b o,b≠X.env.locals→b∈X.fs→b∉ch→s.heap.get? b = some o→H b = none→∃ sl,h'.get? b = some { o with slots:=sl }) (free:∀ b o,b∉ch→s.heap.get? b = some o→H b = none→H' b = none)
  (there:∀ b o,b∉ch→s.heap.get? b = some o→∃ o',h'.get? b = some o')
  (iT:∀ b xs,H b = some (.tup xs)→H' b = some (.tup xs)) (iE:∀ b o u,H b = some (.lN o u)→H' b = some (.lN o u)) (iU:∀ b ps,H b = some (.uM ps)→∃ more,H' b = some (.uM (ps ++ more)))
  (ns:∀ m,s.heap.Ns X.env.locals m→h'.Ns X.env.locals m) (bJ:fT X.prog X.w H' h') (hg:AllBare g') :
  Inv X pins σ H' { s with heap:=h',gens:=g',drawn:=d',toks:=t' }:=by
 have G5:∀ b o,X.s₀.heap.get? b = some o→b≠X.env.locals:=fun b o e=>Nat.ne_of_lt (Nat.lt_of_lt_of_le (Heap.lt_size e) I.ok.above)
 have AN:∀ b o,X.s₀.heap.get? b = some o→b∉X.ex→b∉ch:=fun b o e hx hb=>by
  rcases (sX b hb).1 with z | z
  ·exact hx z
  ·exact absurd (Nat.lt_of_lt_of_le (Heap.lt_size e) z) (Nat.lt_irrefl _)
 have cellK:∀ x c,X.env.cells.lookup x = some c→∀ v,s.heap.IsCell c v→h'.IsCell c v:=fun x c e v ⟨o,ho,hd⟩=>by
  have rG:c∉ch:=fun z=>(sX c z).2.2.1 x c e rfl
  by_cases hc:c∈X.fs
  ·obtain ⟨sl,q⟩:=slot c o (I.uv x c e) hc rG ho (I.dk x c e)
   exact ⟨_,q,hd⟩
  ·exact ⟨o,keep c o (I.uv x c e) hc rG ho (I.dk x c e),hd⟩
 refine ⟨I.ok,I.os,hg,⟨fun b o e n hb hx=>?_,fun b o e n hb hx=>?_,fun b o e n hx=>?_,fun b o e hx=>?_,fun b xs e=>iT b xs (I.base.iT b xs e),fun b o xs e=>iE b o xs (I.base.iE b o xs e),fun b ps e=>?_⟩,?_,fun x c e=>?_,?_,fun x c e=>?_,fun p hp=>?_,bJ,I.len⟩
 ·exact keep b o (G5 b o e) hb (AN b o e hx) (I.base.keep b o e n hb hx) (I.base.free b o e n hx)
 ·obtain ⟨sl,e1⟩:=I.base.slot b o e n hb hx
  obtain ⟨B7,e2⟩:=slot b _ (G5 b o e) hb (AN b o e hx) e1 (I.base.free b o e n hx)
  exact ⟨B7,e2⟩
 ·obtain ⟨o',e1⟩:=I.base.there b o e hx
  exact free b o' (AN b o e hx) e1 (I.base.free b o e n hx)
 ·obtain ⟨o',e1⟩:=I.base.there b o e hx
  exact there b o' (AN b o e hx) e1
 ·obtain ⟨m1,e1⟩:=I.base.iU b ps e
  obtain ⟨m2,e2⟩:=iU b _ e1
  exact ⟨m1 ++ m2,by rw [e2,Array.append_assoc]⟩
 ·obtain ⟨m,hn,hl⟩:=I.loc
  refine ⟨m,ns m hn,fun i x v e1 e2 e3=>?_⟩
  obtain ⟨u,r,l⟩:=hl i x v e1 e2 e3
  refine ⟨u,r,?_⟩
  rcases l with l | ⟨k,c,e,z⟩
  ·exact .inl l
  ·exact .inr ⟨k,c,e,cellK x c e _ z⟩
 ·obtain ⟨v,z⟩:=I.cell x c e
  exact ⟨v,cellK x c e v z⟩
 ·obtain ⟨m,⟨o,_,_,ho,_⟩,_⟩:=I.loc
  exact free _ o (fun z=>(sX _ z).2.1 rfl) ho I.free
 ·obtain ⟨v,o,ho,hd⟩:=I.cell x c e
  exact free c o (fun z=>(sX c z).2.2.1 x c e rfl) ho (I.dk x c e)
 ·obtain ⟨e,n,ne,nf,d⟩:=I.pin p hp
  have rG:p.1∉ch:=fun z=>(sX p.1 z).2.2.2 p hp rfl
  exact ⟨keep p.1 p.2 ne nf rG e n,free p.1 p.2 rG e n,ne,nf,d⟩
theorem Inv.un {t':Nat} (I:Inv X pins σ H s) (u:Un X.fs [] H H' s.heap h') (bJ:fT X.prog X.w H' h'):Inv X pins σ H' { s with heap:=h',toks:=t' }:=by
 obtain ⟨m,⟨o,es,ep,ho,r⟩,_⟩:=id I.loc
 obtain ⟨sl,hL⟩:=u.any ho I.free (by simp)
 exact I.step (g':=s.gens) (d':=s.drawn) (ch:=[]) (fun _ z=>nomatch z) (fun b o _ hb _ e n=>u.keep b o e n hb (by simp)) (fun b o _ hb _ e n=>u.slot b o e n hb (by simp)) (fun b o _ e n=>u.free b o e n (by simp)) (fun b o _ e=>u.there b o e (by simp)) u.iT u.iE u.iU (fun m' hm=>by
  obtain ⟨o',EY,EZ,pw,r'⟩:=hm
  rw [ho] at pw; cases pw
  exact ⟨_,EY,EZ,hL,r'⟩) bJ I.bare
theorem Inv.call {g':Array GenState} {t':Nat} {d':Drawn} {ch:List Addr} (I:Inv X pins σ H s) (u:Un (eC X.stack) ch H H' s.heap h') (bJ:fT X.prog X.w H' h') (hg:AllBare g')
  (sX:∀ b∈ch,(b∈X.ex∨X.s₀.heap.objs.size≤b)∧b≠X.env.locals∧(∀ x c,X.env.cells.lookup x = some c→c≠b)∧∀ p∈X.pn ++ pins,p.1≠b) :
  Inv X pins σ H' { s with heap:=h',gens:=g',drawn:=d',toks:=t' }:=by
 obtain ⟨m,⟨o,es,ep,ho,r⟩,_⟩:=id I.loc
 obtain ⟨sl,hL⟩:=u.any ho I.free fun z=>(sX _ z).2.1 rfl
 exact I.step (ch:=ch) sX (fun b o hL hb hc e n=>u.keep b o e n (fun z=>(List.mem_cons.mp (I.dD b z)).elim hL hb) hc) (fun b o _ _ hc e n=>u.any e n hc) (fun b o hc e n=>u.free b o e n hc) (fun b o hc e=>u.there b o e hc) u.iT u.iE u.iU (fun m' hm=>by
  obtain ⟨o',EY,EZ,pw,r'⟩:=hm
  rw [ho] at pw; cases pw
  exact ⟨_,EY,EZ,hL,r'⟩) bJ hg
theorem Inv.turned {t':Nat} {it:Addr} (I:Inv X pins σ H s) (k:∀ b o,b≠it→s.heap.get? b = some o→h'.get? b = some o) (hn:H it = none) (hL:it≠X.env.locals)
  (h1:it∈X.ex∨X.s₀.heap.objs.size≤it) (h2:∀ x c,X.env.cells.lookup x = some c→c≠it) (h3:∀ p∈X.pn ++ pins,p.1≠it):Inv X pins σ H { s with heap:=h',toks:=t' }:=by
 have G1:∀ b u,H b = some u→b≠it:=fun b u e z=>by rw [z,hn] at e; cases e
 refine I.step (g':=s.gens) (d':=s.drawn) (ch:=[it]) (fun b hb=>?_) (fun b o _ _ hc e _=>k b o (fun z=>hc (by simp [z])) e) (fun b o _ _ hc e _=>⟨o.slots,k b o (fun z=>hc (by simp [z])) e⟩) (fun _ _ _ _ n=>n)
  (fun b o hc e=>⟨o,k b o (fun z=>hc (by simp [z])) e⟩) (fun _ _ e=>e) (fun _ _ _ e=>e) (fun b ps e=>⟨#[],by rw [e]; simp⟩) (fun m hm=>?_) (fun b u e=>?_) I.bare
 ·have e:b = it:=by simpa using hb
  subst e
  exact ⟨h1,hL,h2,h3⟩
 ·obtain ⟨o,es,ep,ho,r⟩:=hm
  exact ⟨o,es,ep,k _ o (Ne.symm hL) ho,r⟩
 ·refine (I.bJ b u e).iw (fun c v hc q=>k c v ?_ q) (fun _ q=>q) fun _ _ q=>q
  rcases hc with z | z
  ·rw [z]; exact G1 b u e
  ·exact G1 c _ z
theorem Inv.tok (I:Inv X pins σ H s) (t:Nat):Inv X pins σ H { s with toks:=t }:=I.un (h':=s.heap) (t':=t) Un.refl I.bJ
theorem Inv.kept {t':Nat} (I:Inv X pins σ H s) (k:∀ b u,s.heap.get? b = some u→h'.get? b = some u):Inv X pins σ H { s with heap:=h',toks:=t' }:=I.un (Un.kept k) (I.bJ.kept k)
theorem Inv.laid {a:Addr} {o:HO} {t':Nat} (I:Inv X pins σ H s) (k:∀ b u,s.heap.get? b = some u→h'.get? b = some u) (hp:s.heap.objs.size≤a) (new:bW X.prog X.w (upd H a o) h' a o) :
  Inv X pins σ (upd H a o) { s with heap:=h',toks:=t' }:=I.un (Un.laid k hp (I.bJ.fresh hp)) (I.bJ.laid k hp new)
theorem Inv.write {x e:Addr} {o:HO} {t':Nat} (I:Inv X pins σ H s) (mu:Br (H x)) (he:e = x∨H e = some (.own x)) (k:∀ b u,b≠e→s.heap.get? b = some u→h'.get? b = some u) (x9:∃ u,h'.get? e = some u)
  (new:bW X.prog X.w (upd H x o) h' x o):Inv X pins σ (upd H x o) { s with heap:=h',toks:=t' }:=I.un (Un.write mu he k x9) (I.bJ.write mu he k x9 new)
theorem Inv.iL {u7:List (Addr×Obj)} (I:Inv X pins σ H s) (h:∀ p∈u7,s.heap.get? p.1 = some p.2∧H p.1 = none∧p.1≠X.env.locals∧p.1∉X.fs∧∀ v,p.2.data≠.cell v):Inv X u7 σ H s:=
 ⟨I.ok,I.os,I.bare,I.base,I.loc,I.cell,I.free,I.dk,fun p hp=>(List.mem_append.mp hp).elim (fun z=>I.pin p (List.mem_append_left _ z)) (h p),I.bJ,I.len⟩
theorem jd {N:List Str} (hN:N.Nodup) {i j:Nat} {x:Str} (a:N[i]? = some x) (b:N[j]? = some x):i = j:=by
 obtain ⟨h1,e1⟩:=List.getElem?_eq_some_iff.mp a
 obtain ⟨h2,e2⟩:=List.getElem?_eq_some_iff.mp b
 exact (List.getElem_inj hN).mp (e1.trans e2.symm)
theorem j3 {M:Model} {A:Around} {E:Value→Shared→Prop} {i:Nat} {x:Str} {v:V} {u:Value} {Q:Unit→Shared→Prop} (I:Inv X pins σ H s) (hN:X.N.Nodup) (hi:X.N[i]? = some x) (hx:Loc X.env.scope x) (r:RelV v u)
  (h:∀ s',Inv X pins (σ.set i (some v)) H s'→(∃ a,Heap.SameBut a s.heap s'.heap∧(a = X.env.locals∨X.env.cells.lookup x = some a))→Q () s') (hf:X.fn x = true∨X.env.scope.names.lookup x = some .local:=by first | exact .inl rfl | exact .inr rfl | assumption):wpAny M A (storeName X.env x u) Q E s:=by
 obtain ⟨m,hn,hl⟩:=id I.loc
 have xk:(X.env.scope.kind == .class || (X.env.scope.kind == .module && X.env.locals != X.env.globals)) = false:=by rw [I.ok.kind]; rfl
 have hiσ : i < σ.length:=by rw [I.len]; exact (List.getElem?_eq_some_iff.mp hi).1
 have uv:=I.uv
 have tracked:∀ {a:Addr} {h':Heap},(∃ o,s.heap.get? a = some o∧H a = none)→Heap.SameBut a s.heap h'→fT X.prog X.w H h':=fun {a h'} ha hs b ob e=>by
  obtain ⟨_,_,j9⟩:=ha
  refine (I.bJ b ob e).iw (fun c w' hc q=>(hs.2 c ?_).trans q) (fun _ q=>q) fun _ _ q=>q
  rintro rfl
  rcases hc with rfl | hc
  ·rw [j9] at e; cases e
  ·rw [j9] at hc; cases hc
 rcases hx with hk | hk
 ·refine wpAny_storeName_local hk hn (fun h' Ek hs=>?_) xk
  obtain ⟨oL,_,_,Ht,_⟩:=id hn
  refine h _ ⟨I.ok,I.os,I.bare,⟨fun b o e n hb hx=>?_,fun b o e n hb hx=>?_,I.base.free,fun b o e hx=>?_,I.base.iT,I.base.iE,I.base.iU⟩,⟨_,Ek,fun j y v' e1 e2 e3=>?_⟩,fun y c e=>?_,I.free,I.dk,fun p hp=>?_,tracked ⟨oL,Ht,I.free⟩ hs,by simpa using I.len⟩ ⟨_,hs,.inl rfl⟩
  ·exact (hs.2 b (Nat.ne_of_lt (Nat.lt_of_lt_of_le (Heap.lt_size e) I.ok.above))).trans (I.base.keep b o e n hb hx)
  ·obtain ⟨sl,e1⟩:=I.base.slot b o e n hb hx
   exact ⟨sl,(hs.2 b (Nat.ne_of_lt (Nat.lt_of_lt_of_le (Heap.lt_size e) I.ok.above))).trans e1⟩
  ·obtain ⟨o',e1⟩:=I.base.there b o e hx
   exact ⟨o',(hs.2 b (Nat.ne_of_lt (Nat.lt_of_lt_of_le (Heap.lt_size e) I.ok.above))).trans e1⟩
  ·by_cases hj:j = i
   ·subst hj
    rw [hi] at e1; cases e1
    rw [List.getElem?_set_self hiσ] at e2
    cases e2
    exact ⟨u,r,.inl ⟨hk,by simp⟩⟩
   ·rw [List.getElem?_set_ne (Ne.symm hj)] at e2
    obtain ⟨u',r',q⟩:=hl j y v' e1 e2 e3
    refine ⟨u',r',?_⟩
    rcases q with ⟨k,e⟩ | ⟨k,c,e,z⟩
    ·refine .inl ⟨k,?_⟩
     have:y≠x:=fun e=>hj (jd hN e1 (e▸hi))
     simp [this,e]
    ·exact .inr ⟨k,c,e,z.sameBut hs (uv y c e)⟩
  ·obtain ⟨w',z⟩:=I.cell y c e
   exact ⟨w',z.sameBut hs (uv y c e)⟩
  ·obtain ⟨e,n,ne,nf,d⟩:=I.pin p hp
   exact ⟨(hs.2 p.1 ne).trans e,n,ne,nf,d⟩
 ·have EA:X.fn x = true:=by
   rcases hf with z | z
   ·exact z
   ·rw [z] at hk; cases hk
  obtain ⟨c,hc⟩:=I.ok.has x (.inl hk)
  obtain ⟨w',z⟩:=I.cell x c hc
  refine wpAny_storeName_cell I.ok.kind hk hc z (fun h' yd hs=>?_)
  obtain ⟨oc,Hs,Ei⟩:=id z
  refine h { s with heap:=h' } ⟨I.ok,I.os,I.bare,⟨fun b o e n hb hx=>?_,fun b o e n hb hx=>?_,I.base.free,fun b o e hx=>?_,I.base.iT,I.base.iE,I.base.iU⟩,⟨m,hn.sameBut hs (Ne.symm (uv x c hc)),fun j y v' e1 e2 e3=>?_⟩,fun y c' e=>?_,I.free,I.dk,fun p hp=>?_,tracked ⟨oc,Hs,I.dk x c hc⟩ hs,by simpa using I.len⟩ ⟨c,hs,.inr hc⟩
  ·exact (hs.2 b (Nat.ne_of_lt (Nat.lt_of_lt_of_le (Heap.lt_size e) (I.ok.yh x c EA hc)))).trans (I.base.keep b o e n hb hx)
  ·obtain ⟨sl,e1⟩:=I.base.slot b o e n hb hx
   exact ⟨sl,(hs.2 b (Nat.ne_of_lt (Nat.lt_of_lt_of_le (Heap.lt_size e) (I.ok.yh x c EA hc)))).trans e1⟩
  ·obtain ⟨o',e1⟩:=I.base.there b o e hx
   exact ⟨o',(hs.2 b (Nat.ne_of_lt (Nat.lt_of_lt_of_le (Heap.lt_size e) (I.ok.yh x c EA hc)))).trans e1⟩
  ·by_cases hj:j = i
   ·subst hj
    rw [hi] at e1; cases e1
    rw [List.getElem?_set_self hiσ] at e2
    cases e2
    exact ⟨u,r,.inr ⟨.inl hk,c,hc,yd⟩⟩
   ·rw [List.getElem?_set_ne (Ne.symm hj)] at e2
    obtain ⟨u',r',q⟩:=hl j y v' e1 e2 e3
    refine ⟨u',r',?_⟩
    rcases q with q | ⟨k,c',e,z'⟩
    ·exact .inl q
    ·refine .inr ⟨k,c',e,z'.sameBut hs ?_⟩
     rintro rfl
     exact hj (jd hN e1 (I.ok.inj _ _ _ e hc▸hi))
  ·by_cases yc:c' = c
   ·subst yc; exact ⟨_,yd⟩
   ·obtain ⟨w2,z2⟩:=I.cell y c' e
    exact ⟨w2,z2.sameBut hs yc⟩
  ·obtain ⟨e,n,ne,nf,d⟩:=I.pin p hp
   refine ⟨(hs.2 p.1 ?_).trans e,n,ne,nf,d⟩
   intro q
   rw [q,Hs] at e
   have q':oc = p.2:=Option.some.inj e
   exact d w' (by rw [← q']; exact Ei)
theorem d9 {M:Model} {A:Around} {E:Value→Shared→Prop} {i:Nat} {x:Str} {v:V} {u:Value} {Q:Unit→Shared→Prop} (I:Inv X pins σ H s) (hN:X.N.Nodup) (hi:X.N[i]? = some x) (hx:Loc X.env.scope x) (r:RelV v u)
  (h:∀ s',Inv X pins (σ.set i (some v)) H s'→Q () s') (hf:X.fn x = true∨X.env.scope.names.lookup x = some .local:=by first | exact .inl rfl | exact .inr rfl | assumption):wpAny M A (storeName X.env x u) Q E s:=
 j3 I hN hi hx r (fun s' I' _=>h s' I') hf
theorem Inv.sH {s':Shared} {ch:List Addr} (I:Inv X pins σ H s) (ho:s'.os = s.os) (u:Un (eC X.stack) ch H H' s.heap s'.heap) (bJ:fT X.prog X.w H' s'.heap) (hg:AllBare s'.gens)
  (sX:∀ b∈ch,(b∈X.ex∨X.s₀.heap.objs.size≤b)∧b≠X.env.locals∧(∀ x c,X.env.cells.lookup x = some c→c≠b)∧∀ p∈X.pn ++ pins,p.1≠b):Inv X pins σ H' s':=by
 obtain ⟨h',g',d',t',o'⟩:=s'
 have e:o' = s.os:=ho
 subst e
 exact I.call (g':=g') (t':=t') (d':=d') u bJ hg sX
end
abbrev XK:=Value→Option Addr→Hp→Prop
abbrev St:=List (Option V)
abbrev VK:=V→Hp→Prop
abbrev TE:=St→Hp→VK→Prop
abbrev TT:=St→Hp→(Bool→Hp→Prop)→Prop
abbrev TA:=St→Hp→(List V→Hp→Prop)→Prop
structure Ends where
 nx:St→Hp→Prop
 rt:VK
 bk:St→Hp→Prop:=fun _ _=>False
 ct:St→Hp→Prop:=fun _ _=>False
abbrev TS:=Ends→St→Hp→Prop
def EP (X:Cx) (pins:List (Addr×Obj)) (σ : St) (Q:VK) (u:Value) (s':Shared):Prop:=∃ v H',Inv X pins σ H' s'∧RelV v u∧Q v H'
def TP (X:Cx) (pins:List (Addr×Obj)) (σ : St) (Q:Bool→Hp→Prop) (b:Bool) (s':Shared):Prop:=∃ H',Inv X pins σ H' s'∧Q b H'
def AP (X:Cx) (pins:List (Addr×Obj)) (σ : St) (Q:List V→Hp→Prop) (us:List Value) (s':Shared):Prop:=∃ vs H',Inv X pins σ H' s'∧Vals vs us∧Q vs H'
def SP (X:Cx) (pins:List (Addr×Obj)) (D:Ends) (f:Flow) (s':Shared):Prop:=
 match f with
 | .next=>∃ σ' H',Inv X pins σ' H' s'∧D.nx σ' H'
 | .brk=>∃ σ' H',Inv X pins σ' H' s'∧D.bk σ' H'
 | .cont=>∃ σ' H',Inv X pins σ' H' s'∧D.ct σ' H'
 | .ret u=>∃ v σ' H',Inv X pins σ' H' s'∧RelV v u∧D.rt v H'
def PE (X:Cx) (e:Expr) (t:TE):Prop:=
 ∀ (pins:List (Addr×Obj)) (s:Shared) (σ : St) (H:Hp) (Q:VK),Inv X pins σ H s→t σ H Q→wpAny (model X.prog X.w) X.A (eval e X.env) (EP X pins σ Q) X.xe s
def PT (X:Cx) (e:Expr) (t:TT):Prop:=
 ∀ (pins:List (Addr×Obj)) (s:Shared) (σ : St) (H:Hp) (Q:Bool→Hp→Prop),Inv X pins σ H s→t σ H Q→wpAny (model X.prog X.w) X.A (isTrue e X.env (eval e X.env)) (TP X pins σ Q) X.xe s
def PW (X:Cx) (e:Expr) (t:TT):Prop:=
 ∀ (whole:Sem Value) (pins:List (Addr×Obj)) (s:Shared) (σ : St) (H:Hp) (Q:Bool→Hp→Prop),Inv X pins σ H s→t σ H Q→wpAny (model X.prog X.w) X.A (isTrue e X.env whole) (TP X pins σ Q) X.xe s
theorem PW.pt {X:Cx} {e:Expr} {t:TT} (h:PW X e t):PT X e t:=h _
def PA (X:Cx) (es:List Expr) (t:TA):Prop:=
 ∀ (pos:Pos) (pins:List (Addr×Obj)) (s:Shared) (σ : St) (H:Hp) (Q:List V→Hp→Prop),Inv X pins σ H s→t σ H Q→wpAny (model X.prog X.w) X.A (spliced (backTo pos (starEach es X.env))) (AP X pins σ Q) X.xe s
def PS (X:Cx) (st:Stmt) (t:TS):Prop:=
 ∀ (pins:List (Addr×Obj)) (s:Shared) (σ : St) (H:Hp) (D:Ends),Inv X pins σ H s→t D σ H→wpAny (model X.prog X.w) X.A (exec st X.env) (SP X pins D) X.xe s
def lJ (X:Cx) (st:List Stmt) (t:TS):Prop:=
 ∀ (pins:List (Addr×Obj)) (s:Shared) (σ : St) (H:Hp) (D:Ends),Inv X pins σ H s→t D σ H→wpAny (model X.prog X.w) X.A (execs st X.env) (SP X pins D) X.xe s
theorem cT {α : Type} {t:Sem α} {Q Q' : α→Shared→Prop} {M:Model} {A:Around} {E:Value→Shared→Prop} {s:Shared} (h:wpAny M A t Q E s) (hQ:∀ a s,Q a s→Q' a s):wpAny M A t Q' E s:=wpAny_mono h hQ fun _ _ x=>x
end L2
namespace L2
open PySem PySem.Spec PyProof.Rows
section
variable {X:Cx}
theorem bin {a b:Expr} {ta tb:TE} (ha:PE X a ta) (hb:PE X b tb) {pins:List (Addr×Obj)} {s:Shared} {σ : St} {H:Hp} {R:V→V→Hp→Prop} (I:Inv X pins σ H s) (h:ta σ H fun x H1=>tb σ H1 fun y H2=>R x y H2)
  {α : Type} {Q : α→Shared→Prop} {f:Value→Value→Sem α}
  (hf:∀ v u s2 x y H2,Inv X pins σ H2 s2→RelV x v→RelV y u→R x y H2→wpAny (model X.prog X.w) X.A (f v u) Q X.xe s2) :
  wpAny (model X.prog X.w) X.A (eval a X.env) (fun v s₁=>wpAny (model X.prog X.w) X.A (eval b X.env) (fun u s₂=>wpAny (model X.prog X.w) X.A (f v u) Q X.xe s₂) X.xe s₁) X.xe s:=by
 refine cT (ha pins s σ H _ I h) fun v s1 ⟨x,H1,I1,r1,q1⟩=>?_
 refine cT (hb pins s1 σ H1 _ I1 q1) fun u s2 ⟨y,H2,I2,r2,q2⟩=>?_
 exact hf v u s2 x y H2 I2 r1 r2 q2
def iu (i:Nat):TE:=fun σ H Q=>∃ v,σ[i]? = some (some v)∧Q v H
def tC (v:V):TE:=fun _ H Q=>Q v H
theorem wu {i:Nat} {x:Str} {pos:Pos} (hN:X.N[i]? = some x) (hv:Aj X.env.scope x) (hd:(x == ("__debug__" : Str)) = false:=by decide) (ed:(x == ("__classdict__" : Str)) = false:=by decide):PE X (.Name x pos) (iu i):=by
 intro pins s σ H Q I h
 obtain ⟨v,e,h⟩:=h
 obtain ⟨m,hn,hl⟩:=I.loc
 obtain ⟨u,r,l⟩:=hl i x v hN e hv
 have fin:EP X pins σ Q u s:=⟨v,H,I,r,h⟩
 rcases l with ⟨hk,hm⟩ | ⟨hk,c,hc,vq⟩
 ·exact wpAny_Name (wpAny_loadName_local I.ok.kind hk hn hm fin) hd
 ·rcases hk with hk | hk
  ·exact wpAny_Name (wpAny_loadName_cell I.ok.kind hk hc vq fin) hd
  ·exact wpAny_Name (wpAny_loadName_free I.ok.kind hk hc vq fin ed) hd
theorem ae {i j pos}:PE X (.Constant (.int i) j pos) (tC (.int i)):=fun _ _ _ H _ I h=>wpAny_Constant_int ⟨.int i,H,I.tok _,⟨_,rfl⟩,h⟩
theorem ik {b j pos}:PE X (.Constant (.bool b) j pos) (tC (.bl b)):=fun _ _ _ H _ I h=>Constant_bool ⟨.bl b,H,I,rfl,h⟩
theorem wA {j pos}:PE X (.Constant .none j pos) (tC .df):=fun _ _ _ H _ I h=>Constant_none ⟨.df,H,I,rfl,h⟩
theorem wx {x j pos}:PE X (.Constant (.str x) j pos) (tC (.str x)):=fun _ _ _ H _ I h=>Calls.Constant_str ⟨.str x,H,I.tok _,⟨_,rfl⟩,h⟩
def Gl (X:Cx) (x:Str):Prop:=X.env.kindOf x = some .globalImplicit
theorem fe {E:Value→Shared→Prop} {pins:List (Addr×Obj)} {s:Shared} {σ : St} {H:Hp} {x:Str} {u:Value} {pos:Pos} {Q:Value→Shared→Prop} (I:Inv X pins σ H s) (hg:Gl X x) (hm:X.mg x = some u) (h:Q u s)
  (hd:(x == ("__debug__" : Str)) = false:=by decide):wpAny (model X.prog X.w) X.A (eval (.Name x pos) X.env) Q E s:=
 Calls.Name_function_global I.ok.kind hg (Calls.loadGlobal_global (by rw [I.ok.glob]; exact I.mod.glob.keeps I.bk) hm h) hd
theorem eU {E:Value→Shared→Prop} {pins:List (Addr×Obj)} {s:Shared} {σ : St} {H:Hp} {x:Str} {u:Value} {pos:Pos} {Q:Value→Shared→Prop} (I:Inv X pins σ H s) (hg:Gl X x) (hm:X.mg x = none) (hv:bootBuiltins x = some u) (h:Q u s)
  (hn:x≠ "__name__":=by decide) (hd:(x == ("__debug__" : Str)) = false:=by decide):wpAny (model X.prog X.w) X.A (eval (.Name x pos) X.env) Q E s:=by
 obtain ⟨mb,h1,h2⟩:=I.mod.blt
 exact Calls.Name_function_global I.ok.kind hg (Calls.loadGlobal_builtin (by rw [I.ok.glob]; exact I.mod.glob.keeps I.bk) hm (by rw [I.ok.blt]; exact h1.keeps I.bk) ((h2 x hn).trans hv) h) hd
theorem b5 {x:Str} {v:V} {u:Value} {pos:Pos} (hg:Gl X x) (hm:X.mg x = some u) (r:RelV v u) (hd:(x == ("__debug__" : Str)) = false:=by decide):PE X (.Name x pos) (tC v):=
 fun _ _ _ H _ I h=>fe I hg hm ⟨v,H,I,r,h⟩ hd
theorem gf {x:Str} {v:V} {u:Value} {pos:Pos} (hg:Gl X x) (hm:X.mg x = none) (hv:bootBuiltins x = some u) (r:RelV v u) (hn:x≠ "__name__":=by decide) (hd:(x == ("__debug__" : Str)) = false:=by decide):PE X (.Name x pos) (tC v):=
 fun _ _ _ H _ I h=>eU I hg hm hv ⟨v,H,I,r,h⟩ hn hd
def AA (ta tb:TE) (k:Int→Int→Hp→Prop):St→Hp→Prop:=fun σ H=>ta σ H fun x H1=>tb σ H1 fun y H2=>∃ i j,x = .int i∧y = .int j∧k i j H2
def Ja (ta tb:TE):TE:=fun σ H Q=>AA ta tb (fun i j H2=>Q (.int (i + j)) H2) σ H
def IM (ta tb:TE):TE:=fun σ H Q=>AA ta tb (fun i j H2=>Q (.int (i - j)) H2) σ H
def IT (ta tb:TE):TE:=fun σ H Q=>AA ta tb (fun i j H2=>(-(2 ^ 64) < i∧i < 2 ^ 64)∧Q (.int (i * j)) H2) σ H
variable {a b:Expr} {ta tb:TE} {pos:Pos}
def PC (X:Cx) (op:CmpOp) (a b:Expr) (t:TE):Prop:=
 ∀ (pins:List (Addr×Obj)) (s:Shared) (σ : St) (H:Hp) (Q:VK),Inv X pins σ H s→t σ H Q→
  wpAny (model X.prog X.w) X.A (eval a X.env) (fun v s₁=>wpAny (model X.prog X.w) X.A (eval b X.env) (fun u s₂=>wpAny (model X.prog X.w) X.A (compareOp op v u) (EP X pins σ Q) X.xe s₂) X.xe s₁) X.xe s
theorem rF (b:Expr) {op:CmpOp} (h:op≠.In) (h2:op≠.NotIn):behindInMarks op b = false:=by
 have e1:(op == CmpOp.In) = false:=by cases op <;> first | rfl | exact absurd rfl h
 have e2:(op == CmpOp.NotIn) = false:=by cases op <;> first | rfl | exact absurd rfl h2
 cases b <;> simp [behindInMarks,e1,e2]
def o6 (p:Int→Int→Bool) (ta tb:TE):TE:=fun σ H Q=>AA ta tb (fun i j H2=>Q (.bl (p i j)) H2) σ H
abbrev Ny:TE→TE→TE:=o6 fun i j=>decide (i < j)
abbrev Nz:TE→TE→TE:=o6 fun i j=>decide (i≤j)
abbrev NB:TE→TE→TE:=o6 fun i j=>decide (j < i)
abbrev NC:TE→TE→TE:=o6 fun i j=>decide (j≤i)
abbrev IX:TE→TE→TE:=o6 fun i j=>decide (i = j)
abbrev IS:TE→TE→TE:=o6 fun i j=>!decide (i = j)
def IU (ta:TE):TE:=fun σ H Q=>ta σ H fun x H1=>Q (.bl (decide (x = .df))) H1
def Gv (ta:TE):TE:=fun σ H Q=>ta σ H fun x H1=>Q (.bl (!decide (x = .df))) H1
def tB (t:TE):TT:=fun σ H Q=>t σ H fun x H1=>∃ c,x = .bl c∧Q c H1
theorem Ct {op:CmpOp} {t:TE} (h:PC X op a b t) (h1:behindInMarks op b = false:=by first | exact rF _ (by decide) (by decide) | rfl):PT X (.Compare a [op] [b] pos) (tB t):=by
 intro pins s σ H Q I hw
 refine wpAny_isTrue_Compare1 (cT (h pins s σ H _ I hw) fun v s1 h1=>cT h1 fun u s2 h2=>cT h2 fun c s3 ⟨x,H1,I1,r1,q1⟩=>?_) h1
 obtain ⟨d,rfl,q⟩:=q1
 cases r1
 exact wpAny_truthy_bool ⟨H1,I1,q⟩
theorem eQ {e:Expr} {t:TE} (h:PE X e t) (he:∀ whole,isTrue e X.env whole = (do let v ← whole; standAt e.pos; holding [v] (truthy v)):=by intro _; rfl):PT X e (tB t):=by
 intro pins s σ H Q I hw
 refine isTrue_plain (cT (h pins s σ H _ I hw) fun v s1 ⟨x,H1,I1,r1,q1⟩=>?_) (he _)
 obtain ⟨d,rfl,q⟩:=q1
 cases r1
 exact wpAny_truthy_bool ⟨H1,I1,q⟩
variable {tA Az:TT} {rest:List Expr}
def yB (t u:TT):TT:=fun σ H Q=>t σ H fun c H1=>if c = true then u σ H1 Q else Q false H1
def Gu (t u:TT):TT:=fun σ H Q=>t σ H fun c H1=>if c = true then Q true H1 else u σ H1 Q
def yu (t:TT):TT:=fun σ H Q=>t σ H fun c H1=>Q (!c) H1
theorem pw_and1 (ha:PT X a tA):PW X (.BoolOp .And [a] pos) tA:=by
 intro wh pins s σ H Q I h
 refine isTrue_and (cT (ha pins s σ H Q I h) fun c s1 e=>?_)
 cases c with
 | true=>exact isTrue_and_nil e
 | false=>exact e
theorem pw_or1 (ha:PT X a tA):PW X (.BoolOp .Or [a] pos) tA:=by
 intro wh pins s σ H Q I h
 refine isTrue_or (cT (ha pins s σ H Q I h) fun c s1 e=>?_)
 cases c with
 | false=>exact isTrue_or_nil e
 | true=>exact e
theorem pw_and (ha:PT X a tA) (hb:PW X (.BoolOp .And (b :: rest) pos) Az):PW X (.BoolOp .And (a :: b :: rest) pos) (yB tA Az):=by
 intro wh pins s σ H Q I h
 refine isTrue_and (cT (ha pins s σ H _ I h) fun c s1 ⟨H1,I1,q1⟩=>?_)
 cases c with
 | true=>exact hb wh pins s1 σ H1 Q I1 q1
 | false=>exact ⟨H1,I1,q1⟩
theorem pw_or (ha:PT X a tA) (hb:PW X (.BoolOp .Or (b :: rest) pos) Az):PW X (.BoolOp .Or (a :: b :: rest) pos) (Gu tA Az):=by
 intro wh pins s σ H Q I h
 refine isTrue_or (cT (ha pins s σ H _ I h) fun c s1 ⟨H1,I1,q1⟩=>?_)
 cases c with
 | true=>exact ⟨H1,I1,q1⟩
 | false=>exact hb wh pins s1 σ H1 Q I1 q1
theorem gU (ha:PT X a tA):PT X (.UnaryOp .Not a pos) (yu tA):=by
 intro pins s σ H Q I h
 exact isTrue_not (ha pins s σ H (fun c H1=>Q (!c) H1) I h)
def uQ (ta tb:TE):TE:=fun σ H Q=>ta σ H fun x H1=>∃ c,x = .bl c∧if c = true then tb σ H1 Q else Q (.bl false) H1
def IQ (ta tb:TE):TE:=fun σ H Q=>ta σ H fun x H1=>∃ c,x = .bl c∧if c = true then Q (.bl true) H1 else tb σ H1 Q
def uO (ta:TE):TE:=fun σ H Q=>ta σ H fun x H1=>∃ c,x = .bl c∧Q (.bl (!c)) H1
theorem iZ {op} {t:TE} (h:PE X a t):PE X (.BoolOp op [a] pos) t:=fun pins s σ H Q I hw=>BoolOp_one (h pins s σ H Q I hw)
theorem i5 (ha:PE X a ta) (hb:PE X (.BoolOp .And (b :: rest) pos) tb):PE X (.BoolOp .And (a :: b :: rest) pos) (uQ ta tb):=by
 intro pins s σ H Q I h
 refine BoolOp_and (cT (ha pins s σ H _ I h) fun v s1 ⟨x,H1,I1,r1,q1⟩=>?_)
 obtain ⟨c,rfl,q1⟩:=q1
 cases r1
 refine wpAny_truthy_bool ?_
 cases c with
 | true=>exact hb pins s1 σ H1 Q I1 q1
 | false=>exact ⟨.bl false,H1,I1,rfl,q1⟩
theorem wy (ha:PE X a ta):PE X (.UnaryOp .Not a pos) (uO ta):=by
 intro pins s σ H Q I h
 refine UnaryOp_ (cT (ha pins s σ H _ I h) fun v s1 ⟨x,H1,I1,r1,q1⟩=>?_)
 obtain ⟨c,rfl,q1⟩:=q1
 cases r1
 exact not_of (wpAny_truthy_bool ⟨.bl (!c),H1,I1,rfl,q1⟩)
def NA (t:TT) (ta tb:TE):TE:=fun σ H Q=>t σ H fun c H1=>if c = true then ta σ H1 Q else tb σ H1 Q
end
end L2
namespace L2
open PySem PySem.Spec PyProof.Rows
def aB (K:PySem.W.Frag) (H:Hp) (a:Addr) (xs:List V):Prop:=
 Rd H a (.lst xs)∨
  ∃ (o:Obj) (aY:Array Value) (n:Nat),K.lookup a = some o∧o.cls = .type "list"∧o.dict = none∧o.data = .seq aY n∧aY.size≤sizeLine∧Vals xs aY.toList
def SqT (K:PySem.W.Frag) (H:Hp) (a:Addr) (xs:List V):Prop:=
 Rd H a (.tup xs)∨
  ∃ (o:Obj) (aY:Array Value) (n:Nat),K.lookup a = some o∧o.cls = .type "tuple"∧o.data = .seq aY n∧aY.size≤sizeLine∧Vals xs aY.toList
def F2:Value→Option V
 | .none=>some .df
 | .bool b=>some (.bl b)
 | .int i _=>some (.int i)
 | .str x _=>some (.str x)
 | .bytes b _=>some (.nT b)
 | .float b _=>some (.nP b)
 | .ref a=>some (.ref a)
 | .type n=>some (.ty n)
 | _=>none
theorem RelV.abs {x:V} {u:Value} (r:RelV x u):F2 u = some x:=by
 cases x with
 | df=>cases r; rfl
 | bl _=>cases r; rfl
 | int _=>obtain ⟨t,rfl⟩:=r; rfl
 | str _=>obtain ⟨t,rfl⟩:=r; rfl
 | nT _=>obtain ⟨t,rfl⟩:=r; rfl
 | nP _=>obtain ⟨t,rfl⟩:=r; rfl
 | ref _=>cases r; rfl
 | ty _=>cases r; rfl
theorem RelV.inj {x y:V} {u:Value} (r:RelV x u) (q:RelV y u):x = y:=Option.some.inj (r.abs.symm.trans q.abs)
theorem Vals.inj:∀ {xs ys:List V} {us:List Value},Vals xs us→Vals ys us→xs = ys
 | _,_,_,.nil,.nil=>rfl
 | _,_,_,.cons r t,.cons r' t'=>by rw [r.inj r',Vals.inj t t']
section
variable {X:Cx} {pins:List (Addr×Obj)} {σ : St} {H:Hp} {s:Shared} {a:Addr} {xs ys:List V}
theorem aB.of {K:PySem.W.Frag} (h:H a = some (.lst xs)):aB K H a xs:=.inl (.inl h)
theorem SqT.of {K:PySem.W.Frag} (h:H a = some (.tup xs)):SqT K H a xs:=.inl (.inl h)
theorem Inv.list (I:Inv X pins σ H s) (h:aB X.K H a xs):∃ aY:List Value,Vals xs aY∧PlainL s.heap a aY.toArray∧xs.length≤sizeLine:=by
 rcases h with h | ⟨o,aY,n,hk,hc,hd,hs,hz,r⟩
 ·obtain ⟨z,aY,n,r,e⟩:=h.ok I.bJ
  exact ⟨aY,r,⟨_,n,e,rfl,rfl,rfl⟩,z⟩
 ·refine ⟨aY.toList,r,⟨o,n,I.jO a o hk,hc,hd,by simpa using hs⟩,?_⟩
  have e:=r.length
  simp only [Array.length_toList] at e
  omega
theorem Inv.tuple (I:Inv X pins σ H s) (h:SqT X.K H a xs):∃ aY:List Value,Vals xs aY∧IsTup s.heap a aY.toArray∧xs.length≤sizeLine:=by
 rcases h with h | ⟨o,aY,n,hk,hc,hs,hz,r⟩
 ·obtain ⟨z,aY,r,p⟩:=h.ok I.bJ
  exact ⟨aY,r,p,z⟩
 ·refine ⟨aY.toList,r,⟨o,I.jO a o hk,hc,n,by simpa using hs⟩,?_⟩
  have e:=r.length
  simp only [Array.length_toList] at e
  omega
theorem Inv.gn (I:Inv X pins σ H s) (h:aB X.K H a xs) (h':aB X.K H a ys):xs = ys:=by
 obtain ⟨aY,r,⟨o,n,e,_,_,d⟩,_⟩:=I.list h
 obtain ⟨its',r',⟨o',n',e',_,_,d'⟩,_⟩:=I.list h'
 rw [e] at e'; cases e'
 rw [d] at d'
 injection d' with d1 _
 have:aY = its':=by simpa using congrArg Array.toList d1
 subst this
 exact r.inj r'
end
abbrev Cx.iS (X:Cx) (E:Value→Shared→Prop):Cx:={ X with xe:=E }
abbrev Cx.sW (X:Cx):Cx:=X.iS fun _ _=>False
theorem Cx.Ok.iS {X:Cx} (ok:X.Ok) (E:Value→Shared→Prop):(X.iS E).Ok:=
 ⟨ok.mod,ok.kind,ok.glob,ok.blt,ok.above,ok.inj,ok.has,ok.yh,ok.hd,ok.frames,ok.lT,ok.EW,ok.bs,ok.uD,ok.nC,ok.r0,ok.hV,ok.xy⟩
theorem Cx.Ok.et {X:Cx} {E:Value→Shared→Prop} (ok:(X.iS E).Ok):X.Ok:=
 ⟨ok.mod,ok.kind,ok.glob,ok.blt,ok.above,ok.inj,ok.has,ok.yh,ok.hd,ok.frames,ok.lT,ok.EW,ok.bs,ok.uD,ok.nC,ok.r0,ok.hV,ok.xy⟩
section
variable {X:Cx} {pins:List (Addr×Obj)} {σ : St} {H:Hp} {s:Shared} {E:Value→Shared→Prop}
theorem Inv.iS (I:Inv X pins σ H s) (E:Value→Shared→Prop):Inv (X.iS E) pins σ H s:=⟨I.ok.iS E,I.os,I.bare,I.base,I.loc,I.cell,I.free,I.dk,I.pin,I.bJ,I.len⟩
theorem Inv.et (I:Inv (X.iS E) pins σ H s):Inv X pins σ H s:=⟨I.ok.et,I.os,I.bare,I.base,I.loc,I.cell,I.free,I.dk,I.pin,I.bJ,I.len⟩
theorem SP.et {D:Ends} {f:Flow} {s':Shared} (h:SP (X.iS E) pins D f s'):SP X pins D f s':=by
 cases f with
 | next=>obtain ⟨σ',H',I,q⟩:=h; exact ⟨σ',H',I.et,q⟩
 | brk=>obtain ⟨σ',H',I,q⟩:=h; exact ⟨σ',H',I.et,q⟩
 | cont=>obtain ⟨σ',H',I,q⟩:=h; exact ⟨σ',H',I.et,q⟩
 | ret u=>obtain ⟨v,σ',H',I,r,q⟩:=h; exact ⟨v,σ',H',I.et,r,q⟩
theorem lJ.sW {st:List Stmt} {t:TS} (h:lJ X.sW st t):lJ X st t:=fun pins s σ H D I hw=>
 wpAny_mono (h pins s σ H D (I.iS _) hw) (fun _ _ q=>q.et) fun _ _ z=>False.elim z
end
section
variable {X:Cx} {st:Stmt} {rest:List Stmt} {t u:TS} {e:Expr} {te:TE} {pos:Pos}
def uP:TS:=fun D σ H=>D.nx σ H
def vL (t u:TS):TS:=fun D σ H=>t { D with nx:=u D } σ H
theorem aT:lJ X [] uP:=fun _ _ σ H _ I h=>wpAny_execs_nil ⟨σ,H,I,h⟩
theorem af (h1:PS X st t) (h2:lJ X rest u):lJ X (st :: rest) (vL t u):=by
 intro pins s σ H D I h
 refine wpAny_execs_cons (cT (h1 pins s σ H { D with nx:=u D } I h) fun f s1 q=>?_)
 cases f with
 | next=>
  obtain ⟨σ',H',I',q⟩:=q
  exact h2 pins s1 σ' H' D I' q
 | ret v=>exact q
 | brk=>exact q
 | cont=>exact q
theorem aq (h1:PS X st t):lJ X [st] t:=by
 intro pins s σ H D I h
 refine wpAny_execs_cons (cT (h1 pins s σ H D I h) fun f s1 q=>?_)
 cases f with
 | next=>exact wpAny_execs_nil q
 | ret v=>exact q
 | brk=>exact q
 | cont=>exact q
def BM:TS:=fun D σ H=>D.bk σ H
def GB:TS:=fun D σ H=>D.ct σ H
theorem Inv.quiet {pins:List (Addr×Obj)} {σ : St} {H:Hp} {s:Shared} (I:Inv X pins σ H s):interactive X.env = false:=by simp [interactive,I.ok.kind]
def Gy (te:TE):TS:=fun D σ H=>te σ H fun _ H1=>D.nx σ H1
def yr (te:TE):TS:=fun D σ H=>te σ H D.rt
theorem aA (he:PE X e te):PS X (.Return (some e) pos) (yr te):=by
 intro pins s σ H D I h
 exact wpAny_Return_some (cT (he pins s σ H _ I h) fun v s1 ⟨x,H1,I1,r1,q1⟩=>⟨x,σ,H1,I1,r1,q1⟩)
def Gs:TS:=fun D _ H=>D.rt .df H
def yy (c:TT) (t u:TS):TS:=fun D σ H=>c σ H fun b H1=>if b = true then t D σ H1 else u D σ H1
theorem b7 {c:Expr} {a b:List Stmt} {tc:TT} (hc:PT X c tc) (ha:lJ X a t) (hb:lJ X b u):PS X (.If c a b pos) (yy tc t u):=by
 intro pins s σ H D I h
 refine wpAny_If (cT (hc pins s σ H _ I h) fun d s1 ⟨H1,I1,q1⟩=>?_)
 cases d with
 | true=>exact ha pins s1 σ H1 D I1 q1
 | false=>exact hb pins s1 σ H1 D I1 q1
def vN:TS:=fun _ _ _=>False
theorem rh:PS X st vN:=fun _ _ _ _ _ _ h=>h.elim
end
abbrev TG:=V→St→Hp→(St→Hp→Prop)→Prop
abbrev tf:=List V→St→Hp→(St→Hp→Prop)→Prop
def PG (X:Cx) (target:Expr) (t:TG):Prop:=
 ∀ (pins:List (Addr×Obj)) (s:Shared) (σ : St) (H:Hp) (v:V) (u:Value) (Q:St→Hp→Prop),Inv X pins σ H s→RelV v u→t v σ H Q→
  wpAny (model X.prog X.w) X.A (assign target X.env u) (fun _ s'=>∃ σ' H',Inv X pins σ' H' s'∧Q σ' H') X.xe s
def An (X:Cx) (ts:List Expr) (t:tf):Prop:=
 ∀ (pins:List (Addr×Obj)) (s:Shared) (σ : St) (H:Hp) (vs:List V) (us:List Value) (Q:St→Hp→Prop),Inv X pins σ H s→Vals vs us→t vs σ H Q→
  wpAny (model X.prog X.w) X.A (assignInOrder ((assignEach ts X.env).map (·.2)) us) (fun _ s'=>∃ σ' H',Inv X pins σ' H' s'∧Q σ' H') X.xe s
abbrev sR:=V→V→V→Hp→(Hp→Prop)→Prop
def Am (X:Cx) (t:sR):Prop:=
 ∀ (pins:List (Addr×Obj)) (s:Shared) (σ : St) (H:Hp) (o i v:V) (ov iv u:Value) (Q:Hp→Prop),Inv X pins σ H s→RelV o ov→RelV i iv→RelV v u→t o i v H Q→
  wpAny (model X.prog X.w) X.A (setItem ov iv u) (fun _ s'=>∃ H',Inv X pins σ H' s'∧Q H') X.xe s
abbrev Bq:=V→V→Hp→VK→Prop
def Ol (X:Cx) (op:Operator) (t:Bq):Prop:=
 ∀ (pins:List (Addr×Obj)) (s:Shared) (σ : St) (H:Hp) (x y:V) (v u:Value) (Q:VK),Inv X pins σ H s→RelV x v→RelV y u→t x y H Q→
  wpAny (model X.prog X.w) X.A (inplaceOp op v u) (EP X pins σ Q) X.xe s
section
variable {X:Cx} {pos:Pos}
def mw (i:Nat):TG:=fun v σ H Q=>Q (σ.set i (some v)) H
theorem aH {i:Nat} {x:Str} (hN:X.N.Nodup) (hi:X.N[i]? = some x) (hx:Loc X.env.scope x) (hf:X.fn x = true∨X.env.scope.names.lookup x = some .local:=by first | exact .inl rfl | exact .inr rfl | assumption):PG X (.Name x pos) (mw i):=by
 intro pins s σ H v u Q I r h
 exact wpAny_assign_Name (d9 I hN hi hx r (fun s' I'=>⟨_,H,I',h⟩) hf)
def zD:tf:=fun vs σ H Q=>vs = []∧Q σ H
def vv (t:TG) (u:tf):tf:=fun vs σ H Q=>∃ v r,vs = v :: r∧t v σ H fun σ' H'=>u r σ' H' Q
theorem ez:An X [] zD:=by
 intro pins s σ H vs us Q I r h
 obtain ⟨e,h⟩:=h
 subst e
 cases r
 exact assignInOrder_nil ⟨σ,H,I,h⟩
theorem bR {e:Expr} {es:List Expr} {t:TG} {u:tf} (h1:PG X e t) (h2:An X es u)
  (hs:(assignEach (e :: es) X.env).map (·.2) = assign e X.env :: (assignEach es X.env).map (·.2):=by rfl):An X (e :: es) (vv t u):=by
 intro pins s σ H vs us Q I r h
 obtain ⟨v,vr,e1,h⟩:=h
 subst e1
 cases r with
 | cons r rr=>
  rw [hs]
  refine assignInOrder_cons (cT (h1 pins s σ H _ _ _ I r h) fun _ s1 ⟨σ1,H1,I1,q1⟩=>?_)
  exact h2 pins s1 σ1 H1 _ _ Q I1 rr q1
def xw (K:PySem.W.Frag) (n:Nat) (t:tf):TG:=fun v σ H Q=>∃ a xs,v = .ref a∧SqT K H a xs∧xs.length = n∧t xs σ H Q
theorem ny {es:List Expr} {k:Nat} {t:tf} {n:Nat} (hc:X.calm = true) (h:An X es t)
  (hn:(assignEach es X.env).length = n:=by rfl) (Ec:(assignEach es X.env).findIdx? (·.1) = none:=by rfl):PG X (.Tuple es k pos) (xw X.K n t):=by
 intro pins s σ H v u Q I r hw
 obtain ⟨a,xs,e1,hq,hl,hw⟩:=hw
 subst e1
 cases r
 obtain ⟨aY,rv,ht,hz⟩:=I.tuple hq
 refine assign_Tuple_tuple (I.ok.hd hc) ht (by simp [hn,← hl,rv.length]) Ec fun h' hx=>?_
 have I1:Inv X pins σ H { s with heap:=h' }:=I.kept (t':=s.toks) fun b o e=>hx b o (Nat.ne_of_lt (Heap.lt_size e)) e
 exact h pins _ σ H xs _ Q I1 (by simpa using rv) hw
def zC (to ti:TE) (t:sR):TG:=fun v σ H Q=>to σ H fun o H1=>ti σ H1 fun i H2=>t o i v H2 fun H3=>Q σ H3
theorem rA {o i:Expr} {to ti:TE} {t:sR} (ho:PE X o to) (hi:PE X i ti) (hs:Am X t)
  (ha:∀ v,assign (.Subscript o i pos) X.env v = (do
   let ov ← holding [v] (eval o X.env)
   let iv ← holding [v,ov] (eval i X.env)
   standAt pos
   holding [v,ov,iv] (setItem ov iv v)
   release [v,ov,iv] []):=by intro _; rfl):PG X (.Subscript o i pos) (zC to ti t):=by
 intro pins s σ H v u Q I r h
 rw [ha]
 refine wpAny_bind (wpAny_holding (cT (ho pins s σ H _ I h) fun ov s1 ⟨x,H1,I1,r1,q1⟩=>?_))
 refine wpAny_bind (wpAny_holding (cT (hi pins s1 σ H1 _ I1 q1) fun iv s2 ⟨y,H2,I2,r2,q2⟩=>?_))
 refine wpAny_bind (wpAny_standAt (wpAny_bind (wpAny_holding (cT (hs pins s2 σ H2 x y v ov iv u _ I2 r1 r2 r q2) fun _ s3 ⟨H3,I3,q3⟩=>?_))))
 exact wpAny_release ⟨σ,H3,I3,q3⟩
def tE (te:TE) (g:TG):TS:=fun D σ H=>te σ H fun x H1=>g x σ H1 D.nx
theorem rj {tg e:Expr} {te:TE} {g:TG} (he:PE X e te) (hg:PG X tg g) (hs:swapsWithSole [tg] e pos.line X.env = pure false:=by rfl) (hw:swappedStores [tg] e X.env = pure none:=by rfl)
  (h1:(assignEach [tg] X.env).map (·.2) = [assign tg X.env]:=by rfl):PS X (.Assign [tg] e pos) (tE te g):=by
 intro pins s σ H D I h
 refine wpAny_Assign_stores (cT (he pins s σ H _ I h) fun v s1 ⟨x,H1,I1,r1,q1⟩=>?_) hs hw
 rw [h1]
 exact cT (hg pins s1 σ H1 x v _ I1 r1 q1) fun _ s2 q=>q
theorem aw {i:Nat} {x:Str} {e:Expr} {te:TE} {pos':Pos} (hN:X.N.Nodup) (hi:X.N[i]? = some x) (hx:Loc X.env.scope x) (he:PE X e te) (hs:swapsWith e (some (.Name x pos')) pos.line X.env = pure false:=by rfl) (hf:X.fn x = true∨X.env.scope.names.lookup x = some .local:=by first | exact .inl rfl | exact .inr rfl | assumption) :
  PS X (.Assign [.Name x pos'] e pos) (tE te (mw i)):=by
 intro pins s σ H D I h
 refine wpAny_Assign_Name (cT (he pins s σ H _ I h) fun v s1 ⟨y,H1,I1,r1,q1⟩=>?_) hs
 exact d9 I1 hN hi hx r1 (fun s2 I2=>⟨_,H1,I2,q1⟩) hf
def yt (i j:Nat) (ta:TA):TS:=fun D σ H=>ta σ H fun vs H1=>∃ v w,vs = [v,w]∧D.nx ((σ.set i (some v)).set j (some w)) H1
theorem wo {i j:Nat} {x y:Str} {a b:Expr} {ta:TA} {px py pt:Pos} {kt k2 Cu} (hc:X.calm = true) (hN:X.N.Nodup) (hi:X.N[i]? = some x) (hj:X.N[j]? = some y) (Lx:i≠j)
  (hx:X.env.scope.names.lookup x = some .local) (hy:X.env.scope.names.lookup y = some .local) (ha:PA X [a,b] ta)
  (hw:swappedStores [.Tuple [.Name x px,.Name y py] kt pt] (.Tuple [a,b] k2 Cu) X.env = pure (some [x,y]))
  (hs:swapsWithSole [.Tuple [.Name x px,.Name y py] kt pt] (.Tuple [a,b] k2 Cu) pos.line X.env = pure false:=by rfl) :
  PS X (.Assign [.Tuple [.Name x px,.Name y py] kt pt] (.Tuple [a,b] k2 Cu) pos) (yt i j ta):=by
 intro pins s σ H D I h
 rw [exec_Assign_arm]
 refine wpAny_bind (wpAny_standAt ?_)
 rw [hs]
 refine wpAny_bind (wpAny_pure ?_)
 rw [if_neg (by decide)]
 refine wpAny_bind (Tuple_ (cT (ha _ pins s σ H _ I h) fun us s1 ⟨vs,H1,I1,r1,q1⟩=>?_))
 obtain ⟨v,w,e1,q1⟩:=q1
 subst e1
 obtain ⟨u1,u2,rfl,rv,yH⟩:∃ u1 u2,us = [u1,u2]∧RelV v u1∧RelV w u2:=by
  cases r1 with
  | cons p q=>
   cases q with
   | cons p' q'=>
    cases q'
    exact ⟨_,_,rfl,p,p'⟩
 refine wpAny_newObj_type ?_ (by show 2≤sizeLine; decide)
 have I2:Inv X pins σ H1 { s1 with heap:=s1.heap.push { cls:=.type "tuple",data:=.seq [u1,u2].toArray } }:=I1.kept (t':=s1.toks) fun b o e=>Heap.get?_push_of_some _ e
 rw [hw]
 refine wpAny_bind (wpAny_pure ?_)
 show wpAny (model X.prog X.w) X.A (do rule "assign.swapped-stores"; let items ← unpackItems (.ref s1.heap.objs.size) 2 none; assignInOrder [fun v=>bindName X.env y v,fun v=>bindName X.env x v] items.reverse; pure Flow.next) _ _ _
 refine wpAny_bind (wpAny_rule (wpAny_bind (unpackItems_tuple (items:=#[u1,u2]) (I.ok.hd hc) (IsTup.new s1.heap _) fun h' K8=>?_)))
 have I3:=I2.kept (h':=h') (t':=s1.toks) fun b o e=>K8 b o (Nat.ne_of_lt (Heap.lt_size e)) e
 show wpAny _ _ (assignInOrder [fun v=>bindName X.env y v,fun v=>bindName X.env x v] [u2,u1] >>= fun _=>pure Flow.next) _ _ _
 refine wpAny_bind (assignInOrder_cons (wpAny_bindName (d9 I3 hN hj (.inl hy) yH (fun s2 I4=>?_) (.inr hy))))
 refine assignInOrder_cons (wpAny_bindName (d9 I4 hN hi (.inl hx) rv (fun s3 I5=>assignInOrder_nil (wpAny_pure ?_)) (.inr hx)))
 rw [List.set_comm _ _ (Ne.symm Lx)] at I5
 exact ⟨_,H1,I5,q1⟩
def I9 (i:Nat) (te:TE) (ti:Bq):TS:=fun D σ H=>∃ x,σ[i]? = some (some x)∧te σ H fun y H1=>ti x y H1 fun z H2=>D.nx (σ.set i (some z)) H2
def GC (to ti te:TE) (BD:V→V→Hp→VK→Prop) (IK:Bq) (BA:sR):TS:=fun D σ H=>to σ H fun o H1=>ti σ H1 fun i H2=>BD o i H2 fun x H3=>te σ H3 fun y H4=>IK x y H4 fun z H5=>BA o i z H5 fun H6=>D.nx σ H6
def MU (X:Cx) (t:V→V→Hp→VK→Prop):Prop:=
 ∀ (pins:List (Addr×Obj)) (s:Shared) (σ : St) (H:Hp) (o i:V) (ov iv:Value) (Q:VK),Inv X pins σ H s→RelV o ov→RelV i iv→t o i H Q→
  wpAny (model X.prog X.w) X.A (getItem ov iv) (EP X pins σ Q) X.xe s
def NZ (f:Int→Int→Int):Bq:=fun x y H Q=>∃ i j,x = .int i∧y = .int j∧Q (.int (f i j)) H
end
section
variable {X:Cx} {pos:Pos}
def p8 (c:TT) (tb:TS):TS:=fun D σ H=>∃ W:Nat→St→Hp→Prop,(∃ m,W m σ H)∧∀ m σ H,W m σ H→
 c σ H fun b H1=>if b = true then ∃ N:St→Hp→Prop,(∀ σ' H',N σ' H'→∃ m',m' < m∧W m' σ' H')∧tb { D with nx:=N,ct:=N,bk:=D.nx } σ H1 else D.nx σ H1
theorem ma {c:Expr} {body:List Stmt} {tc:TT} {tb:TS} (hp:PassesOwn (model X.prog X.w) X.A X.env X.xe) (hc:PT X c tc) (hb:lJ X body tb):PS X (.While c body [] pos) (p8 tc tb):=by
 intro pins s σ H D I h
 obtain ⟨W,⟨m0,w0⟩,turn⟩:=h
 refine wpAny_While (codeAny_whileLoop (fun n s'=>∃ σ' H',Inv X pins σ' H' s'∧W n σ' H') ?_ m0 ⟨σ,H,I,w0⟩)
 rintro n s1 ⟨σ1,H1,I1,w1⟩
 refine wpAny_passesOwn hp (cT (hc pins s1 σ1 H1 _ I1 (turn n σ1 H1 w1)) fun b s2 ⟨H2,I2,q2⟩=>?_)
 cases b with
 | true=>
  obtain ⟨N,hN,q2⟩:=q2
  rw [if_pos rfl]
  refine wpAny_passesOwn hp (cT (hb pins s2 σ1 H2 _ I2 q2) fun f s3 q3=>?_)
  cases f with
  | next=>
   obtain ⟨σ3,H3,I3,n3⟩:=q3
   obtain ⟨m',hm,w3⟩:=hN σ3 H3 n3
   exact ⟨m',hm,σ3,H3,I3,w3⟩
  | cont=>
   obtain ⟨σ3,H3,I3,n3⟩:=q3
   obtain ⟨m',hm,w3⟩:=hN σ3 H3 n3
   exact ⟨m',hm,σ3,H3,I3,w3⟩
  | brk=>exact q3
  | ret v=>exact q3
 | false=>
  rw [if_neg Bool.false_ne_true]
  exact wpAny_execs_nil ⟨σ1,H2,I2,q2⟩
end
structure It where
 go:Nat→Hp→Prop
 pS:Nat→Hp→V→Hp→Prop
 stop:Nat→Hp→Prop
def iH (X:Cx) (pins:List (Addr×Obj)) (H:Hp) (b:Addr):Prop:=
 H b = none∧b≠X.env.locals∧b∉X.fs∧(b∈X.ex∨X.s₀.heap.objs.size≤b)∧(∀ x c,X.env.cells.lookup x = some c→c≠b)∧∀ p∈X.pn ++ pins,p.1≠b
theorem Inv.rY {X:Cx} {pins:List (Addr×Obj)} {σ : St} {H H':Hp} {s:Shared} {b:Addr} (I:Inv X pins σ H s) (hb:s.heap.objs.size≤b) (hn:H' b = none):iH X pins H' b:=by
 refine ⟨hn,Nat.ne_of_gt (Nat.lt_of_lt_of_le I.lt hb),I.Dx hb,.inr (Nat.le_trans I.sz hb),fun x c e z=>?_,fun p hp z=>?_⟩
 ·obtain ⟨v,q⟩:=I.cell x c e
  exact absurd (Nat.lt_of_lt_of_le q.lt (by rw [z]; exact hb)) (Nat.lt_irrefl _)
 ·exact absurd (Nat.lt_of_lt_of_le (Heap.lt_size (I.pin p hp).1) (by rw [z]; exact hb)) (Nat.lt_irrefl _)
structure Turn (P:Program) (w:World) (K:PySem.W.Frag) (tg:Expr) (J:It) (fp:List Addr) (it:Addr) (tn:Nat→Heap→Prop):Prop where
 mem:it∈fp
 obj:∀ i h,tn i h→∀ b∈fp,∃ o,h.get? b = some o∧∀ v,o.data≠.cell v
 keep:∀ i h h',tn i h→(∀ b∈fp,∀ o,h.get? b = some o→h'.get? b = some o)→tn i h'
 item:∀ (X:Cx),X.prog = P→X.w = w→X.K = K→X.calm = true→∀ (i:Nat) (pins:List (Addr×Obj)) (s:Shared) (σ : St) (H:Hp) (E:Value→Shared→Prop),Inv X pins σ H s→(∀ b∈fp,iH X pins H b)→tn i s.heap→J.go i H→
  wpAny (model P w) X.A (pyNext (.ref it)) (fun r s1=>∃ u,r = some u∧
   wpAny (model P w) X.A (letOwnedTupleGo tg (.ref it) u) (fun _ s2=>∃ x H',Inv X pins σ H' s2∧RelV x u∧J.pS i H x H'∧tn (i + 1) s2.heap∧∀ b∈fp,H' b = none) E s1) E s
 done:∀ (X:Cx),X.prog = P→X.w = w→X.K = K→X.calm = true→∀ (i:Nat) (pins:List (Addr×Obj)) (s:Shared) (σ : St) (H:Hp) (E:Value→Shared→Prop),Inv X pins σ H s→(∀ b∈fp,iH X pins H b)→tn i s.heap→J.stop i H→
  wpAny (model P w) X.A (pyNext (.ref it)) (fun r s1=>r = none∧Inv X pins σ H s1) E s
 self:∀ (A:Around) (i:Nat) (s:Shared) (Q:Value→Shared→Prop) (E:Value→Shared→Prop),tn i s.heap→Q (.ref it) s→wpAny (model P w) A (pyIter (.ref it)) Q E s
abbrev TI:=St→Hp→(It→Hp→Prop)→Prop
def Iq (X:Cx) (pins:List (Addr×Obj)) (σ : St) (tg:Expr) (R:It→Hp→Prop) (AR:Value) (s2:Shared):Prop:=
 ∃ (it:Addr) (fp:List Addr) (tn:Nat→Heap→Prop) (J:It) (H':Hp),AR = .ref it∧Inv X pins σ H' s2∧Turn X.prog X.w X.K tg J fp it tn∧tn 0 s2.heap∧(∀ b∈fp,iH X pins H' b)∧R J H'
def PI (X:Cx) (tg iter:Expr) (wi:TI):Prop:=
 ∀ (pins:List (Addr×Obj)) (s:Shared) (σ : St) (H:Hp) (R:It→Hp→Prop),Inv X pins σ H s→wi σ H R→
  wpAny (model X.prog X.w) X.A (eval iter X.env) (fun v s1=>wpAny (model X.prog X.w) X.A (pyIter v) (Iq X pins σ tg R) X.xe s1) X.xe s
theorem vt {M:Model} {A:Around} {E:Value→Shared→Prop} {s:Shared} {tg:Expr} {it:Addr} {u:Value} {o:Obj} {n:String} {vs:Array Value} {Q:Unit→Shared→Prop} (ho:s.heap.get? it = some o) (hc:o.cls = .type n) (hd:o.data = .fields vs)
  (hn:["enumerate", "zip", "dict_itemiterator", "dict_reverseitemiterator", "odict_iterator", "itertools.zip_longest", "itertools.pairwise"].contains n = false) (hQ:Q () s):wpAny M A (letOwnedTupleGo tg (.ref it) u) Q E s:=by
 unfold letOwnedTupleGo
 cases tg <;> first
  | exact wpAny_pure hQ
  | (cases u <;> first
    | exact wpAny_pure hQ
    | (
       refine wpAny_bind (wpAny_load ho ?_)
       rw [hc,hd]
       show wpAny M A (if (["enumerate", "zip", "dict_itemiterator", "dict_reverseitemiterator", "odict_iterator", "itertools.zip_longest", "itertools.pairwise"].contains n && vs[0]? == some (rawInt _)) = true then _ else _) Q E s
       rw [if_neg (by intro h; rw [hn,Bool.false_and] at h; cases h)]
       exact wpAny_pure hQ))
def uK (K:PySem.W.Frag) (a:Addr):It:=
 ⟨fun i H=>∃ xs x,aB K H a xs∧xs[i]? = some x,fun i H x H'=>H' = H∧∀ xs,aB K H a xs→xs[i]? = some x,fun i H=>∃ xs,aB K H a xs∧xs.length≤i⟩
def MY (K:PySem.W.Frag) (a:Addr):It:=
 ⟨fun i H=>∃ xs x,SqT K H a xs∧xs[i]? = some x,fun i H x H'=>H' = H∧∀ xs,SqT K H a xs→xs[i]? = some x,fun i H=>∃ xs,SqT K H a xs∧xs.length≤i⟩
def tj (lo:Int) (n:Nat):It:=⟨fun i _=>i < n,fun i H x H'=>H' = H∧x = .int (lo + i),fun i _=>n≤i⟩
theorem o4 {P:Program} {w:World} {K:PySem.W.Frag} {tg:Expr} (a it:Addr):Turn P w K tg (uK K a) [it] it (fun i h=>h.IsListIter it a i) where
 mem:=by simp
 obj:=fun i h st b hb=>by
  have e:b = it:=by simpa using hb
  subst e
  obtain ⟨o,e,c,d⟩:=st
  exact ⟨o,e,fun v z=>by rw [d] at z; cases z⟩
 keep:=fun i h h' st k=>st.at fun o e=>k it (by simp) o e
 item:=by
  intro X hP hw hK hc i pins s σ H E I hf st hg
  subst hP hw hK
  obtain ⟨xs,x,hq,hx⟩:=hg
  obtain ⟨aY,rv,p,hz⟩:=I.list hq
  obtain ⟨u,hu,ru⟩:=rv.get hx
  obtain ⟨f0,f1,f2,f3,f4,f5⟩:=hf it (by simp)
  refine wpAny_pyNext_list_item st p.isList (x:=u) (by simpa using hu) fun h' yC sb=>?_
  have I1:Inv X pins σ H { s with heap:=h' }:=I.turned (t':=s.toks) (fun b o hb e=>(sb.2 b hb).trans e) f0 f1 f3 f4 f5
  obtain ⟨o,e,c,d⟩:=id yC
  exact ⟨u,rfl,vt (s:={ s with heap:=h' }) e c d (by decide) ⟨x,H,I1,ru,⟨rfl,fun ys hy=>by rw [I.gn hy hq]; exact hx⟩,yC,fun b hb=>(hf b hb).1⟩⟩
 done:=by
  intro X hP hw hK hc i pins s σ H E I hf st hg
  subst hP hw hK
  obtain ⟨xs,hq,hx⟩:=hg
  obtain ⟨aY,rv,p,hz⟩:=I.list hq
  obtain ⟨f0,f1,f2,f3,f4,f5⟩:=hf it (by simp)
  have hl:=rv.length
  exact wpAny_pyNext_list_end (I.ok.hd hc) st p.isList (by simp; omega) fun h' eb=>⟨rfl,I.turned (t':=s.toks) (fun b o hb e=>eb b o hb e) f0 f1 f3 f4 f5⟩
 self:=fun _ _ _ _ _ st h=>wpAny_pyIter_listiter st h
theorem mW {P:Program} {w:World} {K:PySem.W.Frag} {tg:Expr} (it:Addr) (lo:Int) (n:Nat):Turn P w K tg (tj lo n) [it] it (fun i h=>IsRangeIter h it (lo + (i:Nat) * 1) ((n:Int) - (i:Nat)) 1) where
 mem:=by simp
 obj:=fun i h st b hb=>by
  have e:b = it:=by simpa using hb
  subst e
  exact ⟨_,st,fun v z=>by
   have z':Data.fields _ = Data.cell v:=z
   cases z'⟩
 keep:=fun i h h' st k=>k it (by simp) _ st
 item:=by
  intro X hP hw hK hc i pins s σ H E I hf st hg
  subst hP hw hK
  obtain ⟨f0,f1,f2,f3,f4,f5⟩:=hf it (by simp)
  have W:=Walks.range (prog:=X.prog) (w:=X.w) (I.ok.hd hc) it lo 1 n
  refine W.item i s _ _ hg st fun v h' tk hv yC kk=>?_
  obtain ⟨t,rfl⟩:=hv
  have I1:Inv X pins σ H { s with heap:=h',toks:=tk }:=I.turned (fun b o hb e=>kk b o (by simpa using hb) e) f0 f1 f3 f4 f5
  refine ⟨_,rfl,vt (s:={ s with heap:=h',toks:=tk }) (n:= "range_iterator") yC rfl rfl (by decide) ⟨.int (lo + i),H,I1,⟨t,?_⟩,⟨rfl,rfl⟩,yC,fun b hb=>(hf b hb).1⟩⟩
  rw [Int.mul_one]
 done:=by
  intro X hP hw hK hc i pins s σ H E I hf st hg
  subst hP hw hK
  obtain ⟨f0,f1,f2,f3,f4,f5⟩:=hf it (by simp)
  exact wpAny_pyNext_range_end (I.ok.hd hc) st (by have:n≤i:=hg; omega) fun h' eb=>⟨rfl,I.turned (t':=s.toks) (fun b o hb e=>eb b o hb e) f0 f1 f3 f4 f5⟩
 self:=fun _ _ _ _ _ st h=>wpAny_pyIter_rangeiter st h
end L2
namespace L2
open PySem PySem.Spec PyProof.Rows
section
variable {X:Cx} {tg:Expr}
def rS (K:PySem.W.Frag) (tl:TE):TI:=fun σ H R=>tl σ H fun x H1=>∃ a,x = .ref a∧(∃ xs,aB K H1 a xs)∧R (uK K a) H1
def K3 (K:PySem.W.Frag) (tl:TE):TI:=fun σ H R=>tl σ H fun x H1=>∃ a,x = .ref a∧(∃ xs,SqT K H1 a xs)∧R (MY K a) H1
theorem du {l:Expr} {tl:TE} (hl:PE X l tl):PI X tg l (rS X.K tl):=by
 intro pins s σ H R I h
 refine cT (hl pins s σ H _ I h) fun v s1 ⟨x,H1,I1,r1,q1⟩=>?_
 obtain ⟨a,e,⟨xs,hq⟩,q⟩:=q1
 subst e
 cases r1
 obtain ⟨aY,rv,p,hz⟩:=I1.list hq
 refine wpAny_pyIter_list p.isList ?_
 refine ⟨s1.heap.objs.size,[s1.heap.objs.size],_,_,H1,rfl,I1.kept (t':=s1.toks) fun b o e=>Heap.get?_push_of_some _ e,o4 a _,⟨_,Heap.get?_push_size _ rfl,rfl,rfl⟩,fun b hb=>?_,q⟩
 have e:b = s1.heap.objs.size:=by simpa using hb
 subst e
 exact I1.rY (Nat.le_refl _) (I1.bJ.fresh (Nat.le_refl _))
theorem qF {pins:List (Addr×Obj)} {σ : St} {H:Hp} {s:Shared} {R:It→Hp→Prop} {E:Value→Shared→Prop} {lo hi:Int} {t u v:Tok} {tk:Nat} (I:Inv X pins σ H s) (h1 : -(2 ^ 62)≤lo) (h2:lo < 2 ^ 62) (h3 : -(2 ^ 62)≤hi) (h4:hi < 2 ^ 62)
  (q:R (tj lo (hi - lo).toNat) H):wpAny (model X.prog X.w) X.A (pyIter (.ref s.heap.objs.size)) (Iq X pins σ tg R) E { s with heap:=s.heap.push { cls:=.type "range",data:=.fields #[.int lo t,.int hi u,.int 1 v] },toks:=tk }:=by
 refine wpAny_pyIter_range (IsRange.new ..) (small_one h1 h2 h3 h4) ?_
 have I1:Inv X pins σ H { s with heap:=s.heap.push { cls:=.type "range",data:=.fields #[.int lo t,.int hi u,.int 1 v] },toks:=tk }:=I.kept fun b o e=>Heap.get?_push_of_some _ e
 refine ⟨(s.heap.push { cls:=.type "range",data:=.fields #[.int lo t,.int hi u,.int 1 v] }).objs.size,[(s.heap.push { cls:=.type "range",data:=.fields #[.int lo t,.int hi u,.int 1 v] }).objs.size],_,_,H,rfl,
  I1.kept (t':=tk) fun b o e=>Heap.get?_push_of_some _ e,mW _ lo (hi - lo).toNat,?_,fun b hb=>?_,q⟩
 ·have e1:lo + ((0:Nat):Int) * 1 = lo:=by simp
  have e2:(((hi - lo).toNat:Nat):Int) - ((0:Nat):Int) = Builtin.Range.rangeSize lo hi 1:=by rw [rangeSize_one]; split <;> omega
  show IsRangeIter _ _ (lo + ((0:Nat):Int) * 1) ((((hi - lo).toNat:Nat):Int) - ((0:Nat):Int)) 1
  rw [e1,e2]
  exact Heap.get?_push_size _ rfl
 ·have e:b = (s.heap.push { cls:=.type "range",data:=.fields #[.int lo t,.int hi u,.int 1 v] }).objs.size:=by simpa using hb
  subst e
  exact I1.rY (Nat.le_refl _) (I1.bJ.fresh (Nat.le_refl _))
def y4 (ta:TA):TI:=fun σ H R=>ta σ H fun vs H1=>∃ j:Int,vs = [.int j]∧-(2 ^ 62)≤j∧j < 2 ^ 62∧R (tj 0 j.toNat) H1
def Hg (ta:TA):TI:=fun σ H R=>ta σ H fun vs H1=>∃ i j:Int,vs = [.int i,.int j]∧(-(2 ^ 62)≤i∧i < 2 ^ 62∧-(2 ^ 62)≤j∧j < 2 ^ 62)∧R (tj i (j - i).toNat) H1
theorem dB {a:Expr} {ta:TA} {p pos:Pos} (hg:Gl X "range") (hm:X.mg "range" = none) (ha:PA X [a] ta) (hs:starEach [a] X.env = [(false,eval a X.env)]:=by rfl):PI X tg (.Call (.Name "range" p) [a] [] pos) (y4 ta):=by
 intro pins s σ H R I h
 refine Call_ (eU I hg hm boot_range (PyProof.Rows.callWith_type1 (cT (ha pos pins s σ H _ I h) fun us s1 ⟨vs,H1,I1,r1,q1⟩=>?_) hs rfl))
 obtain ⟨j,e,q1,q2,q⟩:=q1
 subst e
 cases r1 with
 | cons r rr=>
  cases rr
  obtain ⟨t,rfl⟩:=r
  exact call_range_1 (qF I1 (by omega) (by omega) q1 q2 (by simpa using q))
def yA (wi:TI) (g:TG) (tb:TS):TS:=fun D σ H=>wi σ H fun J H1=>∃ W:Nat→Nat→St→Hp→Prop,(∃ m,W 0 m σ H1)∧∀ i m σ H,W i m σ H→
 (J.stop i H∧D.nx σ H)∨(J.go i H∧∃ N:St→Hp→Prop,(∀ σ' H',N σ' H'→∃ m',m' < m∧W (i + 1) m' σ' H')∧∀ x H',J.pS i H x H'→g x σ H' fun σ2 H2=>tb { D with nx:=N,ct:=N,bk:=D.nx } σ2 H2)
def gW (fp:List Addr) (h:Heap):List (Addr×Obj):=fp.filterMap fun b=>(h.get? b).map fun o=>(b,o)
theorem cV {fp:List Addr} {h:Heap} {b:Addr} {o:Obj} (hb:b∈fp) (e:h.get? b = some o):(b,o)∈gW fp h:=List.mem_filterMap.mpr ⟨b,hb,by rw [e]; rfl⟩
theorem pf {fp:List Addr} {h:Heap} {p:Addr×Obj} (hp:p∈gW fp h):p.1∈fp∧h.get? p.1 = some p.2:=by
 obtain ⟨b,hb,e⟩:=List.mem_filterMap.mp hp
 cases q:h.get? b with
 | none=>rw [q] at e; cases e
 | some o=>
  rw [q] at e
  have e':(b,o) = p:=Option.some.inj e
  subst e'
  exact ⟨hb,q⟩
theorem Inv.pinned {pins:List (Addr×Obj)} {σ : St} {H:Hp} {s:Shared} {fp:List Addr} (I:Inv X pins σ H s) (hf:∀ b∈fp,iH X pins H b) (ho:∀ b∈fp,∃ o,s.heap.get? b = some o∧∀ v,o.data≠.cell v):Inv X (pins ++ gW fp s.heap) σ H s:=
 I.iL fun p hp=>(List.mem_append.mp hp).elim (fun z=>I.pin p (List.mem_append_right _ z)) fun z=>by
  obtain ⟨hb,e⟩:=pf z
  obtain ⟨f0,f1,f2,_⟩:=hf p.1 hb
  obtain ⟨o,e',d⟩:=ho p.1 hb
  rw [e] at e'; cases e'
  exact ⟨e,f0,f1,f2,d⟩
theorem Inv.eM {pins pl:List (Addr×Obj)} {σ : St} {H:Hp} {s:Shared} (I:Inv X (pins ++ pl) σ H s):Inv X pins σ H s:=I.iL fun p hp=>I.pin p (List.mem_append_right _ (List.mem_append_left _ hp))
theorem eR {iter:Expr} {body:List Stmt} {wi:TI} {g:TG} {tb:TS} {pos:Pos} (hp:PassesOwn (model X.prog X.w) X.A X.env X.xe) (hc:X.calm = true) (hi:PI X tg iter wi) (hg:PG X tg g) (hb:lJ X body tb)
  (hs:∀ x,foldedSetIterable iter X.env x = pure x:=by intro _; rfl):PS X (.For tg iter body [] pos) (yA wi g tb):=by
 intro pins s σ H D I h
 refine wpAny_For (cT (hi pins s σ H _ I h) fun v s1 h1=>cT h1 fun AR s2 h2=>?_) hs
 obtain ⟨it,fp,tn,J,H2,e,I2,T,Jf,f2,W,⟨m0,w0⟩,turn⟩:=h2
 subst e
 -- Bx stays true of p7 iterator's objects through p7 loop
 have vP:∀ {H':Hp},(∀ b∈fp,H' b = none)→∀ b∈fp,iH X pins H' b:=fun hn b hb=>⟨hn b hb,(f2 b hb).2⟩
 refine codeAny_forLoop_any (fun n s'=>∃ i σ' H',Inv X pins σ' H' s'∧tn i s'.heap∧(∀ b∈fp,H' b = none)∧W i n σ' H') ?_ m0 ⟨0,σ,H2,I2,Jf,fun b hb=>(f2 b hb).1,w0⟩
 rintro n s3 ⟨i,σ3,H3,I3,GG,HR,w3⟩
 rcases turn i n σ3 H3 w3 with ⟨stop,qn⟩ | ⟨go,N,hN,step⟩
 ·refine wpAny_passesOwn hp (cT (T.done X rfl rfl rfl hc i pins s3 σ3 H3 X.xe I3 (vP HR) GG stop) fun r s4 ⟨hr,I4⟩=>?_)
  subst hr
  exact wpAny_execs_nil ⟨σ3,H3,I4,qn⟩
 ·refine wpAny_passesOwn hp (cT (T.item X rfl rfl rfl hc i pins s3 σ3 H3 X.xe I3 (vP HR) GG go) fun r s4 ⟨u,hr,h4⟩=>?_)
  subst hr
  refine wpAny_passesOwn hp (cT h4 fun _ s5 ⟨x,H5,I5,r5,y5,BO,LY⟩=>?_)
  have M4:=I5.pinned (vP LY) (T.obj _ _ BO)
  refine wpAny_passesOwn hp (cT (hg _ s5 σ3 H5 x u _ M4 r5 (step x H5 y5)) fun _ s6 ⟨σ6,H6,I6,q6⟩=>?_)
  refine wpAny_passesOwn hp (cT (hb _ s6 σ6 H6 _ I6 q6) fun f s7 q7=>?_)
  have again:∀ {σ7:St} {H7:Hp},Inv X (pins ++ gW fp s5.heap) σ7 H7 s7→N σ7 H7→∃ m,m < n∧∃ i σ' H',Inv X pins σ' H' s7∧tn i s7.heap∧(∀ b∈fp,H' b = none)∧W i m σ' H':=fun {σ7 H7} I7 n7=>by
   obtain ⟨m',hm,w7⟩:=hN σ7 H7 n7
   refine ⟨m',hm,i + 1,σ7,H7,I7.eM,T.keep _ _ _ BO fun b hb o e=>(I7.pin (b,o) (List.mem_append_right _ (List.mem_append_right _ (cV hb e)))).1,fun b hb=>?_,w7⟩
   obtain ⟨o,e,d⟩:=T.obj _ _ BO b hb
   exact (I7.pin (b,o) (List.mem_append_right _ (List.mem_append_right _ (cV hb e)))).2.1
  cases f with
  | next=>obtain ⟨σ7,H7,I7,n7⟩:=q7; exact again I7 n7
  | cont=>obtain ⟨σ7,H7,I7,n7⟩:=q7; exact again I7 n7
  | brk=>obtain ⟨σ7,H7,I7,q7⟩:=q7; exact ⟨σ7,H7,I7.eM,q7⟩
  | ret v=>obtain ⟨x7,σ7,H7,I7,r7,q7⟩:=q7; exact ⟨x7,σ7,H7,I7.eM,r7,q7⟩
end
theorem jo {K:PySem.W.Frag} {a:Addr} {xs:List V} {g:TG} {tb:TS} {D:Ends} {σ : St} {H:Hp} (Pv:Nat→St→Hp→Prop) (h0:Pv 0 σ H) (hl:∀ i σ H,i≤xs.length→Pv i σ H→aB K H a xs)
  (hs:∀ i x σ H,xs[i]? = some x→Pv i σ H→g x σ H fun σ2 H2=>tb { D with nx:=Pv (i + 1),ct:=Pv (i + 1),bk:=D.nx } σ2 H2) (hd:∀ σ H,Pv xs.length σ H→D.nx σ H) :
  ∃ W:Nat→Nat→St→Hp→Prop,(∃ m,W 0 m σ H)∧∀ i m σ H,W i m σ H→
   ((uK K a).stop i H∧D.nx σ H)∨((uK K a).go i H∧∃ N:St→Hp→Prop,(∀ σ' H',N σ' H'→∃ m',m' < m∧W (i + 1) m' σ' H')∧∀ x H',(uK K a).pS i H x H'→g x σ H' fun σ2 H2=>tb { D with nx:=N,ct:=N,bk:=D.nx } σ2 H2):=by
 refine ⟨fun i m σ H=>m = xs.length - i∧i≤xs.length∧Pv i σ H,⟨xs.length,by simp,Nat.zero_le _,h0⟩,?_⟩
 rintro i m σ H ⟨rfl,hi,p⟩
 have q:=hl i σ H hi p
 by_cases dh:i < xs.length
 ·refine .inr ⟨⟨xs,xs[i],q,by simp [dh]⟩,Pv (i + 1),fun σ' H' p'=>⟨xs.length - (i + 1),by omega,rfl,dh,p'⟩,fun x H' y=>?_⟩
  obtain ⟨e,y⟩:=y
  subst e
  exact hs i x σ _ (y xs q) p
 ·have e:i = xs.length:=by omega
  subst e
  exact .inl ⟨⟨xs,q,Nat.le_refl _⟩,hd σ H p⟩
theorem fh {lo:Int} {n:Nat} {g:TG} {tb:TS} {D:Ends} {σ : St} {H:Hp} (Pv:Nat→St→Hp→Prop) (h0:Pv 0 σ H)
  (hs:∀ i σ H,i < n→Pv i σ H→g (.int (lo + i)) σ H fun σ2 H2=>tb { D with nx:=Pv (i + 1),ct:=Pv (i + 1),bk:=D.nx } σ2 H2) (hd:∀ σ H,Pv n σ H→D.nx σ H) :
  ∃ W:Nat→Nat→St→Hp→Prop,(∃ m,W 0 m σ H)∧∀ i m σ H,W i m σ H→
   ((tj lo n).stop i H∧D.nx σ H)∨((tj lo n).go i H∧∃ N:St→Hp→Prop,(∀ σ' H',N σ' H'→∃ m',m' < m∧W (i + 1) m' σ' H')∧∀ x H',(tj lo n).pS i H x H'→g x σ H' fun σ2 H2=>tb { D with nx:=N,ct:=N,bk:=D.nx } σ2 H2):=by
 refine ⟨fun i m σ H=>m = n - i∧i≤n∧Pv i σ H,⟨n,by simp,Nat.zero_le _,h0⟩,?_⟩
 rintro i m σ H ⟨rfl,hi,p⟩
 by_cases dh:i < n
 ·refine .inr ⟨dh,Pv (i + 1),fun σ' H' p'=>⟨n - (i + 1),by omega,rfl,dh,p'⟩,fun x H' y=>?_⟩
  obtain ⟨e,y⟩:=y
  subst e y
  exact hs i σ _ dh p
 ·have e:i = n:=by omega
  subst e
  exact .inl ⟨Nat.le_refl _,hd σ H p⟩
end L2
namespace L2
open PySem PySem.Spec PyProof.Rows
abbrev R2:=V→V→Hp→VK→Prop
def jU (X:Cx) (f:Value→Value→Sem Value) (r:R2):Prop:=
 ∀ (pins:List (Addr×Obj)) (s:Shared) (σ : St) (H:Hp) (x y:V) (v u:Value) (Q:VK),Inv X pins σ H s→RelV x v→RelV y u→r x y H Q→
  wpAny (model X.prog X.w) X.A (f v u) (EP X pins σ Q) X.xe s
def F4 (X:Cx) (f:Value→Sem Value) (r:V→Hp→VK→Prop):Prop:=
 ∀ (pins:List (Addr×Obj)) (s:Shared) (σ : St) (H:Hp) (x:V) (v:Value) (Q:VK),Inv X pins σ H s→RelV x v→r x H Q→
  wpAny (model X.prog X.w) X.A (f v) (EP X pins σ Q) X.xe s
def fF (X:Cx) (f:Value) (r:List V→Hp→VK→Prop):Prop:=
 ∀ (pins:List (Addr×Obj)) (s:Shared) (σ : St) (H:Hp) (xs:List V) (us:List Value) (Q:VK),Inv X pins σ H s→Vals xs us→r xs H Q→
  wpAny (model X.prog X.w) X.A (call f us) (EP X pins σ Q) X.xe s
def F6 (X:Cx) (r:V→Hp→(Bool→Hp→Prop)→Prop):Prop:=
 ∀ (pins:List (Addr×Obj)) (s:Shared) (σ : St) (H:Hp) (x:V) (v:Value) (Q:Bool→Hp→Prop),Inv X pins σ H s→RelV x v→r x H Q→
  wpAny (model X.prog X.w) X.A (truthy v) (TP X pins σ Q) X.xe s
def xU (r:R2) (ta tb:TE):TE:=fun σ H Q=>ta σ H fun x H1=>tb σ H1 fun y H2=>r x y H2 Q
def Gr (r:V→Hp→VK→Prop) (ta:TE):TE:=fun σ H Q=>ta σ H fun x H1=>r x H1 Q
def rI (C:Int→Int→Prop) (g:Int→Int→V):R2:=fun x y H Q=>∃ i j,x = .int i∧y = .int j∧C i j∧Q (g i j) H
def uZ (g:Int→Int→V):R2:=fun x y H Q=>∃ i j,x = .int i∧y = .int j∧Q (g i j) H
def rU (g:Int→V):V→Hp→VK→Prop:=fun x H Q=>∃ i,x = .int i∧Q (g i) H
section
variable {X:Cx} {a b c:Expr} {ta tb tc:TE} {pos:Pos}
theorem xN (ha:PE X a ta) (hb:PE X b tb) {pins:List (Addr×Obj)} {s:Shared} {σ : St} {H:Hp} {R:V→V→Hp→Prop} (I:Inv X pins σ H s)
  (h:ta σ H fun x H1=>tb σ H1 fun y H2=>R x y H2) {Q:Value→Shared→Prop} {f:Value→Value→Sem Value}
  (hf:∀ v u s2 x y H2,Inv X pins σ H2 s2→RelV x v→RelV y u→R x y H2→wpAny (model X.prog X.w) X.A (f v u) Q X.xe s2) :
  wpAny (model X.prog X.w) X.A (eval a X.env) (fun v s₁=>wpAny (model X.prog X.w) X.A (eval b X.env) (fun u s₂=>wpAny (model X.prog X.w) X.A (f v u) Q X.xe s₂) X.xe s₁) X.xe s:=by
 refine cT (ha pins s σ H _ I h) fun v s1 ⟨x,H1,I1,r1,q1⟩=>?_
 refine cT (hb pins s1 σ H1 _ I1 q1) fun u s2 ⟨y,H2,I2,r2,q2⟩=>?_
 exact hf v u s2 x y H2 I2 r1 r2 q2
theorem au {op:Operator} {r:R2} (ho:jU X (binaryOp op) r) (ha:PE X a ta) (hb:PE X b tb):PE X (.BinOp a op b pos) (xU r ta tb):=by
 intro pins s σ H Q I h
 exact wpAny_BinOp (xN ha hb I h fun v u s2 x y H2 I2 rx ry q=>ho pins s2 σ H2 x y v u Q I2 rx ry q)
theorem u9 {op:UnaryOp} {r:V→Hp→VK→Prop} (ho:F4 X (unaryOp op) r) (ha:PE X a ta):PE X (.UnaryOp op a pos) (Gr r ta):=by
 intro pins s σ H Q I h
 exact UnaryOp_ (cT (ha pins s σ H _ I h) fun v s1 ⟨x,H1,I1,r1,q1⟩=>ho pins s1 σ H1 x v Q I1 r1 q1)
theorem yS {f:Value→Value→Sem Value} {C:Int→Int→Prop} {g:Int→Int→Int}
  (rule:∀ (i j:Int) (t u:Tok) (s:Shared) (Q:Value→Shared→Prop) (E:Value→Shared→Prop),C i j→Q (.int (g i j) s.toks) { s with toks:=s.toks + 1 }→wpAny (model X.prog X.w) X.A (f (.int i t) (.int j u)) Q E s) :
  jU X f (rI C fun i j=>.int (g i j)):=by
 intro pins s σ H x y v u Q I rx ry h
 obtain ⟨i,j,rfl,rfl,hc,q⟩:=h
 obtain ⟨t,rfl⟩:=rx
 obtain ⟨t',rfl⟩:=ry
 exact rule i j t t' s _ _ hc ⟨.int (g i j),H,I.tok _,⟨_,rfl⟩,q⟩
theorem yR {f:Value→Value→Sem Value} {g:Int→Int→Int}
  (rule:∀ (i j:Int) (t u:Tok) (s:Shared) (Q:Value→Shared→Prop) (E:Value→Shared→Prop),Q (.int (g i j) s.toks) { s with toks:=s.toks + 1 }→wpAny (model X.prog X.w) X.A (f (.int i t) (.int j u)) Q E s) :
  jU X f (uZ fun i j=>.int (g i j)):=by
 intro pins s σ H x y v u Q I rx ry h
 obtain ⟨i,j,rfl,rfl,q⟩:=h
 obtain ⟨t,rfl⟩:=rx
 obtain ⟨t',rfl⟩:=ry
 exact rule i j t t' s _ _ ⟨.int (g i j),H,I.tok _,⟨_,rfl⟩,q⟩
theorem yT {f:Value→Value→Sem Value} {g:Int→Int→Bool}
  (rule:∀ (i j:Int) (t u:Tok) (s:Shared) (Q:Value→Shared→Prop) (E:Value→Shared→Prop),Q (.bool (g i j)) s→wpAny (model X.prog X.w) X.A (f (.int i t) (.int j u)) Q E s) :
  jU X f (uZ fun i j=>.bl (g i j)):=by
 intro pins s σ H x y v u Q I rx ry h
 obtain ⟨i,j,rfl,rfl,q⟩:=h
 obtain ⟨t,rfl⟩:=rx
 obtain ⟨t',rfl⟩:=ry
 exact rule i j t t' s _ _ ⟨.bl (g i j),H,I,rfl,q⟩
def Nv (i j:Int):Prop:=0 < j∧j < 1073741824
def Iz (i j:Int):Prop:=j≠0∧j.natAbs < 1073741824
def Gh (i j:Int):Prop:=0≤j∧j≤1000000∧i.natAbs < 2 ^ 64
def Nu (i j:Int):Prop:=(-(2 ^ 64) < i∧i < 2 ^ 64)∨(-(2 ^ 64) < j∧j < 2 ^ 64)
theorem cA:jU X (binaryOp .Add) (uZ fun i j=>.int (i + j)):=yR fun _ _ _ _ _ _ _ q=>add_int q
theorem d5:jU X (binaryOp .Sub) (uZ fun i j=>.int (i - j)):=yR fun _ _ _ _ _ _ _ q=>sub_int q
theorem bT:jU X (binaryOp .Mod) (rI (fun _ j=>0 < j) fun i j=>.int (i % j)):=yS fun i j _ _ _ _ _ hc q=>by
 have h1:(0:Int) < j:=hc
 exact mod_int' (by omega) (by rw [Int.fmod_eq_emod_of_nonneg i (by omega)]; exact q)
theorem i6:jU X (binaryOp .Pow) (rI Gh fun i j=>.int (i ^ j.toNat)):=yS fun _ _ _ _ _ _ _ hc q=>pow_int_small hc.1 hc.2.1 hc.2.2 q
theorem IG {f:Value→Sem Value} {g:Int→Int}
  (rule:∀ (i:Int) (t:Tok) (s:Shared) (Q:Value→Shared→Prop) (E:Value→Shared→Prop),Q (.int (g i) s.toks) { s with toks:=s.toks + 1 }→wpAny (model X.prog X.w) X.A (f (.int i t)) Q E s) :
  F4 X f (rU fun i=>.int (g i)):=by
 intro pins s σ H x v Q I rx h
 obtain ⟨i,rfl,q⟩:=h
 obtain ⟨t,rfl⟩:=rx
 exact rule i t s _ _ ⟨.int (g i),H,I.tok _,⟨_,rfl⟩,q⟩
theorem p5:F4 X (unaryOp .USub) (rU fun i=>.int (-i)):=IG fun _ _ _ _ _ q=>neg_int q
end
def yG:V→V→Bool
 | .df,.df=>true | .df,.int _=>true | .int _,.df=>true | .df,.bl _=>true | .bl _,.df=>true | .df,.str _=>true | .str _,.df=>true
 | .int _,.int _=>true | .bl _,.bl _=>true | .str _,.str _=>true | .nT _,.nT _=>true
 | .int _,.str _=>true | .str _,.int _=>true | .bl _,.str _=>true | .str _,.bl _=>true
 | _,_=>false
def GQ:R2:=fun x y H Q=>yG x y = true∧Q (.bl (decide (x = y))) H
def GN:R2:=fun x y H Q=>yG x y = true∧Q (.bl (!decide (x = y))) H
theorem gw {i j:Int}:decide (V.int i = V.int j) = (i == j):=by
 rw [Bool.eq_iff_iff]
 simp
theorem su {i j:Bool}:decide (V.bl i = V.bl j) = (i == j):=by
 rw [Bool.eq_iff_iff]
 simp
theorem oO {i j:Str}:decide (V.str i = V.str j) = (i == j):=by
 rw [Bool.eq_iff_iff]
 simp
theorem oP {i j:Array UInt8}:decide (V.nT i = V.nT j) = (i.toList == j.toList):=by
 rw [Bool.eq_iff_iff]
 cases i
 cases j
 simp
section
variable {X:Cx} {a b c:Expr} {ta tb tc:TE} {pos:Pos}
theorem aP {pins:List (Addr×Obj)} {σ : St} {H:Hp} {s:Shared} {Q:VK} {k k':Bool} (I:Inv X pins σ H s) (q:Q (.bl k) H) (e:k = k'):EP X pins σ Q (.bool k') s:=by
 subst e
 exact ⟨.bl k,H,I,rfl,q⟩
theorem ip:jU X (compareOp .Eq) GQ:=by
 intro pins s σ H x y v u Q I rx ry h
 obtain ⟨hs,q⟩:=h
 cases x with
 | df=>
  cases rx
  cases y with
  | df=>cases ry; exact PySem.EqNone.eq_none_none (aP I q (by simp))
  | bl j=>cases ry; exact PySem.EqNone.eq_none_bool (aP I q (by simp))
  | int j=>obtain ⟨t',rfl⟩:=ry; exact PySem.EqNone.eq_none_int (aP I q (by simp))
  | str j=>obtain ⟨t',rfl⟩:=ry; exact PySem.EqNone.eq_none_str (aP I q (by simp))
  | _=>exact absurd (show false = true from hs) Bool.false_ne_true
 | bl i=>
  cases rx
  cases y with
  | df=>cases ry; exact PySem.EqNone.eq_bool_none (aP I q (by simp))
  | bl j=>cases ry; exact eq_bool (aP I q su)
  | str j=>obtain ⟨t',rfl⟩:=ry; exact PySem.EqMixed.eq_bool_str (aP I q (by simp))
  | _=>exact absurd (show false = true from hs) Bool.false_ne_true
 | int i=>
  obtain ⟨t,rfl⟩:=rx
  cases y with
  | df=>cases ry; exact PySem.EqNone.eq_int_none (aP I q (by simp))
  | int j=>obtain ⟨t',rfl⟩:=ry; exact eq_int (aP I q gw)
  | str j=>obtain ⟨t',rfl⟩:=ry; exact PySem.EqMixed.eq_int_str (aP I q (by simp))
  | _=>exact absurd (show false = true from hs) Bool.false_ne_true
 | str i=>
  obtain ⟨t,rfl⟩:=rx
  cases y with
  | df=>cases ry; exact PySem.EqNone.eq_str_none (aP I q (by simp))
  | bl j=>cases ry; exact PySem.EqMixed.eq_str_bool (aP I q (by simp))
  | int j=>obtain ⟨t',rfl⟩:=ry; exact PySem.EqMixed.eq_str_int (aP I q (by simp))
  | str j=>obtain ⟨t',rfl⟩:=ry; exact eq_str (aP I q oO)
  | _=>exact absurd (show false = true from hs) Bool.false_ne_true
 | nT i=>
  obtain ⟨t,rfl⟩:=rx
  cases y with
  | nT j=>obtain ⟨t',rfl⟩:=ry; exact PySem.W.eq_bytes (aP I q oP)
  | _=>exact absurd (show false = true from hs) Bool.false_ne_true
 | _=>cases y <;> exact absurd (show false = true from hs) Bool.false_ne_true
theorem me:jU X (compareOp .NotEq) GN:=by
 intro pins s σ H x y v u Q I rx ry h
 obtain ⟨hs,q⟩:=h
 cases x with
 | df=>
  cases rx
  cases y with
  | df=>cases ry; exact PySem.EqNone.ne_none_none (aP I q (by simp))
  | bl j=>cases ry; exact PySem.EqNone.ne_none_bool (aP I q (by simp))
  | int j=>obtain ⟨t',rfl⟩:=ry; exact PySem.EqNone.ne_none_int (aP I q (by simp))
  | str j=>obtain ⟨t',rfl⟩:=ry; exact PySem.EqNone.ne_none_str (aP I q (by simp))
  | _=>exact absurd (show false = true from hs) Bool.false_ne_true
 | bl i=>
  cases rx
  cases y with
  | df=>cases ry; exact PySem.EqNone.ne_bool_none (aP I q (by simp))
  | bl j=>cases ry; exact ne_bool (aP I q (congrArg not su))
  | str j=>obtain ⟨t',rfl⟩:=ry; exact PySem.EqMixed.ne_bool_str (aP I q (by simp))
  | _=>exact absurd (show false = true from hs) Bool.false_ne_true
 | int i=>
  obtain ⟨t,rfl⟩:=rx
  cases y with
  | df=>cases ry; exact PySem.EqNone.ne_int_none (aP I q (by simp))
  | int j=>obtain ⟨t',rfl⟩:=ry; exact ne_int (aP I q (congrArg not gw))
  | str j=>obtain ⟨t',rfl⟩:=ry; exact PySem.EqMixed.ne_int_str (aP I q (by simp))
  | _=>exact absurd (show false = true from hs) Bool.false_ne_true
 | str i=>
  obtain ⟨t,rfl⟩:=rx
  cases y with
  | df=>cases ry; exact PySem.EqNone.ne_str_none (aP I q (by simp))
  | bl j=>cases ry; exact PySem.EqMixed.ne_str_bool (aP I q (by simp))
  | int j=>obtain ⟨t',rfl⟩:=ry; exact PySem.EqMixed.ne_str_int (aP I q (by simp))
  | str j=>obtain ⟨t',rfl⟩:=ry; exact ne_str (aP I q (congrArg not oO))
  | _=>exact absurd (show false = true from hs) Bool.false_ne_true
 | nT i=>
  obtain ⟨t,rfl⟩:=rx
  cases y with
  | nT j=>obtain ⟨t',rfl⟩:=ry; exact PySem.W.ne_bytes (aP I q (congrArg not oP))
  | _=>exact absurd (show false = true from hs) Bool.false_ne_true
 | _=>cases y <;> exact absurd (show false = true from hs) Bool.false_ne_true
theorem mf:jU X (compareOp .Lt) (uZ fun i j=>.bl (decide (i < j))):=yT fun _ _ _ _ _ _ _ q=>lt_int q
theorem mh:jU X (compareOp .Gt) (uZ fun i j=>.bl (decide (j < i))):=yT fun _ _ _ _ _ _ _ q=>gt_int q
def isObj:HO→Bool
 | .lst _=>true
 | .ins _ _ _=>true
 | _=>false
theorem aU (b:Expr) {op:CmpOp} (h:op≠.In:=by decide) (h2:op≠.NotIn:=by decide):behindInMarks op b = false:=by
 have e1:(op == CmpOp.In) = false:=by cases op <;> first | rfl | exact absurd rfl h
 have e2:(op == CmpOp.NotIn) = false:=by cases op <;> first | rfl | exact absurd rfl h2
 cases b <;> simp [behindInMarks,e1,e2]
theorem iM {op:CmpOp} {r:R2} (ho:jU X (compareOp op) r) (ha:PE X a ta) (hb:PE X b tb) (hm:behindInMarks op b = false):PE X (.Compare a [op] [b] pos) (xU r ta tb):=by
 intro pins s σ H Q I h
 exact wpAny_Compare1 (xN ha hb I h fun v u s2 x y H2 I2 rx ry q=>ho pins s2 σ H2 x y v u Q I2 rx ry q) hm
def uN (t:TE):TT:=fun σ H Q=>t σ H fun x H'=>∃ k,x = .bl k∧Q k H'
theorem aN {op:CmpOp} {r:R2} (ho:jU X (compareOp op) r) (ha:PE X a ta) (hb:PE X b tb) (hm:behindInMarks op b = false):PT X (.Compare a [op] [b] pos) (uN (xU r ta tb)):=by
 intro pins s σ H Q I h
 refine wpAny_isTrue_Compare1 (cT (ha pins s σ H _ I h) fun v s1 ⟨x,H1,I1,r1,q1⟩=>cT (hb pins s1 σ H1 _ I1 q1) fun u s2 ⟨y,H2,I2,r2,q2⟩=>
  cT (ho pins s2 σ H2 x y v u _ I2 r1 r2 q2) fun c s3 ⟨z,H3,I3,r3,k,e,q3⟩=>?_) hm
 subst e
 cases r3
 exact wpAny_truthy_bool ⟨H3,I3,q3⟩
def BK (r r':R2) (ta tb tc:TE):TE:=fun σ H Q=>ta σ H fun x H1=>tb σ H1 fun y H2=>r x y H2 fun z H3=>∃ k,z = .bl k∧
 (if k = true then tc σ H3 fun w' H4=>r' y w' H4 Q else Q (.bl false) H3)
def F5 (K:PySem.W.Frag) (x:V) (H:Hp) (k:Bool):Prop:=
 match x with
 | .df=>k = false
 | .bl b=>k = b
 | .int i=>k = (i != 0)
 | .str y=>y.length≤sizeLine∧k = ((y.length:Int) != 0)
 | .nT y=>y.size≤sizeLine∧k = ((y.size:Int) != 0)
 | .ref p=>(∃ xs,aB K H p xs∧k = !xs.isEmpty)∨(∃ xs,SqT K H p xs∧k = !xs.isEmpty)∨∃ bE,H p = some (.dK bE)∧k = !bE.isEmpty
 | _=>False
theorem nI {κ : Type} {bE:List (κ×V)} {vs:List (κ×Value)} (r:KV bE vs):(!vs.isEmpty) = !bE.isEmpty:=by
 cases r <;> rfl
theorem jg {xs:List V} {aY:List Value} (r:Vals xs aY):(!aY.toArray.isEmpty) = !xs.isEmpty:=by
 cases r <;> simp
theorem jf:(sizeLine:Nat) < 2 ^ 63:=by rw [sizeLine_eq]; decide
theorem BB:F6 X (fun x H Q=>∃ k,F5 X.K x H k∧Q k H):=by
 intro pins s σ H x v Q I rx h
 obtain ⟨k,e,q⟩:=h
 have hl:=jf
 have hs:sizeLine = 16777216:=sizeLine_eq
 cases x with
 | df=>
  cases rx
  have e':k = false:=e
  subst e'
  exact truthy_none ⟨H,I,q⟩
 | bl b=>
  cases rx
  have e':k = b:=e
  subst e'
  exact wpAny_truthy_bool ⟨H,I,q⟩
 | int i=>
  obtain ⟨t,rfl⟩:=rx
  have e':k = (i != 0):=e
  subst e'
  exact PySem.P.truthy_int ⟨H,I,q⟩
 | str y=>
  obtain ⟨t,rfl⟩:=rx
  obtain ⟨hy,e'⟩:y.length≤sizeLine∧k = ((y.length:Int) != 0):=e
  subst e'
  exact PySem.P.truthy_str (by omega) ⟨H,I.tok _,q⟩
 | nT y=>
  obtain ⟨t,rfl⟩:=rx
  obtain ⟨hy,e'⟩:y.size≤sizeLine∧k = ((y.size:Int) != 0):=e
  subst e'
  exact PySem.W.truthy_bytes (by omega) ⟨H,I.tok _,q⟩
 | ref p=>
  cases rx
  have e':(∃ xs,aB X.K H p xs∧k = !xs.isEmpty)∨(∃ xs,SqT X.K H p xs∧k = !xs.isEmpty)∨∃ bE,H p = some (.dK bE)∧k = !bE.isEmpty:=e
  rcases e' with ⟨xs,hx,e'⟩ | ⟨xs,hx,e'⟩ | ⟨bE,hx,e'⟩
  ·subst e'
   obtain ⟨aY,r,pl,hz⟩:=I.list hx
   have hlen:=r.length
   exact wpAny_truthy_list pl.isList (by simp only [List.size_toArray]; omega) ⟨H,I.tok _,by rw [jg r]; exact q⟩
  ·subst e'
   obtain ⟨aY,r,pl,hz⟩:=I.tuple hx
   have hlen:=r.length
   exact truthy_tuple pl (by simp only [List.size_toArray]; omega) ⟨H,I.tok _,by rw [jg r]; exact q⟩
  ·subst e'
   obtain ⟨hz,hS,vs,r,m⟩:bE.length≤sizeLine∧(p == sysModules) = false∧∃ vs,KV bE vs∧s.heap.DictOf (lh X.prog X.w) p vs:=I.bJ p _ hx
   have hlen:bE.length = vs.length:=Paired.length r
   exact wpAny_truthy_dict hS m (by omega) ⟨H,I.tok _,by rw [nI r]; exact q⟩
 | _=>exact (show False from e).elim
def Al (b:Expr):Prop:=∀ o i,subscripted b false o i = operate [o,i] (getItem o i)
theorem vals1 {x:V} {us:List Value} (r:Vals [x] us):∃ u,us = [u]∧RelV x u:=by
 cases r with
 | cons r1 r2=>cases r2; exact ⟨_,rfl,r1⟩
theorem vals2 {x y:V} {us:List Value} (r:Vals [x,y] us):∃ u w',us = [u,w']∧RelV x u∧RelV y w':=by
 cases r with
 | cons r1 r2=>
  cases r2 with
  | cons r3 r4=>cases r4; exact ⟨_,_,rfl,r1,r3⟩
theorem gD:fF X (.builtin "abs") (fun xs H Q=>∃ i,xs = [.int i]∧Q (.int (if i < 0 then -i else i)) H):=by
 intro pins s σ H xs us Q I r h
 obtain ⟨i,rfl,q⟩:=h
 obtain ⟨u,rfl,t,rfl⟩:=vals1 r
 exact call_abs_int fun u tk=>⟨.int (if i < 0 then -i else i),H,I.tok _,⟨_,rfl⟩,q⟩
theorem pJ (hc:X.calm = true):fF X (.builtin "min") (fun xs H Q=>∃ i j,xs = [.int i,.int j]∧Q (.int (if j < i then j else i)) H):=by
 intro pins s σ H xs us Q I r h
 obtain ⟨i,j,rfl,q⟩:=h
 obtain ⟨u,w',rfl,⟨t,rfl⟩,⟨t',rfl⟩⟩:=vals2 r
 refine min_two_ints (I.ok.hd hc) fun h' tk k=>⟨_,H,I.kept k,?_,q⟩
 by_cases hj:j < i
 ·rw [if_pos hj,if_pos hj]; exact ⟨_,rfl⟩
 ·rw [if_neg hj,if_neg hj]; exact ⟨_,rfl⟩
def Ga (K:PySem.W.Frag) (x:V) (H:Hp) (n:Nat):Prop:=
 match x with
 | .str y=>y.length≤sizeLine∧n = y.length
 | .nT y=>y.size≤sizeLine∧n = y.size
 | .ref p=>(∃ xs,aB K H p xs∧n = xs.length)∨∃ xs,SqT K H p xs∧n = xs.length
 | _=>False
theorem cq:fF X (.builtin "len") (fun xs H Q=>∃ x n,xs = [x]∧Ga X.K x H n∧Q (.int n) H):=by
 intro pins s σ H xs us Q I r h
 obtain ⟨x,n,rfl,e,q⟩:=h
 obtain ⟨u,rfl,rx⟩:=vals1 r
 have hl:=jf
 have hs:sizeLine = 16777216:=sizeLine_eq
 cases x with
 | str y=>
  obtain ⟨t,rfl⟩:=rx
  obtain ⟨hy,e'⟩:y.length≤sizeLine∧n = y.length:=e
  subst e'
  exact len_str (by omega) ⟨.int _,H,I.tok _,⟨_,rfl⟩,q⟩
 | nT y=>
  obtain ⟨t,rfl⟩:=rx
  obtain ⟨hy,e'⟩:y.size≤sizeLine∧n = y.size:=e
  subst e'
  exact PySem.W.len_bytes (by omega) ⟨.int _,H,I.tok _,⟨_,rfl⟩,q⟩
 | ref p=>
  cases rx
  have e':(∃ xs,aB X.K H p xs∧n = xs.length)∨∃ xs,SqT X.K H p xs∧n = xs.length:=e
  rcases e' with ⟨xs,hx,e'⟩ | ⟨xs,hx,e'⟩
  ·subst e'
   obtain ⟨aY,r',pl,hz⟩:=I.list hx
   have hlen:=r'.length
   exact Calls.call_len_list pl.isList (by simp only [List.size_toArray]; omega) ⟨.int xs.length,H,I.tok _,⟨_,by simp only [List.size_toArray]; rw [hlen]⟩,q⟩
  ·subst e'
   obtain ⟨aY,r',pl,hz⟩:=I.tuple hx
   have hlen:=r'.length
   exact len_tuple pl (by simp only [List.size_toArray]; omega) ⟨.int xs.length,H,I.tok _,⟨_,by simp only [List.size_toArray]; rw [hlen]⟩,q⟩
 | _=>exact (show False from e).elim
end
end L2
namespace L2
open PySem PySem.Spec PyProof.Rows
structure xR (h:Heap) (x dx C:Addr) (mA:Str→Option Value):Prop where
 obj:h.get? x = some (PySem.W.instObj C dx)
 ns:h.Ns1 dx mA
 ne:dx≠x
theorem ph {h:Heap} {dx:Addr} {mA:Str→Option Value} (n:h.Ns1 dx mA):∃ od,h.get? dx = some od∧∀ name,PySem.W.lookIn name od = some (mA name):=by
 obtain ⟨o,es,ep,ho,hd,hk,_,hm⟩:=n
 refine ⟨o,ho,fun name=>?_⟩
 have e:=hm name
 unfold nsFind findBy at e
 rw [← Array.find?_toList] at e
 unfold PySem.W.lookIn
 rw [hd]
 dsimp only
 split
 ·rename_i y q
  rw [q] at e
  exact congrArg some e
 ·rename_i q
  rw [q] at e
  have a:es.toList.any (·.refKey) = false:=by
   rw [List.any_eq_false]
   intro y hy
   obtain ⟨z,t,Es⟩:=hk y (Array.mem_toList_iff.mp hy)
   simp [DictEntry.refKey,Es]
  have a':¬ es.toList.any (·.refKey) = true:=by rw [a]; exact Bool.false_ne_true
  rw [if_neg a']
  exact congrArg some e
theorem xR.look {h:Heap} {x dx C:Addr} {mA:Str→Option Value} (I:xR h x dx C mA):∃ od,PySem.W.InstAt h x (PySem.W.instObj C dx) C (some od)∧∀ name,PySem.W.lookIn name od = some (mA name):=
 let ⟨od,ho,hl⟩:=ph I.ns
 ⟨od,⟨I.obj,rfl,rfl,ho⟩,hl⟩
def wm (f:Str) (v:V):List (Str×V)→List (Str×V)
 | []=>[(f,v)]
 | (g,x) :: r=>if g = f then (g,v) :: r else (g,x) :: wm f v r
section
variable {P:Program} {w:World} {H H':Hp} {h h':Heap} {a C dx:Addr} {fs pD:List (Str×V)}
theorem t8 (bJ:fT P w H h) (e:H a = some (.ins C dx fs)):∃ mA,xR h a dx C mA∧(∀ f,xP (fs.lookup f) (mA f))∧PySem.Within mA (fs.map (·.1))∧fs.length≤1000∧H dx = some (.own a):=by
 obtain ⟨d,z,ne,ob,mA,n,r,q⟩:=(show bW P w H h a (.ins C dx fs) from bJ a _ e)
 exact ⟨mA,⟨ob,n,ne⟩,r,q,z,d⟩
end
structure xT (K:PySem.W.Frag) (C:Addr):Prop where
 pg:PySem.W.plainGet K C Str.empty = true
 hd:PySem.W.hasDictIn K C = true
 po:PySem.W.plainOver K C = true
 sa:PySem.W.findIn K (.ref C) "__setattr__" = some (some (.builtin "object.__setattr__"))
theorem xT.get {K:PySem.W.Frag} {C:Addr} (c:xT K C) (f:Str):PySem.W.plainGet K C f = true:=c.pg
def nW (K:PySem.W.Frag) (C:Addr) (f:Str):Prop:=PySem.W.findIn K (.ref C) f = some none
structure Nt (K:PySem.W.Frag) (C:Addr) (f:Str) (v:V) (u:Value):Prop where
 at_:PySem.W.findIn K (.ref C) f = some (some u)
 rel:RelV v u
 get:PySem.W.specialIn K u "__get__" = some none
 cp:PySem.W.copiedNames.contains f = false
structure Meth (K:PySem.W.Frag) (C:Addr) (m:Str) (f:Addr):Prop where
 at_:PySem.W.findIn K (.ref C) m = some (some (.ref f))
 fn:PySem.W.isFn K (.ref f) = true
 kp:PySem.W.keepIn K (.ref f) = true
def IW (K:PySem.W.Frag) (ta:TE) (f:Str):TE:=fun σ H Q=>ta σ H fun x H1=>∃ a C dx fs v,x = .ref a∧H1 a = some (.ins C dx fs)∧xT K C∧nW K C f∧fs.lookup f = some v∧Q v H1
def IZ (K:PySem.W.Frag) (ta:TE) (f:Str):TE:=fun σ H Q=>ta σ H fun x H1=>∃ a C dx fs v u,x = .ref a∧H1 a = some (.ins C dx fs)∧xT K C∧Nt K C f v u∧fs.lookup f = none∧Q v H1
def Jp (K:PySem.W.Frag) (ta tv:TE) (f:Str):TS:=fun D σ H=>tv σ H fun y H1=>ta σ H1 fun x H2=>∃ a C dx fs,x = .ref a∧H2 a = some (.ins C dx fs)∧xT K C∧nW K C f∧fs.length < 1000∧
 D.nx σ (upd H2 a (.ins C dx (wm f y fs)))
def M3 (X:Cx) (op:Operator) (rd:V→V→Hp→VK→Prop):Prop:=
 ∀ (pins:List (Addr×Obj)) (s:Shared) (σ : St) (H:Hp) (x y:V) (u v:Value) (Q:VK),Inv X pins σ H s→RelV x u→RelV y v→rd x y H Q→wpAny (model X.prog X.w) X.A (inplaceOp op u v) (EP X pins σ Q) X.xe s
def AB (K:PySem.W.Frag) (ta tv:TE) (rd:V→V→Hp→VK→Prop) (f:Str):TS:=fun D σ H=>ta σ H fun x H1=>∃ a C dx fs v,x = .ref a∧H1 a = some (.ins C dx fs)∧xT K C∧nW K C f∧fs.lookup f = some v∧
 tv σ H1 fun y H2=>rd v y H2 fun z H3=>∃ HY pD,H3 a = some (.ins C HY pD)∧pD.length < 1000∧D.nx σ (upd H3 a (.ins C HY (wm f z pD)))
section
variable {X:Cx} {o e value:Expr} {f:Str} {pos pos' IJ:Pos} {ta tv:TE}
def JH:V→V→Hp→VK→Prop:=fun x y H Q=>∃ i j,x = .int i∧y = .int j∧Q (.int (i + j)) H
def Jw:V→V→Hp→VK→Prop:=fun x y H Q=>∃ i j,x = .int i∧y = .int j∧Q (.int (i - j)) H
end
section
variable {X:Cx} {pins:List (Addr×Obj)} {σ : St} {H:Hp} {s:Shared} {A:Around} {E:Value→Shared→Prop} {Q:Value→Shared→Prop} {c:Value} {b:Bool}
inductive gF (K:PySem.W.Frag) (H:Hp):V→Value→Prop where
 | df:gF K H .df (.type "NoneType")
 | bl (x:Bool):gF K H (.bl x) (.type "bool")
 | int (i:Int):gF K H (.int i) (.type "int")
 | str (x:Str):gF K H (.str x) (.type "str")
 | nP (x:UInt64):gF K H (.nP x) (.type "float")
 | lst {a:Addr} {xs:List V} (e:H a = some (.lst xs)):gF K H (.ref a) (.type "list")
 | lN {a:Addr} {o:Obj} {xs:List V} (e:H a = some (.lN o (.lst xs))):gF K H (.ref a) (.type "list")
 | tup {a:Addr} {xs:List V} (e:H a = some (.tup xs)):gF K H (.ref a) (.type "tuple")
 | dK {a:Addr} {bE:List (Key×V)} (e:H a = some (.dK bE)):gF K H (.ref a) (.type "dict")
 | dT {a:Addr} {bE:List (List Key×V)} (e:H a = some (.dT bE)):gF K H (.ref a) (.type "dict")
 | ins {a C dx:Addr} {fs:List (Str×V)} (e:H a = some (.ins C dx fs)) (cl:xT K C) (ha:PySem.W.findIn K (.ref C) "__class__" = some (some (.builtin "object.__class__")))
   (hn:PySem.W.specialIn K (.builtin "object.__class__") "__get__" = some (some (.builtin "getset_descriptor.__get__"))) (AW:PySem.W.takesIn K (.builtin "object.__class__") = some true)
   (hm:PySem.W.mroIn K C (.type "object") = some true):gF K H (.ref a) (.ref C)
theorem pj {x:V} {u t:Value} (I:Inv X pins σ H s) (rx:RelV x u) (ty:gF X.K H x t) (e:PySem.W.kitOne X.K t c = some b) (h:∀ tk,Q (.bool b) { s with toks:=tk }) :
  wpAny (model X.prog X.w) A (call (.builtin "isinstance") [u,c]) Q E s:=by
 cases ty with
 | df=>cases (show u = Value.none from rx); exact PySem.W.kia_one PySem.W.kitx_none I.jO True.intro e (fun z=>nomatch z) h
 | bl y=>cases (show u = Value.bool y from rx); exact PySem.W.kia_one PySem.W.kitx_bool I.jO True.intro e (fun z=>nomatch z) h
 | int i=>obtain ⟨t,q⟩:=(show ∃ t,u = Value.int i t from rx); cases q; exact PySem.W.kia_one PySem.W.kitx_int I.jO True.intro e (fun z=>nomatch z) h
 | str y=>obtain ⟨t,q⟩:=(show ∃ t,u = Value.str y t from rx); cases q; exact PySem.W.kia_one PySem.W.kitx_str I.jO True.intro e (fun z=>nomatch z) h
 | nP y=>obtain ⟨t,q⟩:=(show ∃ t,u = Value.float y t from rx); cases q; exact PySem.W.kia_one PySem.W.kitx_float I.jO True.intro e (fun z=>nomatch z) h
 | @lst a xs ea=>
  cases (show u = Value.ref a from rx)
  obtain ⟨_,_,n,_,h1⟩:=(show bW X.prog X.w H s.heap a (.lst xs) from I.bJ a _ ea)
  exact PySem.W.kia_one PySem.W.kitx_list I.jO ⟨_,h1,rfl⟩ e (fun z=>nomatch z) h
 | @lN a ob xs ea=>
  cases (show u = Value.ref a from rx)
  obtain ⟨_,_,_,n,_,h1⟩:=(show bW X.prog X.w H s.heap a (.lN ob (.lst xs)) from I.bJ a _ ea)
  exact PySem.W.kia_one PySem.W.kitx_list I.jO ⟨_,h1,rfl⟩ e (fun z=>nomatch z) h
 | @tup a xs ea=>
  cases (show u = Value.ref a from rx)
  obtain ⟨_,_,_,p⟩:=(show bW X.prog X.w H s.heap a (.tup xs) from I.bJ a _ ea)
  obtain ⟨o,h1,h2,_⟩:=p
  exact PySem.W.kia_one PySem.W.kitx_tuple I.jO ⟨o,h1,h2⟩ e (fun z=>nomatch z) h
 | @dK a bE ea=>
  cases (show u = Value.ref a from rx)
  obtain ⟨_,_,vs,_,p⟩:=(show bW X.prog X.w H s.heap a (.dK bE) from I.bJ a _ ea)
  obtain ⟨o,es,ep,h1,h2,_⟩:=p
  exact PySem.W.kia_one PySem.W.kitx_dict I.jO ⟨o,h1,h2.1⟩ e (fun z=>nomatch z) h
 | @dT a bE ea=>
  cases (show u = Value.ref a from rx)
  obtain ⟨_,_,xs,_,o,es,ep,h1,h2,_⟩:=(show bW X.prog X.w H s.heap a (.dT bE) from I.bJ a _ ea)
  exact PySem.W.kia_one PySem.W.kitx_dict I.jO ⟨o,h1,h2.1⟩ e (fun z=>nomatch z) h
 | @ins a C dx fs ea cl ha hn AW hm=>
  cases (show u = Value.ref a from rx)
  obtain ⟨mA,O,_⟩:=t8 I.bJ ea
  obtain ⟨od,J,_⟩:=O.look
  exact PySem.W.kia_one (PySem.W.kitx_own (cl.get _) cl.hd ha hn AW hm) I.jO J e (fun z=>nomatch z) h
end
end L2
namespace L2
open PySem PySem.Spec PyProof.Rows
structure dQ (k:Nat) (A:Around):Prop where
 hd:A.handled = none
 dp:A.depth + 3 * k + 5 < recursionLimit
 un:A.units + 16 * k + 200 < cLine
theorem dQ.mono {j k:Nat} {A:Around} (r:dQ k A) (h:j≤k):dQ j A:=⟨r.hd,by have:=r.dp; omega,by have:=r.un; omega⟩
theorem dQ.deeper {k:Nat} {A:Around} (r:dQ (k + 1) A) (env:Env):dQ k (A.deeper env):=
 ⟨r.hd,by have:=r.dp; show A.depth + 1 + 3 * k + 5 < _; omega,by have:=r.un; show A.units + 3 + 16 * k + 200 < _; omega⟩
theorem dQ.depth {k:Nat} {A:Around} (r:dQ k A):A.depth < recursionLimit:=by have:=r.dp; omega
theorem dQ.units {k:Nat} {A:Around} (r:dQ k A):A.units + 64 < cLine:=by have:=r.un; omega
def vM:TA:=fun _ H Q=>Q [] H
def qg (ta:TE) (tr:TA):TA:=fun σ H Q=>ta σ H fun x H1=>tr σ H1 fun xs H2=>Q (x :: xs) H2
section
variable {X:Cx} {e:Expr} {es:List Expr} {te:TE} {t:TA} {pos:Pos}
theorem ag:PA X [] vM:=fun _ _ _ _ H Q I h=>Calls.spliced_nil ⟨[],H,I,.nil,h⟩
theorem aa (ha:PE X e te) (hr:PA X es t) (hs:starEach (e :: es) X.env = (false,eval e X.env) :: starEach es X.env:=by rfl):PA X (e :: es) (qg te t):=by
 intro pos pins s σ H Q I h
 rw [hs]
 show wpAny _ _ (spliced ((false,eval e X.env) :: backTo pos (starEach es X.env))) _ _ s
 refine Calls.spliced_cons (cT (ha pins s σ H _ I h) fun u s1 ⟨x,H1,I1,r1,q1⟩=>?_)
 exact cT (hr pos pins s1 σ H1 _ I1 q1) fun us s2 ⟨xs,H2,I2,r2,q2⟩=>⟨x :: xs,H2,I2,.cons r1 r2,q2⟩
def yq (t:TA):TE:=fun σ H Q=>t σ H fun xs H1=>xs.length≤sizeLine∧∀ p,H1 p = none→Q (.ref p) (upd H1 p (.tup xs))
def yv (t:TA):TE:=fun σ H Q=>t σ H fun xs H1=>xs.length≤sizeLine∧∀ p,H1 p = none→Q (.ref p) (upd H1 p (.lst xs))
theorem cR {x1} (h:PA X es t):PE X (.Tuple es x1 pos) (yq t):=by
 intro pins s σ H Q I hq
 refine wpAny_Tuple_spliced (cT (h pos pins s σ H _ I hq) fun us s1 ⟨xs,H1,I1,r,z,q⟩=>⟨by rw [← r.length]; exact z,?_⟩)
 have hf:H1 s1.heap.objs.size = none:=I1.bJ.fresh (Nat.le_refl _)
 refine ⟨.ref s1.heap.objs.size,upd H1 s1.heap.objs.size (.tup xs),I1.laid (t':=s1.toks) (fun b u e=>Heap.get?_push_of_some _ e) (Nat.le_refl _) ?_,rfl,q _ hf⟩
 exact ⟨z,us,r,⟨_,Heap.get?_push_size _ rfl,rfl,_,rfl⟩⟩
theorem eS (h:PA X es t):PE X (.List es pos) (yv t):=by
 intro pins s σ H Q I hq
 refine wpAny_List_spliced (cT (h pos pins s σ H _ I hq) fun us s1 ⟨xs,H1,I1,r,z,q⟩=>⟨by rw [← r.length]; exact z,?_⟩)
 have hf:H1 s1.heap.objs.size = none:=I1.bJ.fresh (Nat.le_refl _)
 refine ⟨.ref s1.heap.objs.size,upd H1 s1.heap.objs.size (.lst xs),I1.laid (t':=s1.toks) (fun b u e=>Heap.get?_push_of_some _ e) (Nat.le_refl _) ?_,rfl,q _ hf⟩
 exact ⟨z,us,0,r,Heap.get?_push_size _ rfl⟩
end
abbrev Sp:=List V→Hp→VK→XK→Prop
abbrev mV:=List Env→Hp→Shared→XK→Value→Shared→Prop
structure uL (P:Program) (w:World) (K:PySem.W.Frag) (mg:Str→Option Value) (base:Heap) (A:Around) (outer:List Env) (s:Shared) (H:Hp):Prop where
 frames:A.frames = some outer
 mod:Mod K mg base
 bs:∀ b o,base.get? b = some o→s.heap.get? b = some o∧H b = none
 uD:base.objs.size≤s.heap.objs.size
 hV:s.heap.FunFrames base outer
 xy:∀ b∈eC outer,H b = none
 bJ:fT P w H s.heap
 bare:AllBare s.gens
def CE (outer:List Env) (P:Program) (w:World) (H:Hp) (s:Shared) (Q:VK) (u:Value) (s':Shared):Prop:=
 ∃ v H',s'.os = s.os∧AllBare s'.gens∧Un (eC outer) [] H H' s.heap s'.heap∧fT P w H' s'.heap∧RelV v u∧Q v H'
def CR (CX:mV) (outer:List Env) (P:Program) (w:World) (H:Hp) (s:Shared) (Q:VK) (E:XK) (r:Result) (s':Shared):Prop:=
 match r with
 | .ok (.ret u)=>CE outer P w H s Q u s'
 | .ok _=>False
 | .error e=>CX outer H s E e s'
structure jY (P:Program) (w:World) (K:PySem.W.Frag) (mg:Str→Option Value) (base:Heap) (CX:mV) (k:Nat) (f:Addr) (fd:FuncData) (ps:List Str) (sp:Sp):Prop where
 len:∀ vs H Q E,sp vs H Q E→vs.length = ps.length
 run:∀ (A:Around) (outer:List Env) (s:Shared) (H:Hp) (args:Args) (us:List Value) (vs:List V) (Q:VK) (E:XK),dQ k A→uL P w K mg base A outer s H→BindsTo s fd args (ps.zip us)→Vals vs us→sp vs H Q E→
  codeAny (model P w) A (.call (.ref f) args) (CR CX outer P w H s Q E) s
section
variable {X:Cx} {pins:List (Addr×Obj)} {σ : St} {H:Hp} {s s':Shared}
theorem Inv.zJ (I:Inv X pins σ H s):uL X.prog X.w X.K X.mg X.base X.A X.stack s H:=
 ⟨I.ok.frames,I.ok.mod,I.bs,Nat.le_trans I.ok.uD I.sz,I.stack,I.iJ,I.bJ,I.bare⟩
theorem Inv.after {Q:VK} {u:Value} (I:Inv X pins σ H s) (h:CE X.stack X.prog X.w H s Q u s'):EP X pins σ Q u s':=by
 obtain ⟨v,H',os,bare,un,bJ,r,q⟩:=h
 obtain ⟨hh,g,d,t,J4⟩:=s'
 obtain rfl:J4 = s.os:=os
 exact ⟨v,H',I.call (h':=hh) (g':=g) (d':=d) (t':=t) (ch:=[]) un bJ bare (fun b z=>absurd z (by simp)),r,q⟩
end
def qh (sp:Sp) (pX:List V) (E:XK) (t:TA):TE:=fun σ H Q=>t σ H fun vs H1=>sp (vs ++ pX) H1 Q E
def Gw (C:Addr) (m:Str) (sp:Sp) (pX:List V) (E:XK) (ta:TE) (t:TA):TE:=fun σ H Q=>ta σ H fun x H1=>∃ a dx fs,x = .ref a∧H1 a = some (.ins C dx fs)∧fs.lookup m = none∧
 t σ H1 fun vs H2=>sp (x :: (vs ++ pX)) H2 Q E
def Gx (C:Addr) (sp:Sp) (pX:List V) (E:XK) (t:TA):TE:=fun σ H Q=>t σ H fun vs H1=>∀ x dx,H1 x = none→H1 dx = none→dx≠x→
 sp (.ref x :: (vs ++ pX)) (upd (upd H1 dx (.own x)) x (.ins C dx [])) (fun v H2=>v = .df∧Q (.ref x) H2) E
def Binds (K:PySem.W.Frag) (fd:FuncData) (ps:List Str) (ds:List Value):Prop:=
 ∀ (s:Shared) (us:List Value),K.In s.heap→(us ++ ds).length = ps.length→BindsTo s fd ⟨us,[]⟩ (ps.zip (us ++ ds))
theorem Binds.all {K:PySem.W.Frag} {fd:FuncData} {ps:List Str} (h:∀ us:List Value,us.length = ps.length→bindArgs fd ⟨us,[]⟩ = pure (ps.zip us)):Binds K fd ps []:=fun s us _ hl=>by
 rw [List.append_nil] at hl ⊢
 exact .of_eq (h us hl)
def Passes (CX:mV) (X:Cx) (E:XK):Prop:=∀ (pins:List (Addr×Obj)) (σ : St) (H:Hp) (s:Shared) (e:Value) (s':Shared),Inv X pins σ H s→CX X.stack H s E e s'→X.xe e s'
section
variable {X:Cx} {CX:mV} {k:Nat} {f C:Addr} {fd:FuncData} {ps:List Str} {sp:Sp} {pX:List V} {ds:List Value} {E:XK} {x m:Str} {p pos apos:Pos} {e o:Expr} {es:List Expr} {ta:TE} {t:TA}
theorem vU {pins:List (Addr×Obj)} {σ : St} {H:Hp} {s:Shared} {Q:VK} {us:List Value} {vs:List V} (F:jY X.prog X.w X.K X.mg X.base CX k f fd ps sp) (hr:dQ k X.A) (hb:Binds X.K fd ps ds) (hd:Vals pX ds) (hx:Passes CX X E)
  (I:Inv X pins σ H s) (r:Vals vs us) (h:sp (vs ++ pX) H Q E):wpAny (model X.prog X.w) X.A (call (.ref f) us) (EP X pins σ Q) X.xe s:=by
 have r2:Vals (vs ++ pX) (us ++ ds):=r.append hd
 have hl:(us ++ ds).length = ps.length:=by rw [← r2.length]; exact F.len _ _ _ _ h
 refine wpAny_call (codeAny_mono (F.run X.A X.stack s H ⟨us,[]⟩ (us ++ ds) (vs ++ pX) Q E hr I.zJ (hb s us I.jO hl) r2 h) fun r s' hq=>?_)
 cases r with
 | error e=>exact hx pins σ H s e s' I hq
 | ok fl=>
  cases fl with
  | ret u=>exact I.after hq
  | next=>exact False.elim hq
  | brk=>exact False.elim hq
  | cont=>exact False.elim hq
theorem tS (F:jY X.prog X.w X.K X.mg X.base CX k f fd ps sp) (hr:dQ k X.A) (hg:Gl X x) (hm:X.mg x = some (.ref f)) (hk:PySem.W.keepIn X.K (.ref f) = true) (hb:Binds X.K fd ps ds) (hd:Vals pX ds) (hx:Passes CX X E)
  (ha:PA X (e :: es) t) (lu:(x == ("__debug__" : Str)) = false:=by decide) (he:starEach (e :: es) X.env = (false,eval e X.env) :: starEach es X.env:=by rfl) (jF:(backTo pos (starEach es X.env)).any (·.1) = false:=by rfl) :
  PE X (.Call (.Name x p) (e :: es) [] pos) (qh sp pX E t):=by
 intro pins s σ H Q I h
 refine wpAny_Call_Name_kw (fe I hg hm ?_ lu)
 refine PySem.W.callWith_K (h₀:=X.base) I.ok.mod.yX hk (cT (ha pos pins s σ H _ I h) fun us s1 ⟨vs,H1,I1,r,q⟩=>⟨I1.jO,?_⟩) he jF
 exact vU F hr hb hd hx I1 r q
structure Mk (K:PySem.W.Frag) (C f:Addr):Prop where
 makes:PySem.W.makesIn K C = true
 init:PySem.W.findIn K (.ref C) "__init__" = some (some (.ref f))
 fn:PySem.W.isFn K (.ref f) = true
 kp:PySem.W.keepIn K (.ref C) = true
end
def PK (X:Cx) (Hc:List Keyword) (t:TA):Prop:=
 ∀ (pos:Pos) (pins:List (Addr×Obj)) (s:Shared) (σ : St) (H:Hp) (Q:List V→Hp→Prop),Inv X pins σ H s→t σ H Q→wpAny (model X.prog X.w) X.A (evalAll ((backToKw pos (keywordEach Hc X.env)).map (·.2))) (AP X pins σ Q) X.xe s
section
variable {X:Cx} {CX:mV} {k:Nat} {f C:Addr} {fd:FuncData} {ps ks:List Str} {sp:Sp} {E:XK} {x m:Str} {p pos apos KL:Pos} {e o:Expr} {es:List Expr} {Hc:List Keyword} {te ta:TE} {t tk:TA} {nm:Option Str}
structure Gb (K:PySem.W.Frag) (fd:FuncData) (ps ks:List Str) (g:List Value→List Value→List Value) (gV:List V→List V→List V):Prop where
 to:∀ (s:Shared) (us ws:List Value),K.In s.heap→(g us ws).length = ps.length→BindsTo s fd ⟨us,ks.zip ws⟩ (ps.zip (g us ws))
 rel:∀ {vs:List V} {us:List Value} {zs:List V} {ws:List Value},Vals vs us→Vals zs ws→Vals (gV vs zs) (g us ws)
def BL (sp:Sp) (gV:List V→List V→List V) (E:XK) (t tk:TA):TE:=fun σ H Q=>t σ H fun vs H1=>tk σ H1 fun zs H2=>sp (gV vs zs) H2 Q E
variable {g:List Value→List Value→List Value} {gV:List V→List V→List V}
end
structure aE (N P:List Str) (sc:Scope):Prop where
 kind:sc.kind = .function
 co:sc.isCoroutine = false
 gen:sc.isGenerator = false
 nd:N.Nodup
 pre:N.take P.length = P
 par:∀ x∈P,sc.names.lookup x = some .local∨sc.names.lookup x = some .cell
 wF:∀ y∈sc.names,y.2≠.free
theorem kh {kindOf:Str→Option NameKind} {x:Str}:∀ {binds:List (Str×Value)} {m:Str→Option Value},(∀ v,(x,v)∉binds)→bindL kindOf binds m x = m x
 | [],_,_=>rfl
 | (n,v) :: r,m,h=>by
  unfold bindL
  rw [kh fun w hw=>h w (List.mem_cons_of_mem _ hw)]
  split
  ·have:x≠n:=by rintro rfl; exact h v List.mem_cons_self
   simp [this]
  ·rfl
theorem kj {kindOf:Str→Option NameKind} {x:Str}:∀ {binds:List (Str×Value)} {m:Str→Option Value},(∀ v,(x,v)∉binds)→bindC kindOf binds m x = m x
 | [],_,_=>rfl
 | (n,v) :: r,m,h=>by
  unfold bindC
  rw [kj fun w hw=>h w (List.mem_cons_of_mem _ hw)]
  split
  ·rfl
  ·have:x≠n:=by rintro rfl; exact h v List.mem_cons_self
   simp [this]
theorem ki {kindOf:Str→Option NameKind} {x:Str} {v:Value}:∀ {P:List Str} {vs:List Value} {i:Nat} {m:Str→Option Value},P.Nodup→P[i]? = some x→vs[i]? = some v→kindOf x = some .local→
  bindL kindOf (P.zip vs) m x = some v
 | [],_,_,_,_,h,_,_=>by simp at h
 | _ :: _,[],_,_,_,_,h,_=>by simp at h
 | p :: P,w :: vs,0,m,nd,h1,h2,hk=>by
  simp at h1 h2; subst h1; subst h2
  show bindL kindOf ((p,w) :: P.zip vs) m p = _
  unfold bindL
  rw [kh fun v hv=>(List.nodup_cons.mp nd).1 (List.of_mem_zip hv).1,if_pos hk]
  simp
 | p :: P,w :: vs,i + 1,m,nd,h1,h2,hk=>by
  show bindL kindOf ((p,w) :: P.zip vs) m x = _
  unfold bindL
  exact ki (i:=i) (List.nodup_cons.mp nd).2 (by simpa using h1) (by simpa using h2) hk
theorem km {kindOf:Str→Option NameKind} {x:Str} {v:Value}:∀ {P:List Str} {vs:List Value} {i:Nat} {m:Str→Option Value},P.Nodup→P[i]? = some x→vs[i]? = some v→kindOf x≠some .local→
  bindC kindOf (P.zip vs) m x = some v
 | [],_,_,_,_,h,_,_=>by simp at h
 | _ :: _,[],_,_,_,_,h,_=>by simp at h
 | p :: P,w :: vs,0,m,nd,h1,h2,hk=>by
  simp at h1 h2; subst h1; subst h2
  show bindC kindOf ((p,w) :: P.zip vs) m p = _
  unfold bindC
  rw [kj fun v hv=>(List.nodup_cons.mp nd).1 (List.of_mem_zip hv).1,if_neg hk]
  simp
 | p :: P,w :: vs,i + 1,m,nd,h1,h2,hk=>by
  show bindC kindOf ((p,w) :: P.zip vs) m x = _
  unfold bindC
  exact km (i:=i) (List.nodup_cons.mp nd).2 (by simpa using h1) (by simpa using h2) hk
def start (N:List Str) (vs:List V):St:=vs.map some ++ List.replicate (N.length - vs.length) none
def gA (CX:mV) (P:Program) (w:World) (K:PySem.W.Frag) (mg:Str→Option Value) (base:Heap) (N:List Str) (qual:Str) (scope:Scope) (f:Addr) (cd:Value) (A:Around) (outer:List Env) (s:Shared) (H:Hp) (E:XK):Cx where
 prog:=P
 w:=w
 K:=K
 mg:=mg
 base:=base
 A:=A.deeper (envOfC qual scope s.heap.objs.size f cd)
 N:=N
 s₀:=s
 H₀:=H
 env:=envOfC qual scope s.heap.objs.size f cd
 outer:=outer
 stack:=envOfC qual scope s.heap.objs.size f cd :: outer
 ex:=[]
 calm:=true
 fn:=fun _=>true
 pn:=[]
 xe:=fun e s'=>wpAny (model P w) (A.deeper (envOfC qual scope s.heap.objs.size f cd)) (leaving (envOfC qual scope s.heap.objs.size f cd) e) (fun _ vT=>CX outer H s E e vT) (fun e' vT=>CX outer H s E e' vT) s'
theorem mH {sc:Scope} {n:Nat} {x:Str} (h:sc.names.lookup x = some .cell):∃ c,(cellsFrom n sc.names []).lookup x = some c:=by
 have q:=PySem.W.cellsFrom_some sc.names n [] (.inl h)
 exact Option.isSome_iff_exists.mp q
theorem pq {CX:mV} {P:Program} {w:World} {K:PySem.W.Frag} {mg:Str→Option Value} {base:Heap} {N ps:List Str} {qual:Str} {scope:Scope} {f:Addr} {cd:Value} {A:Around} {outer:List Env} {s s1:Shared} {H:Hp} {E:XK} {us:List Value} {vs:List V}
  (S:aE N ps scope) (hd:A.handled = none) (e0:uL P w K mg base A outer s H) (hl:vs.length = ps.length) (r:Vals vs us)
  (x:InCallC s s.heap.objs.size (bindL (envOfC qual scope s.heap.objs.size f cd).kindOf (ps.zip us) fun _=>none) (cellsFrom (s.heap.objs.size + 1) scope.names []) (bindC (envOfC qual scope s.heap.objs.size f cd).kindOf (ps.zip us) fun _=>none) s1) :
  Inv (gA CX P w K mg base N qual scope f cd A outer s H E) [] (start N vs) H s1:=by
 have jF:ps.length≤N.length:=by have:=congrArg List.length S.pre; rw [List.length_take] at this; omega
 obtain ⟨h1,tk,rfl,hk⟩:=x.done
 have yV:∀ b:Addr,b∉(gA CX P w K mg base N qual scope f cd A outer s H E).ex:=fun b z=>absurd (show b∈([]:List Addr) from z) (by simp)
 refine ⟨⟨e0.mod,S.kind,rfl,rfl,Nat.le_refl _,fun y z c h1 h2=>?_,fun y hy=>?_,fun y c _ h=>?_,fun _=>hd,Around.frames_deeper e0.frames,.inr ⟨rfl,rfl⟩,fun b z=>absurd z (yV b),e0.bs,e0.uD,fun b _ _=>yV b,fun b z=>absurd z (yV b),e0.hV,e0.xy⟩,
  rfl,e0.bare,Un.kept hk,⟨_,x.toInCall.ns,fun i y v h1 h2 h3=>?_⟩,fun y c h=>⟨_,x.cell y c h⟩,e0.bJ.fresh (Nat.le_refl _),fun y c h=>?_,fun p hp=>absurd (show p∈([]:List (Addr×Obj)) from hp) (by simp),e0.bJ.kept hk,?_⟩
 ·exact name_of_addr x.apart (PySem.mem_of_lookup h1) (PySem.mem_of_lookup h2)
 ·have hy:scope.names.lookup y = some .cell∨scope.names.lookup y = some .free:=hy
  rcases hy with hy | hy
  ·exact mH hy
  ·exact absurd rfl (S.wF _ (PySem.mem_of_lookup hy))
 ·exact Nat.le_of_lt (x.above y c (PySem.mem_of_lookup h))
 ·have hi:i < vs.length:=by
   unfold start at h2
   by_cases hi:i < vs.length
   ·exact hi
   ·rw [List.getElem?_append_right (by simpa using hi)] at h2
    rw [List.getElem?_replicate] at h2
    split at h2 <;> cases h2
  have ha:vs[i]? = some v:=by
   unfold start at h2
   rw [List.getElem?_append_left (by simpa using hi),List.getElem?_map] at h2
   cases e:vs[i]? with
   | none=>rw [e] at h2; cases h2
   | some a=>rw [e] at h2; cases h2; rfl
  obtain ⟨u,hu,rv⟩:=r.get ha
  have hp:ps[i]? = some y:=by
   rw [← S.pre,List.getElem?_take_of_lt (by omega)]; exact h1
  have G6:ps.Nodup:=by rw [← S.pre]; exact S.nd.sublist (List.take_sublist _ _)
  refine ⟨u,rv,?_⟩
  rcases S.par y (List.mem_of_getElem? hp) with k | k
  ·exact .inl ⟨k,ki G6 hp hu k⟩
  ·obtain ⟨c,e⟩:=mH (n:=s.heap.objs.size + 1) k
   refine .inr ⟨.inl k,c,e,?_⟩
   have q:=x.cell y c e
   rw [km G6 hp hu (by show scope.names.lookup y≠_; rw [k]; decide)] at q
   exact q
 ·exact e0.bJ.fresh (Nat.le_of_lt (x.above y c (PySem.mem_of_lookup h)))
 ·unfold start
  show _ = N.length
  rw [List.length_append,List.length_map,List.length_replicate]
  omega
theorem rZ {CX:mV} {P:Program} {w:World} {K:PySem.W.Frag} {mg:Str→Option Value} {base:Heap} {k:Nat} {f:Addr} {name qual:Str} {params:Arguments} {body:List Stmt} {scope:Scope} {dV kV doc pm cO ct oc:Value} {an od:Option Addr}
  {pT:Array (Option Value)} {N ps:List Str} {sp:Sp} (lk:K.lookup f = some ⟨oc,od,.func (PySem.W.fnOf name qual params body scope dV kV doc pm an cO ct),pT⟩) (ed:PySem.W.codeIn K cO qual = true) (S:aE N ps scope)
  (len:∀ vs H Q E,sp vs H Q E→vs.length = ps.length)
  (ji:∀ (A:Around) (outer:List Env) (s:Shared) (H:Hp) (vs:List V) (Q:VK) (E:XK),dQ k (A.deeper (envOfC qual scope s.heap.objs.size f cO))→sp vs H Q E→
   ∃ t,lJ (gA CX P w K mg base N qual scope f cO A outer s H E) body t∧t { nx:=fun _ H'=>Q .df H',rt:=Q } (start N vs) H) :
  jY P w K mg base CX (k + 1) f (PySem.W.fnOf name qual params body scope dV kV doc pm an cO ct) ps sp:=by
 refine ⟨len,fun A outer s H args us vs Q E hr e0 hb r oB=>?_⟩
 have hl:=len _ _ _ _ oB
 have KX:K.In s.heap:=e0.mod.yX.keeps fun b o e=>(e0.bs b o e).1
 have lim:s.heap.NoLimit:=e0.mod.nolimit.keeps fun b o e=>(e0.bs b o e).1
 have zr:∀ y∈ps.zip us,scope.names.lookup y.1 = some .local∨(scope.names.lookup y.1 = some .cell∧((cellsFrom (s.heap.objs.size + 1) scope.names []).lookup y.1).isSome = true):=fun ⟨n,v⟩ hy=>by
  rcases S.par n (List.of_mem_zip hy).1 with q | q
  ·exact .inl q
  ·exact .inr ⟨q,PySem.W.cellsFrom_some _ _ _ (.inl q)⟩
 refine codeAny_call_function hr.depth (KX _ _ lk) rfl S.co S.gen rfl (PySem.W.codeRec_of KX ed) (hb _ _ _ _ ?_)
 refine wpAny_newFunctionEnv_cells S.kind zr fun env he s1 x=>?_
 subst he
 refine ⟨lim.keeps x.toInCall.keep,codeAny_func ?_⟩
 obtain ⟨t,ht,hq⟩:=ji A outer s H vs Q E (hr.deeper _) oB
 have I:Inv (gA CX P w K mg base N qual scope f cO A outer s H E) [] (start N vs) H s1:=pq S hr.hd e0 hl r x
 refine wpAny_mono (ht [] s1 (start N vs) H _ I hq) (fun fl s' hs=>?_) fun e s' hs=>hs
 have fin:∀ {σ':St} {H':Hp} {v:V} {u:Value},Inv (gA CX P w K mg base N qual scope f cO A outer s H E) [] σ' H' s'→RelV v u→Q v H'→CE outer P w H s Q u s':=
  fun {σ' H' v u} J rv q=>⟨v,H',J.os,J.bare,J.base,J.bJ,rv,q⟩
 cases fl with
 | ret u=>
  obtain ⟨v,σ',H',J,rv,q⟩:=hs
  exact fin J rv q
 | next=>
  obtain ⟨σ',H',J,q⟩:=hs
  exact fin (v:=V.df) (u:=Value.none) J rfl q
 | brk=>
  obtain ⟨_,_,_,q⟩:=hs
  exact False.elim q
 | cont=>
  obtain ⟨_,_,_,q⟩:=hs
  exact False.elim q
end L2
namespace L2
open PySem PySem.Spec PyProof.Rows
section
variable {X:Cx} {x:Str} {p pos:Pos} {e:Expr} {es:List Expr} {t:TA} {id T:String} {r:List V→Hp→VK→Prop}
def Ay (r:List V→Hp→VK→Prop) (t:TA):TE:=fun σ H Q=>t σ H fun vs H1=>r vs H1 Q
theorem aI (hc:fF X (.builtin id) r) (hg:Gl X x) (hm:X.mg x = none) (hv:bootBuiltins x = some (.builtin id)) (ha:PA X (e :: es) t) (hn:x≠ "__name__":=by decide) (lu:(x == ("__debug__" : Str)) = false:=by decide)
  (he:starEach (e :: es) X.env = (false,eval e X.env) :: starEach es X.env:=by rfl) (jF:(backTo pos (starEach es X.env)).any (·.1) = false:=by rfl):PE X (.Call (.Name x p) (e :: es) [] pos) (Ay r t):=by
 intro pins s σ H Q I h
 refine wpAny_Call_Name_kw (eU I hg hm hv ?_ hn lu)
 exact PyProof.Rows.callWith_builtin1 (cT (ha pos pins s σ H _ I h) fun us s1 ⟨vs,H1,I1,r1,q1⟩=>hc pins s1 σ H1 vs us Q I1 r1 q1) he jF
theorem j7 (hc:fF X (.type T) r) (hg:Gl X x) (hm:X.mg x = none) (hv:bootBuiltins x = some (.type T)) (ha:PA X (e :: es) t) (hn:x≠ "__name__":=by decide) (lu:(x == ("__debug__" : Str)) = false:=by decide)
  (he:starEach (e :: es) X.env = (false,eval e X.env) :: starEach es X.env:=by rfl) (jF:(backTo pos (starEach es X.env)).any (·.1) = false:=by rfl):PE X (.Call (.Name x p) (e :: es) [] pos) (Ay r t):=by
 intro pins s σ H Q I h
 refine wpAny_Call_Name_kw (eU I hg hm hv ?_ hn lu)
 exact PyProof.Rows.callWith_type1 (cT (ha pos pins s σ H _ I h) fun us s1 ⟨vs,H1,I1,r1,q1⟩=>hc pins s1 σ H1 vs us Q I1 r1 q1) he jF
end
end L2
namespace HT
open PySem PyProof.Rows
def lexLt:List Int→List Int→Bool
 | [],[]=>false
 | [],_ :: _=>true
 | _ :: _,[]=>false
 | x :: xs,y :: ys=>if x = y then lexLt xs ys else decide (x < y)
section
variable {prog:Program} {w:World} {A:Around} {E:Value→Shared→Prop} {s:Shared}
def jD (n d:Nat):Option Int→Nat
 | none=>d
 | some v=>if v < 0 then (v + (n:Int)).toNat else min v.toNat n
end
end HT
namespace L2
open PySem PySem.Spec PyProof.Rows
abbrev TO:=St→Hp→(Option Int→Hp→Prop)→Prop
def PO (X:Cx) (e:Option Expr) (t:TO):Prop:=
 ∀ (pins:List (Addr×Obj)) (s:Shared) (σ : St) (H:Hp) (Q:Option Int→Hp→Prop),Inv X pins σ H s→t σ H Q→
  wpAny (model X.prog X.w) X.A (evalPart e X.env) (fun u s'=>∃ o H',Inv X pins σ H' s'∧IsPart u o∧Q o H') X.xe s
def fU:TO:=fun _ H Q=>Q none H
def lR (t:TE):TO:=fun σ H Q=>t σ H fun x H1=>∃ i,x = .int i∧Q (some i) H1
section
variable {X:Cx} {e:Expr} {te:TE} {lo hi:Option Expr} {tl th:TO} {pos p2:Pos}
theorem dY:PO X none fU:=by
 intro pins s σ H Q I h
 rw [evalPart_none]
 exact wpAny_pure ⟨none,H,I,.none,h⟩
theorem dX (h:PE X e te):PO X (some e) (lR te):=by
 intro pins s σ H Q I hw
 rw [evalPart_some]
 refine cT (h pins s σ H _ I hw) fun u s1 ⟨x,H1,I1,r1,q1⟩=>?_
 obtain ⟨i,rfl,q⟩:=q1
 obtain ⟨t,rfl⟩:=r1
 exact ⟨some i,H1,I1,.int i t,q⟩
def Ip (X:Cx) (r:V→Option Int→Option Int→Hp→VK→Prop):Prop:=
 ∀ (pins:List (Addr×Obj)) (s:Shared) (σ : St) (H:Hp) (x:V) (v vl vu:Value) (lo hi:Option Int) (sl:Addr) (Q:VK),Inv X pins σ H s→RelV x v→s.heap.IsSliceOf sl vl vu .none→IsPart vl lo→IsPart vu hi→r x lo hi H Q→
  ∃ T id,typeLookup (.type T) "__getitem__" = pure (some (.builtin id))∧s.TypeIs v T∧wpAny (model X.prog X.w) X.A (getItem v (.ref sl)) (EP X pins σ Q) X.xe s
def vK (r:V→Option Int→Option Int→Hp→VK→Prop) (te:TE) (tl th:TO):TE:=fun σ H Q=>te σ H fun x H1=>tl σ H1 fun l H2=>th σ H2 fun u H3=>r x l u H3 Q
theorem de {r:V→Option Int→Option Int→Hp→VK→Prop} (hr:Ip X r) (he:PE X e te) (hl:PO X lo tl) (hu:PO X hi th):PE X (.Subscript e (.Slice lo hi none p2) pos) (vK r te tl th):=by
 intro pins s σ H Q I h
 refine Subscript_ (cT (he pins s σ H _ I h) fun v s1 ⟨x,H1,I1,r1,q1⟩=>?_)
 refine wpAny_Slice (cT (hl pins s1 σ H1 _ I1 q1) fun vl s2 ⟨l,H2,I2,pl,q2⟩=>cT (hu pins s2 σ H2 _ I2 q2) fun vu s3 ⟨u,H3,I3,pu,q3⟩=>?_)
 rw [evalPart_none]
 refine wpAny_pure ?_
 have I4:Inv X pins σ H3 { s3 with heap:=s3.heap.push { cls:=.type "slice",data:=.fields #[vl,vu,.none] } }:=I3.kept (t':=s3.toks) fun b ob q=>Heap.get?_push_of_some _ q
 obtain ⟨T,id,hT,ht,hg⟩:=hr pins { s3 with heap:=s3.heap.push { cls:=.type "slice",data:=.fields #[vl,vu,.none] } } σ H3 x v vl vu l u s3.heap.objs.size Q I4 r1 (Heap.IsSliceOf.new ..) pl pu q3
 show wpAny (model X.prog X.w) X.A (subscriptTail e (.Slice lo hi none p2) v (.ref s3.heap.objs.size)) (EP X pins σ Q) X.xe { s3 with heap:=s3.heap.push { cls:=.type "slice",data:=.fields #[vl,vu,.none] } }
 exact tail_any (ops:=[.ref s3.heap.objs.size,v]) ht hT hg (by with_unfolding_all rfl)
def fJ (xs:List V) (lo hi:Option Int):List V:=(xs.drop (HT.jD xs.length 0 lo)).take (HT.jD xs.length xs.length hi - HT.jD xs.length 0 lo)
theorem mF (xs:List V) (lo hi:Option Int):(fJ xs lo hi).length≤xs.length:=by
 unfold fJ
 rw [List.length_take,List.length_drop]
 omega
def Jx (K:PySem.W.Frag):V→Option Int→Option Int→Hp→VK→Prop:=fun x lo hi H Q=>∃ a xs,x = .ref a∧SqT K H a xs∧
 ¬ (HT.jD xs.length 0 lo = 0∧HT.jD xs.length xs.length hi = xs.length)∧∀ p,H p = none→Q (.ref p) (upd H p (.tup (fJ xs lo hi)))
def JB (K:PySem.W.Frag):R2:=fun x y H Q=>∃ a b ns ms,x = .ref a∧y = .ref b∧SqT K H a (ns.map V.int)∧SqT K H b (ms.map V.int)∧Q (.bl (HT.lexLt ns ms)) H
def GR (K:PySem.W.Frag):R2:=fun x y H Q=>∃ a b xs ys,x = .ref a∧y = .ref b∧SqT K H a xs∧SqT K H b ys∧xs≠[]∧xs.length + ys.length≤sizeLine∧
 (ys = []→Q (.ref a) H)∧(ys≠[]→∀ p,H p = none→Q (.ref p) (upd H p (.tup (xs ++ ys))))
end
end L2
namespace L2
open PySem PySem.Spec PyProof.Rows
def pU (n:Nat) (i:Int):Option Nat:=if 0≤i then (if i < n then some i.toNat else none) else if -(n:Int)≤i then some (i + n).toNat else none
def gE {α : Type} (xs:List α) (i:Int):Option α:=(pU xs.length i).bind fun j=>xs[j]?
theorem oA {n:Nat} {i:Int} {j:Nat} (h:pU n i = some j):seqIndex? i n = some j∧j < n∧-(n:Int)≤i∧i < n:=by
 unfold pU at h
 by_cases h0:0≤i
 ·rw [if_pos h0] at h
  by_cases h1:i < n
  ·rw [if_pos h1] at h
   have e:i.toNat = j:=Option.some.inj h
   exact ⟨by rw [seqIndex_of h0 h1,e],by omega,by omega,h1⟩
  ·rw [if_neg h1] at h; cases h
 ·rw [if_neg h0] at h
  by_cases h1 : -(n:Int)≤i
  ·rw [if_pos h1] at h
   have e:(i + n).toNat = j:=Option.some.inj h
   exact ⟨by rw [seqIndex_neg (by omega) h1,e],by omega,h1,by omega⟩
  ·rw [if_neg h1] at h; cases h
theorem oV {α : Type} {xs:List α} {i:Int} {v : α} (h:gE xs i = some v):∃ j,seqIndex? i xs.length = some j∧xs[j]? = some v∧j < xs.length∧-(xs.length:Int)≤i∧i < xs.length:=by
 unfold gE at h
 cases e:pU xs.length i with
 | none=>rw [e] at h; cases h
 | some j=>
  rw [e] at h
  obtain ⟨h1,h2,h3,h4⟩:=oA e
  exact ⟨j,h1,h,h2,h3,h4⟩
theorem bG {α : Type} {xs:List α} {j:Nat} {v : α} (h:xs[j]? = some v):gE xs (j:Int) = some v:=by
 have hj:j < xs.length:=(List.getElem?_eq_some_iff.mp h).1
 have e:pU xs.length (j:Int) = some j:=by
  unfold pU
  rw [if_pos (by omega),if_pos (by omega)]; simp
 unfold gE; rw [e]; exact h
theorem sO {α : Type} (xs:List α) (v : α):gE (xs ++ [v]) (-1) = some v:=by
 have hl:(xs ++ [v]).length = xs.length + 1:=by simp
 have e:pU (xs ++ [v]).length (-1) = some xs.length:=by
  unfold pU
  rw [hl,if_neg (by decide),if_pos (by omega)]
  congr 1
  omega
 unfold gE
 rw [e]
 show (xs ++ [v])[xs.length]? = some v
 simp
def uI (b:Expr):Prop:=∀ o i,subscripted b false o i = operate [o,i] (getItem o i)
def Ao (X:Cx) (r:R2):Prop:=
 ∀ (value slice:Expr) (pins:List (Addr×Obj)) (s:Shared) (σ : St) (H:Hp) (x y:V) (v u:Value) (Q:VK),Inv X pins σ H s→RelV x v→RelV y u→r x y H Q→
  subscripted slice false v u = operate [v,u] (getItem v u)→wpAny (model X.prog X.w) X.A (subscriptTail value slice v u) (EP X pins σ Q) X.xe s
def MW (X:Cx) (id:String) (r:V→List V→Hp→VK→Prop):Prop:=
 ∀ (pins:List (Addr×Obj)) (s:Shared) (σ : St) (H:Hp) (x:V) (xs:List V) (v:Value) (us:List Value) (Q:VK),Inv X pins σ H s→RelV x v→Vals xs us→r x xs H Q→
  wpAny (model X.prog X.w) X.A (call (.builtin id) (v :: us)) (EP X pins σ Q) X.xe s
section
variable {X:Cx} {a b:Expr} {ta tb:TE} {pos:Pos}
theorem aK {r:R2} (hr:Ao X r) (ha:PE X a ta) (hb:PE X b tb) (hs:uI b):PE X (.Subscript a b pos) (xU r ta tb):=by
 intro pins s σ H Q I h
 exact Subscript_ (xN ha hb I h fun v u s2 x y H2 I2 rx ry q=>hr a b pins s2 σ H2 x y v u Q I2 rx ry q (hs _ _))
def tN (K:PySem.W.Frag):R2:=fun x y H Q=>∃ p xs i v,x = .ref p∧y = .int i∧aB K H p xs∧gE xs i = some v∧Q v H
def tM (K:PySem.W.Frag):R2:=fun x y H Q=>∃ p xs i v,x = .ref p∧y = .int i∧SqT K H p xs∧gE xs i = some v∧Q v H
def Cm:R2:=fun x y H Q=>∃ z i c,x = .str z∧y = .int i∧z.length≤sizeLine∧gE z.cps.toList i = some c∧Q (.str ⟨#[c]⟩) H
theorem aO:Ao X (tN X.K):=by
 intro value slice pins s σ H x y v u Q I rx ry h hs
 obtain ⟨p,xs,i,z,rfl,rfl,hq,he,q⟩:=h
 cases rx
 obtain ⟨t,rfl⟩:=ry
 obtain ⟨aY,r,pl,hz⟩:=I.list hq
 obtain ⟨j,h1,h2,h3,h4,h5⟩:=oV he
 obtain ⟨w,ew,yH⟩:=r.get h2
 have hl:=r.length
 have hn:=jf
 have fin:EP X pins σ Q w s:=⟨z,H,I,yH,q⟩
 by_cases h0:0≤i
 ·have hj:i.toNat = j:=by
   rw [seqIndex_of h0 h5] at h1
   exact Option.some.inj h1
  exact item_listR pl.isList h0 (by omega) (by rw [hj]; simpa using ew) fin hs
 ·have hj:(i + (aY.toArray.size:Int)).toNat = j:=by
   rw [seqIndex_neg (by omega) h4] at h1
   rw [List.size_toArray,← hl]
   exact Option.some.inj h1
  exact subscriptTail_builtinR (x:=w) pl.isList.typeIs slot_list_getitem.lookup
   (wpAny_getItem_list_neg (Q:=fun r s'=>r = w∧EP X pins σ Q r s') pl.isList (by omega) (by rw [List.size_toArray] <;> omega) (by omega) (by rw [hj]; simpa using ew) ⟨rfl,fin⟩) hs
theorem bV:Ao X (tM X.K):=by
 intro value slice pins s σ H x y v u Q I rx ry h hs
 obtain ⟨p,xs,i,z,rfl,rfl,hq,he,q⟩:=h
 cases rx
 obtain ⟨t,rfl⟩:=ry
 obtain ⟨aY,r,pl,hz⟩:=I.tuple hq
 obtain ⟨j,h1,h2,h3,h4,h5⟩:=oV he
 obtain ⟨w,ew,yH⟩:=r.get h2
 have hl:=r.length
 have hn:=jf
 have fin:EP X pins σ Q w s:=⟨z,H,I,yH,q⟩
 exact subscriptTail_builtinR (x:=w) pl.typeIs slot_tuple_getitem.lookup
  (getItem_tuple (j:=j) (Q:=fun r s'=>r = w∧EP X pins σ Q r s') pl (by omega) (by omega) (by rw [List.size_toArray,← hl]; exact h1) (by simpa using ew) ⟨rfl,fin⟩) hs
def NF (K:PySem.W.Frag):R2:=fun x y H Q=>tN K x y H Q∨tM K x y H Q∨Cm x y H Q
theorem nE (aY:List Value) (n j:Nat) (u:Value):Obj.mapSeq (·.setIfInBounds j u) { cls:=.type "list",data:=.seq aY.toArray n } = { cls:=.type "list",data:=.seq (aY.set j u).toArray n }:=by
 simp [Obj.mapSeq]
theorem Inv.lst {pins:List (Addr×Obj)} {σ : St} {H:Hp} {s:Shared} {p:Addr} {xs:List V} (I:Inv X pins σ H s) (h:H p = some (.lst xs)) :
  ∃ (aY:List Value) (n:Nat),Vals xs aY∧s.heap.get? p = some { cls:=.type "list",data:=.seq aY.toArray n }∧xs.length≤sizeLine:=by
 obtain ⟨z,aY,n,r,e⟩:=I.bJ p _ h
 exact ⟨aY,n,r,e,z⟩
theorem Inv.wJ {pins:List (Addr×Obj)} {σ : St} {H:Hp} {s:Shared} {p:Addr} {xs ys:List V} {aY its':List Value} {n n':Nat} {f:Obj→Obj} (I:Inv X pins σ H s) (h:H p = some (.lst xs))
  (ho:s.heap.get? p = some { cls:=.type "list",data:=.seq aY.toArray n }) (hf:f { cls:=.type "list",data:=.seq aY.toArray n } = { cls:=.type "list",data:=.seq its'.toArray n' }) (r:Vals ys its') (hz:ys.length≤sizeLine) (t:Nat) :
  Inv X pins σ (upd H p (.lst ys)) { s with heap:=s.heap.update p f,toks:=t }:=by
 have e:(s.heap.update p f).get? p = some { cls:=.type "list",data:=.seq its'.toArray n' }:=by
  rw [Heap.get?_update_self f ho (by rw [hf] <;> rfl),hf]
 refine I.write (x:=p) (e:=p) (by rw [h]; trivial) (.inl rfl) (fun b u hb q=>(Heap.get?_update_other _ _ (Ne.symm hb)).trans q) ⟨_,e⟩ ?_
 exact ⟨hz,its',n',r,e⟩
def yN:V→V→V→Hp→(Hp→Prop)→Prop:=fun o i v H Q=>∃ p xs k j,o = .ref p∧i = .int k∧H p = some (.lst xs)∧pU xs.length k = some j∧Q (upd H p (.lst (xs.set j v)))
theorem set_list:Am X yN:=by
 intro pins s σ H o i v ov iv u Q I ro ri rv h
 obtain ⟨p,xs,k,j,rfl,rfl,hp,hj,q⟩:=h
 cases ro
 obtain ⟨t,rfl⟩:=ri
 obtain ⟨aY,n,r,ho,hz⟩:=I.lst hp
 obtain ⟨h1,h2,h3,h4⟩:=oA hj
 have hl:=r.length
 have hn:=jf
 have I':Inv X pins σ (upd H p (.lst (xs.set j v))) { s with heap:=s.heap.update p (Obj.mapSeq (·.setIfInBounds j u)) }:=
  I.wJ hp ho (nE aY n j u) (r.set rv j) (by rw [List.length_set]; exact hz) s.toks
 by_cases h0:0≤k
 ·have hk:k.toNat = j:=by
   rw [seqIndex_of h0 h4] at h1
   exact Option.some.inj h1
  exact PySem.W.ki_setAt ho h0 (by omega) (by rw [List.size_toArray,← hl]; exact h4) (by rw [hk]; exact ⟨_,I',q⟩)
 ·have hk:(k + (aY.toArray.size:Int)).toNat = j:=by
   rw [seqIndex_neg (by omega) h3] at h1
   rw [List.size_toArray,← hl]
   exact Option.some.inj h1
  exact PySem.W.ki_setBack ho (by omega) (by rw [List.size_toArray,← hl]; exact h3) (by omega) (by rw [hk]; exact ⟨_,I',q⟩)
theorem kG (lo hi:Option Int) (n:Nat):(sliceBounds lo hi none n).1 = ((HT.jD n 0 lo:Nat):Int)∧(sliceBounds lo hi none n).2.1 = ((HT.jD n n hi:Nat):Int)∧(sliceBounds lo hi none n).2.2 = 1:=by
 refine ⟨?_,?_,rfl⟩
 ·cases lo with
  | none=>simp [sliceBounds,HT.jD]
  | some i=>
   simp only [sliceBounds,HT.jD,Option.getD_none,show (1:Int) > 0 by decide,if_true]
   by_cases h:i < 0
   ·simp only [h,if_true] <;> omega
   ·simp only [h,if_false] <;> omega
 ·cases hi with
  | none=>simp [sliceBounds,HT.jD]
  | some i=>
   simp only [sliceBounds,HT.jD,Option.getD_none,show (1:Int) > 0 by decide,if_true]
   by_cases h:i < 0
   ·simp only [h,if_true] <;> omega
   ·simp only [h,if_false] <;> omega
theorem jG (aY:List Value) (lo hi:Option Int):slicePick aY.toArray lo hi none = ((aY.drop (HT.jD aY.length 0 lo)).take (HT.jD aY.length aY.length hi - HT.jD aY.length 0 lo)).toArray:=by
 obtain ⟨h1,h2,h3⟩:=kG lo hi aY.toArray.size
 unfold slicePick
 rw [h1,h2,h3]
 simp only [sliceRange_one,pick_run,List.size_toArray] <;> rfl
def qW (K:PySem.W.Frag):V→Option Int→Option Int→Hp→VK→Prop:=fun x lo hi H Q=>∃ a xs,x = .ref a∧aB K H a xs∧∀ p,H p = none→Q (.ref p) (upd H p (.lst (fJ xs lo hi)))
theorem dU:Ip X (qW X.K):=by
 intro pins s σ H x v vl vu lo hi sl Q I rx hs pl pu h
 obtain ⟨a,xs,rfl,hx,q⟩:=h
 cases rx
 obtain ⟨aY,r,ht,hz⟩:=I.list hx
 have hlen:=r.length
 refine ⟨"list",_,slot_list_getitem.lookup,ht.isList.typeIs,?_⟩
 refine wpAny_getItem_list_slice ht.isList hs pl pu .none (by simp) ?_ (by rw [List.size_toArray] <;> omega)
 rw [jG,← hlen]
 refine ⟨.ref s.heap.objs.size,_,I.laid (t':=s.toks) (o:=.lst (fJ xs lo hi)) (fun b ob q=>Heap.get?_push_of_some _ q) (Nat.le_refl _) ?_,rfl,q _ (I.bJ.fresh (Nat.le_refl _))⟩
 exact ⟨Nat.le_trans (mF xs lo hi) hz,_,0,(r.drop (HT.jD xs.length 0 lo)).take (HT.jD xs.length xs.length hi - HT.jD xs.length 0 lo),Heap.get?_push_size _ rfl⟩
def vw:V→Bool
 | .df=>true
 | .bl _=>true
 | .int _=>true
 | .str _=>true
 | _=>false
def zI:V→V→Bool
 | .df,.df=>true
 | .bl a,.bl b=>a == b
 | .bl a,.int b=>(if a then 1 else 0) == b
 | .int a,.bl b=>a == (if b then 1 else 0)
 | .int a,.int b=>a == b
 | .str a,.str b=>a == b
 | _,_=>false
def Oa (x:V) (u:Value):Bool:=match u with
 | .none=>zI .df x
 | .bool b=>zI (.bl b) x
 | .int i _=>zI (.int i) x
 | .str z _=>zI (.str z) x
 | _=>false
def Hf (x:V) (xs:List V):Bool:=xs.any fun y=>zI y x
def NG (K:PySem.W.Frag) (neg:Bool):R2:=fun x y H Q=>∃ p xs,y = .ref p∧(aB K H p xs∨SqT K H p xs)∧vw x = true∧xs.all vw = true∧Q (.bl (if neg then !Hf x xs else Hf x xs)) H
theorem gC:fF X (.type "list") (fun xs H Q=>∃ p ys,xs = [.ref p]∧(aB X.K H p ys∨SqT X.K H p ys)∧∀ l,H l = none→Q (.ref l) (upd H l (.lst ys))):=by
 intro pins s σ H xs us Q I r h
 obtain ⟨p,ys,rfl,hq,q⟩:=h
 obtain ⟨u,rfl,rx⟩:=vals1 r
 cases rx
 have fin:∀ (aY:List Value),Vals ys aY→ys.length≤sizeLine→∀ (h':Heap) (c':Nat),(∀ b o',s.heap.get? b = some o'→h'.get? b = some o')→
   h'.get? s.heap.objs.size = some { cls:=.type "list",dict:=none,data:=.seq aY.toArray c',slots:=#[] }→EP X pins σ Q (.ref s.heap.objs.size) { s with heap:=h' }:=fun aY r' hz h' c' kp e=>
  ⟨.ref s.heap.objs.size,_,I.laid (t':=s.toks) kp (Nat.le_refl _) (show bW X.prog X.w _ h' _ (.lst ys) from ⟨hz,aY,c',r',e⟩),rfl,q _ (I.bJ.fresh (Nat.le_refl _))⟩
 rcases hq with hq | hq
 ·obtain ⟨aY,r',pl,hz⟩:=I.list hq
  have hlen:=r'.length
  obtain ⟨o,ho,hc,n,hd⟩:=pl.isList
  exact call_list_seq p (.inl rfl) ho hc hd (fun h' c' kp e=>fin aY r' hz h' c' kp e) (by simp only [List.size_toArray] <;> omega)
 ·obtain ⟨aY,r',pl,hz⟩:=I.tuple hq
  have hlen:=r'.length
  obtain ⟨o,ho,hc,n,hd⟩:=pl
  exact call_list_seq p (.inr rfl) ho hc hd (fun h' c' kp e=>fin aY r' hz h' c' kp e) (by simp only [List.size_toArray] <;> omega)
def Gn (K:PySem.W.Frag) (T:String) (x:V) (H:Hp):Prop:=match x with
 | .str _=>T = "str"
 | .int _=>T = "int"
 | .ref p=>(T = "list"∧∃ xs,aB K H p xs)∨(T = "tuple"∧∃ o,K.lookup p = some o∧o.cls = .type "tuple"∧o.dict = none)∨
   (T = "dict"∧((∃ bE,H p = some (.dK bE))∨∃ bE,H p = some (.dT bE)))∨(T = "set"∧∃ S n,H p = some (.set S n))
 | _=>False
def I8 (K:PySem.W.Frag) (T:String) (r:V→List V→Hp→VK→Prop) (to:TE):TE:=fun σ H Q=>to σ H fun x H1=>Gn K T x H1∧r x [] H1 Q
def ND (K:PySem.W.Frag) (T:String) (r:V→List V→Hp→VK→Prop) (to:TE) (t:TA):TE:=fun σ H Q=>to σ H fun x H1=>Gn K T x H1∧t σ H1 fun xs H2=>r x xs H2 Q
variable {o e:Expr} {es:List Expr} {to:TE} {t:TA} {name:Str} {apos fK:Pos} {T id:String} {r:V→List V→Hp→VK→Prop}
/- xs.append(e),list.index on a module's tuple .. are MW facts of 06m -/
end
end L2
namespace L2
open PySem PySem.Spec PyProof.Rows
def Iu (X:Cx) (id:String) (r:V→List V→Hp→VK→Prop):Prop:=
 ∀ (pins:List (Addr×Obj)) (s:Shared) (σ : St) (H:Hp) (x:V) (xs:List V) (v:Value) (us:List Value) (Q:VK),Inv X pins σ H s→RelV x v→Vals xs us→r x xs H Q→
  wpAny (model X.prog X.w) X.A (call (.builtin id) (v :: us)) (EP X pins σ Q) X.xe s
theorem Vals.one:∀ {x:V} {us:List Value},Vals [x] us→∃ u,us = [u]∧RelV x u
 | _,_,.cons r .nil=>⟨_,rfl,r⟩
section
variable {X:Cx} {pins:List (Addr×Obj)} {σ : St} {H:Hp} {s:Shared} {l b:Addr} {xs ys zs:List V}
theorem Inv.yW {aY its':List Value} {n:Nat} {f:Array Value→Array Value} {t':Nat} (I:Inv X pins σ H s) (hH:H l = some (.lst xs))
  (e:s.heap.get? l = some { cls:=.type "list",data:=.seq aY.toArray n }) (hf:f aY.toArray = its'.toArray) (hv:Vals ys its') (hz:ys.length≤sizeLine) :
  Inv X pins σ (upd H l (.lst ys)) { s with heap:=s.heap.update l (Obj.mapSeq f),toks:=t' }:=by
 have q:=PySem.IsL.update e f
 rw [hf] at q
 refine I.write (x:=l) (e:=l) (by rw [hH]; exact trivial) (.inl rfl) (fun b' u hb hu=>(Heap.get?_update_other s.heap (Obj.mapSeq f) (Ne.symm hb)).trans hu) ⟨_,q⟩ ?_
 exact ⟨hz,its',_,hv,q⟩
theorem Inv.DC {aY:List Value} {t':Nat} (I:Inv X pins σ H s) (hv:Vals ys aY) (hz:ys.length≤sizeLine) :
  Inv X pins σ (upd H s.heap.objs.size (.lst ys)) { s with heap:=s.heap.push { cls:=.type "list",data:=.seq aY.toArray },toks:=t' }:=
 I.laid (fun _ _ q=>Heap.get?_push_of_some _ q) (Nat.le_refl _) ⟨hz,aY,0,hv,Heap.get?_push_size _ rfl⟩
theorem Inv.fresh (I:Inv X pins σ H s):H s.heap.objs.size = none:=I.bJ.fresh (Nat.le_refl _)
theorem Inv.rH (I:Inv X pins σ H s) (hH:H l = some (.lst xs)):xs.length≤sizeLine∧∃ (aY:List Value) (n:Nat),Vals xs aY∧xs.length = aY.length∧s.heap.get? l = some { cls:=.type "list",data:=.seq aY.toArray n }:=by
 obtain ⟨z,aY,n,r,e⟩:=I.bJ l _ hH
 exact ⟨z,aY,n,r,r.length,e⟩
theorem rE {n:Nat} (h:n≤sizeLine):Builtin.List.listTooLong n = false:=by
 unfold Builtin.List.listTooLong
 exact decide_eq_false (by omega)
end
section
variable {X:Cx}
def tP:V→List V→Hp→VK→Prop:=fun x vs H Q=>∃ l xs y,x = .ref l∧vs = [y]∧H l = some (.lst xs)∧xs.length < sizeLine∧Q .df (upd H l (.lst (xs ++ [y])))
theorem j8:Iu X "list.append" tP:=by
 intro pins s σ H x vs v us Q I rx rv h
 obtain ⟨l,xs,y,rfl,rfl,hH,hz,q⟩:=h
 cases rx
 obtain ⟨u,rfl,ru⟩:=rv.one
 obtain ⟨z,aY,n,r,hl,e⟩:=I.rH hH
 refine call_meets F.slot_list_append ⟨_,e,rfl⟩ F.entry_list_append (F.args_list_append_2 _ _) (PySem.list_append l aY.toArray n u (by rw [List.size_toArray]; omega)) ⟨e,?_⟩
 refine ⟨.df,_,I.yW (its':=aY ++ [u]) hH e (by simp) (r.append (.cons ru .nil)) ?_,rfl,q⟩
 rw [List.length_append,List.length_singleton]
 omega
def tO:V→List V→Hp→VK→Prop:=fun x vs H Q=>∃ l b xs zs,x = .ref l∧vs = [.ref b]∧H l = some (.lst xs)∧H b = some (.lst zs)∧xs.length + zs.length≤sizeLine∧Q .df (upd H l (.lst (xs ++ zs)))
theorem xV:Iu X "list.extend" tO:=by
 intro pins s σ H x vs v us Q I rx rv h
 obtain ⟨l,b,xs,zs,rfl,rfl,hH,hB,hz,q⟩:=h
 cases rx
 obtain ⟨u,rfl,ru⟩:=rv.one
 cases ru
 obtain ⟨z,aY,n,r,hl,e⟩:=I.rH hH
 obtain ⟨z2,nH,n2,r2,Lr,e2⟩:=I.rH hB
 have y9:aY.toArray.size + nH.toArray.size≤sizeLine:=by rw [List.size_toArray,List.size_toArray]; omega
 have zq:¬ (!aY.toArray.isEmpty && Builtin.List.listTooLong (aY.toArray.size + nH.toArray.size)) = true:=by
  rw [rE y9,Bool.and_false]
  exact Bool.false_ne_true
 refine call_meets F.slot_list_extend ⟨_,e,rfl⟩ F.entry_list_extend (F.args_list_extend_2 _ _)
  (AutoSeq1.list_extend_list_list_0 l aY.toArray n b nH.toArray n2 zq (by rw [List.size_toArray]; omega) (by omega)) ⟨e,e2,?_⟩
 refine ⟨.df,_,I.yW (its':=aY ++ nH) hH e (by simp) (r.append r2) ?_,rfl,q⟩
 rw [List.length_append]
 omega
def Jz:V→List V→Hp→VK→Prop:=fun x vs H Q=>∃ l xs y,x = .ref l∧vs = []∧H l = some (.lst xs)∧xs[xs.length - 1]? = some y∧Q y (upd H l (.lst xs.dropLast))
def Cj:V→List V→Hp→VK→Prop:=fun x vs H Q=>∃ l xs i k y,x = .ref l∧vs = [.int i]∧H l = some (.lst xs)∧-(2 ^ 63)≤i∧i < 2 ^ 63∧seqIndex? i xs.length = some k∧xs[k]? = some y∧Q y (upd H l (.lst (xs.eraseIdx k)))
def yO:V→List V→Hp→VK→Prop:=fun x vs H Q=>∃ l xs,x = .ref l∧vs = []∧H l = some (.lst xs)∧Q .df (upd H l (.lst xs.reverse))
def Co:V→List V→Hp→VK→Prop:=fun x vs H Q=>∃ l xs,x = .ref l∧vs = []∧H l = some (.lst xs)∧Q .df (upd H l (.lst []))
def Cp:R2:=fun x y H Q=>∃ l b xs zs,x = .ref l∧y = .ref b∧H l = some (.lst xs)∧H b = some (.lst zs)∧xs.length + zs.length≤sizeLine∧∀ p,H p = none→Q (.ref p) (upd H p (.lst (xs ++ zs)))
theorem gZ:jU X (binaryOp .Add) Cp:=by
 intro pins s σ H x y v u Q I rx ry h
 obtain ⟨l,b,xs,zs,rfl,rfl,hH,hB,hz,q⟩:=h
 cases rx
 cases ry
 obtain ⟨z,aY,n,r,hl,e⟩:=I.rH hH
 obtain ⟨z2,nH,n2,r2,Lr,e2⟩:=I.rH hB
 refine PySem.P.add_list e e2 ?_ (by rw [List.size_toArray,List.size_toArray]; omega)
 have ea:aY.toArray ++ nH.toArray = (aY ++ nH).toArray:=by simp
 rw [ea]
 exact ⟨.ref _,_,I.DC (t':=s.toks) (r.append r2) (by rw [List.length_append]; omega),rfl,q _ I.fresh⟩
def Jy:R2:=fun x y H Q=>∃ l k xs,x = .ref l∧y = .int k∧H l = some (.lst xs)∧-(2 ^ 63)≤k∧k < 2 ^ 63∧xs.length * k.toNat≤sizeLine∧
 ∀ p,H p = none→Q (.ref p) (upd H p (.lst (List.replicate k.toNat xs).flatten))
end
end L2
namespace L2
open PySem PySem.Spec PyProof.Rows
section
variable {κ : Type} [DecidableEq κ]
def o3 (bE:List (κ×V)) (k : κ):Option V:=(bE.find? fun kv=>decide (kv.1 = k)).map (·.2)
def putK (bE:List (κ×V)) (k : κ) (v:V):List (κ×V):=
 if (bE.any fun kv=>decide (kv.1 = k)) = true then bE.map (fun kv=>if kv.1 = k then (kv.1,v) else kv) else bE ++ [(k,v)]
def sr (bE:List (κ×V)) (k : κ):List (κ×V):=bE.filter fun kv=>decide (kv.1≠k)
end
abbrev KT (H:Hp):List (List Key×V)→List (List Key×Addr×Value)→Prop:=Paired fun p q=>p.1 = q.1∧H q.2.1 = some (.tup (p.1.map kV))∧RelV p.2 q.2.2
def pR (H:Hp) (a:Addr) (y:V) (r:Option V):Prop:=
 (∃ bE k,Rd H a (.dK bE)∧y = kV k∧r = o3 bE k)∨∃ bE k b,Rd H a (.dT bE)∧y = .ref b∧H b = some (.tup (k.map kV))∧r = o3 bE k
def Aq (H:Hp) (a:Addr) (y v:V) (H':Hp):Prop:=
 (∃ bE k,H a = some (.dK bE)∧y = kV k∧bE.length < sizeLine∧H' = upd H a (.dK (putK bE k v)))∨
 ∃ bE k b,H a = some (.dT bE)∧y = .ref b∧H b = some (.tup (k.map kV))∧bE.length < sizeLine∧H' = upd H a (.dT (putK bE k v))
def MV (i:Expr):Prop:=∀ ov iv,subscripted i false ov iv = operate [ov,iv] (getItem ov iv)
def GA (td ty:TE):TE:=fun σ H Q=>td σ H fun x H1=>ty σ H1 fun y H2=>∃ a v,x = .ref a∧pR H2 a y (some v)∧Q v H2
def IY (ty td:TE):TE:=fun σ H Q=>ty σ H fun y H1=>td σ H1 fun x H2=>∃ a o,x = .ref a∧pR H2 a y o∧Q (.bl o.isSome) H2
def Ax (ty td:TE):TE:=fun σ H Q=>ty σ H fun y H1=>td σ H1 fun x H2=>∃ a o,x = .ref a∧pR H2 a y o∧Q (.bl (!o.isSome)) H2
def GH (td ty tv:TE):TS:=fun D σ H=>tv σ H fun v H1=>td σ H1 fun x H2=>ty σ H2 fun y H3=>∃ a H4,x = .ref a∧Aq H3 a y v H4∧D.nx σ H4
def GJ (td ty tv:TE) (rd:V→V→Hp→VK→Prop):TS:=fun D σ H=>td σ H fun x H1=>ty σ H1 fun y H2=>∃ a v,x = .ref a∧pR H2 a y (some v)∧
 tv σ H2 fun y2 H3=>rd v y2 H3 fun z H4=>∃ H5,Aq H4 a y z H5∧D.nx σ H5
def GI (td ty:TE):TS:=fun D σ H=>td σ H fun x H1=>ty σ H1 fun y H2=>∃ a bE k,x = .ref a∧H2 a = some (.dK bE)∧y = kV k∧(o3 bE k).isSome = true∧D.nx σ (upd H2 a (.dK (sr bE k)))
def BH:TE:=fun _ H Q=>∀ p,H p = none→Q (.ref p) (upd H p (.dK []))
def BG:TE:=fun _ H Q=>∀ p,H p = none→Q (.ref p) (upd H p (.dT []))
def mX:List (TE×TE)→St→Hp→(List (V×V)→Hp→Prop)→Prop
 | [],_,H,Q=>Q [] H
 | (tk,tv) :: r,σ,H,Q=>tk σ H fun x H1=>tv σ H1 fun y H2=>mX r σ H2 fun ps H3=>Q ((x,y) :: ps) H3
abbrev VV:List (V×V)→List (Value×Value)→Prop:=Paired fun p q=>RelV p.1 q.1∧RelV p.2 q.2
def Oj (X:Cx) (pos:Pos) (keys:List (Option Expr)) (values:List Expr) (BC:List (TE×TE)):Prop:=
 ∀ (pins:List (Addr×Obj)) (s:Shared) (σ : St) (H:Hp) (Q:List (V×V)→Hp→Prop),Inv X pins σ H s→mX BC σ H Q→
  wpAny (model X.prog X.w) X.A (evalPairs (pairTrees keys values X.env pos)) (fun vs s'=>∃ ps H',Inv X pins σ H' s'∧VV ps vs∧Q ps H') X.xe s
def wI (bE more:List (Key×V)):List (Key×V):=more.foldl (fun acc kv=>putK acc kv.1 kv.2) bE
def Gz (BC:List (TE×TE)):TE:=fun σ H Q=>∀ p,H p = none→mX BC σ (upd H p (.dK [])) fun ps H2=>H2 p = some (.dK [])∧∃ bE:List (Key×V),ps = bE.map (fun kv=>(kV kv.1,kv.2))∧bE.length≤15∧Q (.ref p) (upd H2 p (.dK (wI [] bE)))
structure M1 (X:Cx) (o:Expr) (m:Str) (apos:Pos) (e:Expr) (fK:Pos):Prop where
 base:attributeBase o m X.env (eval o X.env) = eval o X.env
 EU:((backTo fK (starEach [e] X.env)).all (fun x=>!x.1) && (backToKw fK (keywordEach [] X.env)).all (fun x=>x.1.isSome)
  && decide (([e]:List Expr).length + ([]:List Keyword).length + (if ([]:List Keyword).isEmpty then 0 else 1) < 30)) = true
 line:(apos.endLine == fK.line) = true
 trees:backTo fK (starEach [e] X.env) = [(false,eval e X.env)]
structure M2 (X:Cx) (o:Expr) (m:Str) (apos:Pos) (e f:Expr) (fK:Pos):Prop where
 base:attributeBase o m X.env (eval o X.env) = eval o X.env
 EU:((backTo fK (starEach [e,f] X.env)).all (fun x=>!x.1) && (backToKw fK (keywordEach [] X.env)).all (fun x=>x.1.isSome)
  && decide (([e,f]:List Expr).length + ([]:List Keyword).length + (if ([]:List Keyword).isEmpty then 0 else 1) < 30)) = true
 line:(apos.endLine == fK.line) = true
 trees:backTo fK (starEach [e,f] X.env) = [(false,eval e X.env),(false,eval f X.env)]
def Bs (H:Hp) (a:Addr):Prop:=(∃ bE,Rd H a (.dK bE))∨∃ bE,Rd H a (.dT bE)
def BJ (td ty:TE):TE:=fun σ H Q=>td σ H fun x H1=>∃ a,x = .ref a∧Bs H1 a∧ty σ H1 fun y H2=>∃ o,pR H2 a y o∧Q (o.getD .df) H2
def BI (td ty tx:TE):TE:=fun σ H Q=>td σ H fun x H1=>∃ a,x = .ref a∧Bs H1 a∧ty σ H1 fun y H2=>tx σ H2 fun z H3=>∃ o,pR H3 a y o∧Q (o.getD z) H3
def BF (td ty:TE):TE:=fun σ H Q=>td σ H fun x H1=>∃ a,x = .ref a∧Bs H1 a∧ty σ H1 fun y H2=>∃ bE k v,H2 a = some (.dK bE)∧y = kV k∧o3 bE k = some v∧Q v (upd H2 a (.dK (sr bE k)))
def BE (td ty tx:TE):TE:=fun σ H Q=>td σ H fun x H1=>∃ a,x = .ref a∧Bs H1 a∧ty σ H1 fun y H2=>tx σ H2 fun z H3=>∃ bE k,H3 a = some (.dK bE)∧y = kV k∧
 (∀ v,o3 bE k = some v→Q v (upd H3 a (.dK (sr bE k))))∧(o3 bE k = none→Q z H3)
end L2
namespace IB
open PySem PySem.W PySem.Calls PyProof.Rows
theorem iC {P:Params} {h:Heap}:∀ (ns:List Int) (vs:List Value),WellAll P h vs (ns.map WData.int)→IntsAre vs ns:=by
 intro ns
 induction ns with
 | nil=>
  intro vs w
  rw [List.map_nil] at w
  cases w
  exact .nil
 | cons n ns ih=>
  intro vs w
  rw [List.map_cons] at w
  cases w with
  | cons a b=>
   cases a
   exact .cons _ _ (ih _ b)
theorem o7 {l:OpenLaw} {n:Nat} (hn:l.most = some n) {P:Params} {h:Heap} {args:List WData} {vals:List Value}
  (ue:l.row.toRowW.claim.pre args = true) (Ea:WellAll P h vals args) :
  ∃ a vs ns,vals = [Value.ref a]∧args = [WData.list (ns.map WData.int)]∧h.get? a = some { cls:=.type "list",data:=.seq vs.toArray }∧IntsAre vs ns∧ns.length≤n:=by
 have Lc:WShape.hasAll [] args [.list .int] = true:=(pre_splitW ue).1
 have hc:l.pre.holds [] { args:=args } = true:=(pre_splitW ue).2
 obtain ⟨d,r,rfl,h1,h2⟩:=hasAllW_cons Lc
 obtain rfl:=hasAllW_nil h2
 obtain ⟨xs,rfl,h3⟩:=hasW_list h1
 obtain ⟨ns,rfl⟩:=items_int h3
 have hlen:ns.length≤n:=by
  unfold OpenLaw.pre at hc
  have h4:(WTm.not (.lt (.lit (.int (n:Int))) (.len (.arg 0)))).holds [] { args:=[.list (ns.map .int)] } = true:=by
   have h4:=(holds_andW hc).1
   rw [hn] at h4
   exact h4
  have h5:=condW_of h4 (w_not (w_lt w_lit (w_len_list (w_arg rfl))))
  rw [List.length_map] at h5
  refine Nat.le_of_not_lt fun q=>?_
  have q':(n:Int) < ((ns.length:Nat):Int):=by omega
  first
   | (rw [decide_eq_true q'] at h5; exact absurd h5 (by decide))
   | (simp at h5; omega)
 cases Ea with
 | cons w1 w2=>
  cases w2
  cases w1 with
  | list ho EG=>exact ⟨_,_,ns,rfl,rfl,ho,iC ns _ EG,hlen⟩
theorem o9 (l:OpenLaw) (args:List WData):l.row.toRowW.claim.post args (.bool true) args = true:=
 postW_of (r:=l.row.toRowW) (X:=(true == true))
  (show WShape.has [] (.bool true) .bool = true by first | rfl | decide | simp [WShape.has,WShape.arms,WShape.armsAll])
  (show (WTm.eq .res (.lit (.bool true))).value [] { args:=args,res:=some (.bool true),after:=args } = some (.bool (true == true)) from w_eq_bool (w_res rfl) w_lit) rfl
theorem mM {l:OpenLaw} {n:Nat} {q:Program} {loose:List Str} {XP:(Str→Option Value)→Heap→Prop} {YP:World→Heap→Prop} {d:DefRec}
  (hn:l.most = some n) (uf:d.params.defaults = [])
  (call:∀ (w:World) (s₀ s₁ : Shared) (mg mb:Str→Option Value) (fa:Addr) (o:Obj) (pm cd doc:Value) (a:Addr) (vs:List Value) (ns:List Int),
   Ground q loose [] XP w s₀ mg mb s₁.heap→YP w s₁.heap→
   s₁.heap.get? fa = some o→o.data = .func (docDef d.name d.params d.body d.scope pm cd doc)→s₁.heap.CodeRec cd d.name→mg d.name = some (.ref fa)→
   s₁.heap.get? a = some { cls:=.type "list",data:=.seq vs.toArray }→IntsAre vs ns→ns.length≤n→s₁.gens = #[]→
   codeAny (model l.prog w) callerA (.call (.ref fa) ⟨[.ref a],[]⟩) (fun r s'=>r = .ok (.ret (.bool true))∧OldK s₁.heap s'.heap∧s'.os = s₁.os∧AllBare s'.gens) s₁) :
  WalkO q loose XP YP l.row.toRowW d [] (fun f vs=>PySem.call f vs):=by
 intro w s₀ s₁ mg mb G Y fa o pm cd doc dV kV ho hd ed hD zp hg args vals as ue Lq N0 Ea N2
 obtain rfl:dV = .none:=Dflts.none hD uf
 obtain rfl:kV = .none:=Dflts.noKw hD
 obtain ⟨a,vs,ns,rfl,rfl,xh,hints,hlen⟩:=o7 hn ue Ea
 refine enter_call (codeAny_mono (call w s₀ s₁ mg mb fa o pm cd doc a vs ns G Y ho (fd_plain hd) ed zp xh hints hlen hg) fun r s' hq=>?_)
 obtain ⟨rfl,h2,h3,h4⟩:=hq
 exact ⟨.inl ⟨.bool true,.bool true,[],rfl,fun _=>rfl,.bool true,o9 l _,fun _=>⟨List.Pairwise.nil,fun _ hm=>(nomatch hm)⟩⟩,h2,h3,h4⟩
section
variable {prog:Program} {w:World} {A:Around} {E:Value→Shared→Prop} {s:Shared} {K:Frag}
def Dz (h:Heap):Heap:={ h with objs:=#[] }
def ledger (h:Heap) (L d:Addr):List (Addr×Obj):=(List.range h.objs.size).filterMap fun a=>if a = L∨a = d then none else (h.get? a).map fun o=>(a,o)
end
end IB
namespace L2
open PySem PySem.Spec PyProof.Rows
theorem jZ:∀ {vs:List Value} {ns:List Int},IntsAre vs ns→Vals (ns.map V.int) vs
 | _,_,.nil=>.nil
 | _,_,.cons n t h=>.cons ⟨t,rfl⟩ (jZ h)
def xQ (H:Hp):Prop:=∀ b,H b = none∨∃ o xs,H b = some (.lN o (.lst xs))
theorem rP {P:Program} {w:World} {K:PySem.W.Frag} {mg mb:Str→Option Value} {CX:mV} {k:Nat} {fa a:Addr} {fd:FuncData} {x:Str} {sp:Sp} {s₁ : Shared} {vs:List Value} {ns:List Int}
  (KX:K.In s₁.heap) (vp:s₁.heap.Ns mainGlobals mg) (hb:s₁.heap.Ns builtinsNs mb) (LN:∀ x:Str,x≠ "__name__"→mb x = bootBuiltins x) (Eo:s₁.heap.NoLimit) (hg:s₁.gens = #[])
  (ha:s₁.heap.get? a = some { cls:=.type "list",data:=.seq vs.toArray }) (hi:IntsAre vs ns) (hl:ns.length≤sizeLine) (hr:dQ k callerA)
  (F:∀ base:Heap,K.In base→base.Ns mainGlobals mg→jY P w K mg base CX k fa fd [x] sp) (zy:∀ (s:Shared) (u:Value),BindsTo s fd ⟨[u],[]⟩ [(x,u)])
  (oB:∀ H:Hp,xQ H→aB K H a (ns.map V.int)→sp [.ref a] H (fun v _=>v = .bl true) fun _ _ _=>False)
  (EL:∀ H e s',CX [] H s₁ (fun _ _ _=>False) e s'→False) :
  codeAny (model P w) callerA (.call (.ref fa) ⟨[.ref a],[]⟩) (fun r s'=>r = .ok (.ret (.bool true))∧OldK s₁.heap s'.heap∧s'.os = s₁.os∧AllBare s'.gens) s₁:=by
 have rv:=jZ hi
 have DD:=hi.length
 -- from an abstract heap in Gk nothing but p7 qy may be tracked
 have core:∀ H:Hp,xQ H→aB K H a (ns.map V.int)→fT P w H s₁.heap→(∀ b,H b≠none→b = a)→(H a≠none→K.lookup a = none)→
   codeAny (model P w) callerA (.call (.ref fa) ⟨[.ref a],[]⟩) (fun r s'=>r = .ok (.ret (.bool true))∧OldK s₁.heap s'.heap∧s'.os = s₁.os∧AllBare s'.gens) s₁:=by
  intro H hO hS bJ hA hK
  have oT:∀ {b:Addr} {o:Obj},s₁.heap.get? b = some o→H b = none→(lr s₁.heap H).get? b = some o:=fun e n=>rT e n
  have yV:∀ {b:Addr} {o:Obj} {es:Array DictEntry} {ep:Nat},s₁.heap.get? b = some o→o.data = .dict es ep→H b = none:=fun {b o es ep} e d=>by
   cases q:H b with
   | none=>rfl
   | some u=>
    have e':b = a:=hA b (by rw [q]; simp)
    subst e'
    rw [ha] at e; cases e
    have d':Data.seq vs.toArray _ = Data.dict es ep:=d
    cases d'
  have AL:∀ {b:Addr} {m:Str→Option Value},s₁.heap.Ns b m→(lr s₁.heap H).Ns b m:=fun {b m} ⟨o,es,ep,e,d,r⟩=>⟨o,es,ep,oT e (yV e d),d,r⟩
  have HH:K.In (lr s₁.heap H):=fun b o e=>oT (KX b o e) (by
   cases q:H b with
   | none=>rfl
   | some u=>
    have e':b = a:=hA b (by rw [q]; simp)
    subst e'
    rw [hK (by rw [q]; simp)] at e; cases e)
  have hM:Mod K mg (lr s₁.heap H):=⟨HH,AL vp,⟨mb,AL hb,LN⟩,let ⟨mc,h1,h2⟩:=Eo; ⟨mc,AL h1,h2⟩⟩
  have e0:uL P w K mg (lr s₁.heap H) callerA [] s₁ H:=⟨rfl,hM,fun b o e=>tU e,Nat.le_of_eq (pA _ _),trivial,fun b hb=>absurd (show b∈([]:List Addr) from hb) (by simp),bJ,.of_eq hg⟩
  refine codeAny_mono ((F _ HH (AL vp)).run callerA [] s₁ H ⟨[.ref a],[]⟩ [.ref a] [.ref a] _ _ hr e0 (zy s₁ (.ref a)) (.cons rfl .nil) (oB H hO hS)) fun r s' h=>?_
  cases r with
  | error e=>exact (EL H e s' h).elim
  | ok fl=>
   cases fl with
   | next=>exact False.elim h
   | brk=>exact False.elim h
   | cont=>exact False.elim h
   | ret u=>
    obtain ⟨v,H',os,bare,un,Ef,r',q⟩:=h
    have q':v = .bl true:=q
    subst q'
    obtain rfl:u = Value.bool true:=r'
    refine ⟨rfl,OldK.of_keep fun b o e=>?_,os,bare⟩
    cases q:H b with
    | none=>exact un.keep b o e q (by intro z; exact absurd (show b∈([]:List Addr) from z) (by simp)) (by simp)
    | some u=>
     rcases hO b with z | ⟨ob,xs,z⟩
     ·rw [q] at z; cases z
     ·have z2:=un.iE b ob _ z
      obtain ⟨e1,_⟩:=bJ b _ z
      obtain ⟨e2,_⟩:=Ef b _ z2
      rw [e] at e1; cases e1
      exact e2
 cases hk:K.lookup a with
 | some o=>
  -- p7 qy is one of p7 module's own objects
  have e:=KX a o hk
  rw [ha] at e
  cases e
  refine core (fun _=>none) (fun _=>.inl rfl) (.inr ⟨_,vs.toArray,_,hk,rfl,rfl,rfl,by rw [List.size_toArray,DD]; exact hl,by simpa using rv⟩) (fun b u z=>by have z':(none:Option HO) = some u:=z; cases z') (fun b z=>absurd rfl z) fun z=>absurd rfl z
 | none=>
  refine core (fun b=>if b = a then some (.lN { cls:=.type "list",data:=.seq vs.toArray } (.lst (ns.map V.int))) else none) (fun b=>?_) (.inl (.inr ⟨{ cls:=.type "list",data:=.seq vs.toArray },if_pos rfl⟩)) (fun b u z=>?_) (fun b z=>?_) fun _=>hk
  ·by_cases hb:b = a
   ·exact .inr ⟨_,_,if_pos hb⟩
   ·exact .inl (if_neg hb)
  ·by_cases hb:b = a
   ·have z':=(if_pos hb).symm.trans z
    cases z'
    subst hb
    exact ⟨ha,by rw [List.length_map]; exact hl,vs,_,rv,ha⟩
   ·have z':=(if_neg hb).symm.trans z
    cases z'
  ·by_cases hb:b = a
   ·exact hb
   ·exact absurd (if_neg hb) z
end L2
namespace L2
open PySem PySem.Spec PyProof.Rows
abbrev Oo {K:PySem.W.Frag} {h:Heap} (_:K.In h):PySem.W.Frag:=K
theorem tD {l:PySem.W.OpenLaw} {n k:Nat} {q:Program} {loose:List Str} {XP:(Str→Option Value)→Heap→Prop} {YP:World→Heap→Prop} {d:DefRec} {K:Params→PySem.W.Frag} {CX:World→mV} {sp:World→Sp} {x:Str}
  (hn:l.most = some n) (Lm:n≤sizeLine) (uf:d.params.defaults = []) (hr:dQ k callerA)
  (hY:∀ (w:World) (h:Heap),YP w h→(K w.params).In h)
  (F:∀ (w:World) (mg:Str→Option Value) (fa:Addr) (h:Heap),(K w.params).In h→h.Ns mainGlobals mg→mg d.name = some (.ref fa)→
   ∃ fd:FuncData,(∀ (s:Shared) (u:Value),BindsTo s fd ⟨[u],[]⟩ [(x,u)])∧
    ∀ base:Heap,(K w.params).In base→base.Ns mainGlobals mg→jY l.prog w (K w.params) mg base (CX w) k fa fd [x] (sp w))
  (oB:∀ (w:World) (H:Hp) (a:Addr) (ns:List Int),ns.length≤n→xQ H→aB (K w.params) H a (ns.map V.int)→sp w [.ref a] H (fun v _=>v = .bl true) fun _ _ _=>False)
  (EL:∀ (w:World) (H:Hp) (s:Shared) (e:Value) (s':Shared),CX w [] H s (fun _ _ _=>False) e s'→False) :
  PySem.W.WalkO q loose XP YP l.row.toRowW d [] (fun f vs=>PySem.call f vs):=by
 refine IB.mM hn uf fun w s₀ s₁ mg mb fa o pm cd doc a vs ns G Y ho hd ed zp xh hints hlen hg=>?_
 have KX:=hY w _ Y
 obtain ⟨fd,hb,hF⟩:=F w mg fa _ KX G.T.g zp
 exact rP KX G.T.g G.T.b G.T.builtins G.T.nolimit hg xh hints (Nat.le_trans hlen Lm) hr hF hb (fun H hO hS=>oB w H a ns hlen hO hS) fun H e s'=>EL w H s₁ e s'
end L2
namespace L2
open PySem PySem.Spec PyProof.Rows
def inClass (s:Stmt) (j:Nat):Stmt:=match s with
 | .ClassDef _ _ _ body _ _ _ _ _ _ _=>body.getD j (.Pass ⟨0,0,0,0⟩)
 | _=>.Pass ⟨0,0,0,0⟩
def aD (s:Stmt):Arguments:=match s with
 | .FunctionDef _ a _ _ _ _ _ _ _ _=>a
 | _=>{ posonlyargs:=[],args:=[],vararg:=none,kwonlyargs:=[],kw_defaults:=[],kwarg:=none,defaults:=[] }
def az (s:Stmt):List Stmt:=match s with
 | .FunctionDef _ _ b _ _ _ _ _ _ _=>b
 | _=>[]
def ai (s:Stmt):Scope:=match s with
 | .FunctionDef _ _ _ _ _ _ sc _ _ _=>sc
 | _=>{ kind:=.function,names:=[],isGenerator:=false,isCoroutine:=false }
abbrev Oy:mV:=fun _ _ _ _ _ _=>False
abbrev E0:XK:=fun _ _ _=>False
structure xS (K:PySem.W.Frag) (x qual:Str) (st:Stmt) (f:Addr) (fd:FuncData):Prop where
 ex:∃ (oc:Value) (od:Option Addr) (kV doc pm:Value) (an:Option Addr) (cO ct:Value) (pT:Array (Option Value)),
  fd = PySem.W.fnOf x qual (aD st) (az st) (ai st) .none kV doc pm an cO ct∧K.lookup f = some ⟨oc,od,.func fd,pT⟩∧PySem.W.codeIn K cO qual = true
 kp:PySem.W.keepIn K (.ref f) = true
section
variable {P:Program} {w:World} {K:PySem.W.Frag} {mg:Str→Option Value} {base:Heap}
theorem xS.binds {x qual:Str} {st:Stmt} {f:Addr} {fd:FuncData} {ps:List Str} (F:xS K x qual st f fd)
  (h:∀ (kV doc pm:Value) (an:Option Addr) (cO ct:Value) (us:List Value),us.length = ps.length→bindArgs (PySem.W.fnOf x qual (aD st) (az st) (ai st) .none kV doc pm an cO ct) ⟨us,[]⟩ = pure (ps.zip us)):Binds K fd ps []:=by
 obtain ⟨oc,od,kV,doc,pm,an,cO,ct,pT,rfl,lk,ed⟩:=F.ex
 exact .all (h kV doc pm an cO ct)
theorem ax {x qual:Str} {st:Stmt} {f:Addr} {oc:Value} {od an:Option Addr} {pT:Array (Option Value)} {kV doc pm cO ct:Value} (l:K.lookup f = some ⟨oc,od,.func (PySem.W.fnOf x qual (aD st) (az st) (ai st) .none kV doc pm an cO ct),pT⟩)
  (c:PySem.W.codeIn K cO qual = true) (k:PySem.W.keepIn K (.ref f) = true):xS K x qual st f (PySem.W.fnOf x qual (aD st) (az st) (ai st) .none kV doc pm an cO ct):=⟨⟨oc,od,kV,doc,pm,an,cO,ct,pT,rfl,l,c⟩,k⟩
end
section
variable {X:Cx}
theorem pv (i:Nat) {x:Str} {pos:Pos} (hN:X.N[i]? = some x:=by rfl) (hv:Aj X.env.scope x:=by first | exact Or.inl rfl | exact Or.inr (Or.inl rfl) | exact Or.inr (Or.inr rfl)) (hd:(x == ("__debug__" : Str)) = false:=by decide)
  (ed:(x == ("__classdict__" : Str)) = false:=by decide):PE X (.Name x pos) (iu i):=wu hN hv hd ed
end
theorem t6 {A B:Prop} (h:B):if false = true then A else B:=by
 rw [if_neg Bool.false_ne_true]
 exact h
theorem wU {A B:Prop} (h:A):if true = true then A else B:=by
 rw [if_pos rfl]
 exact h
def ao (H H':Hp):Prop:=∀ b o,H b = some o→H' b = some o
theorem ao.trans {H H1 H2:Hp} (a:ao H H1) (b:ao H1 H2):ao H H2:=fun c o h=>b c o (a c o h)
theorem ao.free {H H':Hp} (e:ao H H') {l:Addr} (h:H' l = Option.none):H l = Option.none:=by
 cases q:H l with
 | none=>rfl
 | some o=>
  rw [e l o q] at h
  cases h
theorem ao.seq {K:PySem.W.Frag} {H H':Hp} {a:Addr} {xs:List V} (e:ao H H') (h:aB K H a xs):aB K H' a xs:=by
 rcases h with (h | ⟨o,h⟩) | h
 ·exact .inl (.inl (e _ _ h))
 ·exact .inl (.inr ⟨o,e _ _ h⟩)
 ·exact .inr h
end L2

section
namespace L2
open PySem PySem.Spec PyProof.Rows
def Sz (n:Nat) (x:Int):Prop:=x.natAbs < 2 ^ n
theorem Sz.mono {m n:Nat} {x:Int} (h:Sz m x) (Lo:m≤n):Sz n x:=Nat.lt_of_lt_of_le h (Nat.pow_le_pow_right (by decide) Lo)
theorem Sz.le {n:Nat} {x y:Int} (h:Sz n y) (Hk:x.natAbs≤y.natAbs):Sz n x:=Nat.lt_of_le_of_lt Hk h
theorem Sz.mul {m n:Nat} {x y:Int} (hx:Sz m x) (hy:Sz n y):Sz (m + n) (x * y):=by
 unfold Sz at *
 rw [Int.natAbs_mul,Nat.pow_add]
 exact Nat.mul_lt_mul'' hx hy
theorem Sz.add {n:Nat} {x y:Int} (hx:Sz n x) (hy:Sz n y):Sz (n + 1) (x + y):=by
 unfold Sz at *
 have:=Int.natAbs_add_le x y
 rw [Nat.pow_succ]; omega
theorem Sz.neg {n:Nat} {x:Int} (hx:Sz n x):Sz n (-x):=by unfold Sz at *; rw [Int.natAbs_neg]; exact hx
theorem Sz.fA {m n:Nat} {x y:Int} (hx:Sz m x) (hy:Sz n y) (hm:m + n≤134217728:=by decide):IntMulOk x y:=
 PySem.IntMulOk.of_le (PySem.intBits_le_iff.mpr hx) (PySem.intBits_le_iff.mpr hy) hm
section
variable {X:Cx}
theorem bU:jU X (binaryOp .Mult) (rI IntMulOk fun i j=>.int (i * j)):=yS fun _ _ _ _ _ _ _ hc q=>mul_int q hc
def oZ (_ j:Int):Prop:=j≠0∧Sz 9000 j
theorem oZ.np {i j:Int} (h:oZ i j):Builtin.divisionGoesByPylong i j = false:=by
 refine PyProof.noPylong_of_log2 ?_
 have h0:j.natAbs≠0:=fun e=>h.1 (Int.natAbs_eq_zero.mp e)
 exact (Nat.log2_lt h0).mpr h.2
theorem i7:jU X (binaryOp .FloorDiv) (rI oZ fun i j=>.int (i.fdiv j)):=yS fun _ _ _ _ _ _ _ hc q=>floordiv_int hc.1 q (.inl hc.np)
def As (_ j:Int):Prop:=0 < j∧Sz 9000 j
theorem eA:jU X (binaryOp .FloorDiv) (rI As fun i j=>.int (i / j)):=yS fun i j _ _ _ _ _ hc q=>by
 have h1:(0:Int) < j:=hc.1
 exact floordiv_int (by omega) (by rw [Int.fdiv_eq_ediv_of_nonneg i (by omega)]; exact q) (.inl (oZ.np ⟨by omega,hc.2⟩))
end
structure b6 (P:Program) (w:World) (K:PySem.W.Frag) (mg:Str→Option Value) (base:Heap) (CX:mV) (x:Str) (k:Nat) (ps:List Str) (sp:Sp):Prop where
 ex:∃ f fd,jY P w K mg base CX k f fd ps sp∧mg x = some (.ref f)∧PySem.W.keepIn K (.ref f) = true∧Binds K fd ps []
section
variable {X:Cx} {CX:mV} {k j:Nat} {ps:List Str} {sp:Sp} {E:XK} {x:Str} {p pos:Pos} {e:Expr} {es:List Expr} {t:TA}
theorem ar (h:b6 X.prog X.w X.K X.mg X.base CX x k ps sp) (hr:dQ j X.A) (hx:Passes CX X E) (ha:PA X (e :: es) t) (hk:k≤j:=by decide) (hg:Gl X x:=by rfl) (lu:(x == ("__debug__" : Str)) = false:=by decide)
  (he:starEach (e :: es) X.env = (false,eval e X.env) :: starEach es X.env:=by rfl) (jF:(backTo pos (starEach es X.env)).any (·.1) = false:=by rfl) :
  PE X (.Call (.Name x p) (e :: es) [] pos) (qh sp [] E t):=by
 obtain ⟨f,fd,F,hm,Er,hb⟩:=h.ex
 exact tS F (hr.mono hk) hg hm Er hb .nil hx ha lu he jF
end
inductive lM:V→Value→Prop where
 | ty (n:String):lM (.ty n) (.type n)
 | ref (a:Addr):lM (.ref a) (.ref a)
def uY (K:PySem.W.Frag):List V→Hp→VK→Prop:=fun xs H Q=>∃ x c t u b,xs = [x,c]∧gF K H x t∧lM c u∧PySem.W.kitOne K t u = some b∧Q (.bl b) H
theorem fi {X:Cx}:fF X (.builtin "isinstance") (uY X.K):=by
 intro pins s σ H xs us Q I r h
 obtain ⟨x,c,t,u,b,rfl,ty,rc,e,q⟩:=h
 obtain ⟨u1,u2,rfl,r1,r2⟩:=vals2 r
 have e2:u2 = u:=by
  cases rc <;> (cases r2; rfl)
 subst e2
 exact pj I r1 ty e fun tk=>⟨.bl b,H,I.tok _,rfl,q⟩
section
variable {X:Cx} {pins:List (Addr×Obj)} {σ : St} {H:Hp} {s:Shared} {h':Heap}
theorem Inv.gN {t':Nat} {ch:List Addr} {a:Addr} {o:HO} (I:Inv X pins σ H s) (k:∀ b u,b∉ch→s.heap.get? b = some u→h'.get? b = some u) (hf:∀ b∈ch,iH X pins H b) (hp:s.heap.objs.size≤a)
  (new:bW X.prog X.w (upd H a o) h' a o):Inv X pins σ (upd H a o) { s with heap:=h',toks:=t' }:=by
 have hn:=I.bJ.fresh hp
 have rG:∀ b u,H b = some u→b∉ch:=fun b u e z=>by rw [(hf b z).1] at e; cases e
 refine I.step (g':=s.gens) (d':=s.drawn) (ch:=ch) (fun b hb=>?_) (fun b o _ _ hc e _=>k b o hc e) (fun b o _ _ hc e _=>⟨o.slots,k b o hc e⟩) (fun b u _ e n=>?_) (fun b o hc e=>⟨o,k b o hc e⟩)
  (fun b xs e=>by rw [av (aG e hn)]; exact e) (fun b u v e=>by rw [av (aG e hn)]; exact e) (fun b ps e=>⟨#[],by rw [av (aG e hn),e]; simp⟩) (fun m hm=>?_) (fun b u e=>?_) I.bare
 ·obtain ⟨f0,f1,f2,f3,f4,f5⟩:=hf b hb
  exact ⟨f3,f1,f4,f5⟩
 ·rw [av (Nat.ne_of_lt (Nat.lt_of_lt_of_le (Heap.lt_size e) hp))]; exact n
 ·obtain ⟨o,es,ep,ho,r⟩:=hm
  exact ⟨o,es,ep,k _ o (fun z=>(hf _ z).2.1 rfl) ho,r⟩
 ·by_cases hb:b = a
  ·subst hb; rw [ah] at e; cases e; exact new
  ·rw [av hb] at e
   refine (I.bJ b u e).iw (fun c v hc q=>k c v ?_ q) (fun c q=>by rw [av (aG q hn)]; exact q) fun c xs q=>by rw [av (aG q hn)]; exact q
   rcases hc with z | z
   ·rw [z]; exact rG b u e
   ·exact rG c _ z
theorem Inv.nY {t':Nat} {ch:List Addr} (I:Inv X pins σ H s) (k:∀ b u,b∉ch→s.heap.get? b = some u→h'.get? b = some u) (hf:∀ b∈ch,iH X pins H b):Inv X pins σ H { s with heap:=h',toks:=t' }:=by
 have rG:∀ b u,H b = some u→b∉ch:=fun b u e z=>by rw [(hf b z).1] at e; cases e
 refine I.step (g':=s.gens) (d':=s.drawn) (ch:=ch) (fun b hb=>?_) (fun b o _ _ hc e _=>k b o hc e) (fun b o _ _ hc e _=>⟨o.slots,k b o hc e⟩) (fun b u _ e n=>n) (fun b o hc e=>⟨o,k b o hc e⟩)
  (fun b xs e=>e) (fun b u v e=>e) (fun b ps e=>⟨#[],by rw [e]; simp⟩) (fun m hm=>?_) (fun b u e=>?_) I.bare
 ·obtain ⟨f0,f1,f2,f3,f4,f5⟩:=hf b hb
  exact ⟨f3,f1,f4,f5⟩
 ·obtain ⟨o,es,ep,ho,r⟩:=hm
  exact ⟨o,es,ep,k _ o (fun z=>(hf _ z).2.1 rfl) ho,r⟩
 ·refine (I.bJ b u e).iw (fun c v hc q=>k c v ?_ q) (fun c q=>q) fun c xs q=>q
  rcases hc with z | z
  ·rw [z]; exact rG b u e
  ·exact rG c _ z
end
def yi (K:PySem.W.Frag) (a:Addr):It:=
 ⟨fun i H=>∃ xs x,aB K H a xs∧xs[i]? = some x,
  fun i H x H'=>∃ p y,H p = none∧x = .ref p∧(∀ xs,aB K H a xs→xs[i]? = some y)∧H' = upd H p (.tup [.int i,y]),
  fun i H=>∃ xs,aB K H a xs∧xs.length≤i⟩
theorem o5 {P:Program} {w:World} {K:PySem.W.Frag} {elts:List Expr} {kx:Nat} {px:Pos} (a e it:Addr) (zm:e≠it) :
  Turn P w K (.Tuple elts kx px) (yi K a) [e,it] e (fun i h=>(∃ old,IsEnum h e it (i:Nat) old)∧h.IsListIter it a i) where
 mem:=by simp
 obj:=fun i h st b hb=>by
  obtain ⟨⟨old,he⟩,hit⟩:=st
  rcases List.mem_cons.mp hb with rfl | hb
  ·exact ⟨_,he,fun v z=>by cases z⟩
  ·obtain rfl:b = it:=by simpa using hb
   obtain ⟨o,e1,c,d⟩:=hit
   exact ⟨o,e1,fun v z=>by rw [d] at z; cases z⟩
 keep:=fun i h h' st k=>by
  obtain ⟨⟨old,he⟩,hit⟩:=st
  exact ⟨⟨old,k e (by simp) _ he⟩,hit.at fun o q=>k it (by simp) o q⟩
 item:=by
  intro X hP hw hK hc i pins s σ H E I hf st hg
  subst hP hw hK
  obtain ⟨⟨old,he⟩,hit⟩:=st
  obtain ⟨xs,x,hq,hx⟩:=hg
  obtain ⟨aY,rv,p,hz⟩:=I.list hq
  obtain ⟨u,hu,ru⟩:=rv.get hx
  have zw:e < s.heap.objs.size:=Heap.lt_size he
  have Eu:it < s.heap.objs.size:=by obtain ⟨_,q,_⟩:=id hit; exact Heap.lt_size q
  refine wpAny_pyNext_enum_item he hit p.isList (x:=u) (by simpa using hu) zm fun h' ho Et hT y9 hk=>⟨_,rfl,?_⟩
  refine wpAny_letOwnedTupleGo_enum ho fun h2 yb pV=>?_
  replace pV:Heap.SameBut e h' h2:=pV
  have hn:H s.heap.objs.size = none:=I.bJ.fresh (Nat.le_refl _)
  have kk:∀ b o,b∉[e,it]→s.heap.get? b = some o→h2.get? b = some o:=fun b o hb q=>(pV.2 b fun z=>hb (by simp [z])).trans (hk b o (fun z=>hb (by simp [z])) (fun z=>hb (by simp [z])) q)
  have EI:h2.get? s.heap.objs.size = some { cls:=.type "tuple",data:=.seq #[.int i s.toks,u] }:=(pV.2 _ (Nat.ne_of_gt zw)).trans hT
  refine ⟨.ref s.heap.objs.size,upd H s.heap.objs.size (.tup [.int i,x]),Inv.gN (s:=s) (h':=h2) (t':=s.toks + 1) I kk hf (Nat.le_refl _) ⟨by simp only [List.length_cons,List.length_nil]; rw [sizeLine_eq]; decide,[.int i s.toks,u],.cons ⟨_,rfl⟩ (.cons ru .nil),⟨_,EI,rfl,_,rfl⟩⟩,rfl,
   ⟨_,x,hn,rfl,fun ys hy=>by rw [I.gn hy hq]; exact hx,rfl⟩,⟨⟨_,yb⟩,Et.at fun o q=>(pV.2 it (Ne.symm zm)).trans q⟩,fun b hb=>?_⟩
  rw [av ?_]
  ·exact (hf b hb).1
  ·rcases List.mem_cons.mp hb with rfl | hb
   ·exact Nat.ne_of_lt zw
   ·obtain rfl:b = it:=by simpa using hb
    exact Nat.ne_of_lt Eu
 done:=by
  intro X hP hw hK hc i pins s σ H E I hf st hg
  subst hP hw hK
  obtain ⟨⟨old,he⟩,hit⟩:=st
  obtain ⟨xs,hq,hx⟩:=hg
  obtain ⟨aY,rv,p,hz⟩:=I.list hq
  have hl:=rv.length
  exact wpAny_pyNext_enum_end (I.ok.hd hc) he hit p.isList (by simp; omega) fun h' eb=>⟨rfl,Inv.nY (t':=s.toks) (ch:=[e,it]) I (fun b o hb q=>eb b o (fun z=>hb (by simp [z])) q) hf⟩
 self:=fun _ _ _ _ _ st h=>by
  obtain ⟨⟨old,he⟩,hit⟩:=st
  exact wpAny_pyIter_enum he h
def vh (K:PySem.W.Frag) (ta:TA):TI:=fun σ H R=>ta σ H fun vs H1=>∃ a,vs = [.ref a]∧(∃ xs,aB K H1 a xs)∧R (yi K a) H1
theorem tR {X:Cx} {l:Expr} {ta:TA} {p pos:Pos} {elts:List Expr} {kx:Nat} {px:Pos} (hm:X.mg "enumerate" = none) (ha:PA X [l] ta) (hg:Gl X "enumerate":=by rfl) (hs:starEach [l] X.env = [(false,eval l X.env)]:=by rfl) :
  PI X (.Tuple elts kx px) (.Call (.Name "enumerate" p) [l] [] pos) (vh X.K ta):=by
 intro pins s σ H R I h
 refine Call_ (eU I hg hm boot_enumerate (PyProof.Rows.callWith_type1 (cT (ha pos pins s σ H _ I h) fun us s1 ⟨vs,H1,I1,r1,q1⟩=>?_) hs rfl))
 obtain ⟨a,rfl,⟨xs,hq⟩,q⟩:=q1
 obtain ⟨u,rfl,ru⟩:=vals1 r1
 cases ru
 obtain ⟨aY,rv,pl,hz⟩:=I1.list hq
 refine call_enumerate_list pl.isList fun h' he hit y9 hk=>?_
 refine wpAny_pyIter_enum he ?_
 have I2:Inv X pins σ H1 { s1 with heap:=h' }:=I1.kept (t':=s1.toks) fun b o e=>hk b o e
 refine ⟨_,[s1.heap.objs.size + 1,s1.heap.objs.size],_,_,H1,rfl,I2,o5 a _ _ (Nat.succ_ne_self _),⟨⟨_,he⟩,hit⟩,fun b hb=>?_,q⟩
 rcases List.mem_cons.mp hb with rfl | hb
 ·exact I1.rY (Nat.le_succ _) (I1.bJ.fresh (Nat.le_succ _))
 ·obtain rfl:b = s1.heap.objs.size:=by simpa using hb
  exact I1.rY (Nat.le_refl _) (I1.bJ.fresh (Nat.le_refl _))
section
variable {σ : St} {H:Hp} {Q:VK} {D:Ends}
theorem r_var {i:Nat} {v:V} (h : σ[i]? = some (some v)) (q:Q v H):iu i σ H Q:=⟨v,h,q⟩
theorem r_c {v:V} (q:Q v H):tC v σ H Q:=q
theorem r_op {r:R2} {ta tb:TE} (h:ta σ H fun x H1=>tb σ H1 fun y H2=>r x y H2 Q):xU r ta tb σ H Q:=h
theorem vX {r:V→Hp→VK→Prop} {ta:TE} (h:ta σ H fun x H1=>r x H1 Q):Gr r ta σ H Q:=h
theorem om {g:Int→Int→V} {i j:Int} (q:Q (g i j) H):uZ g (.int i) (.int j) H Q:=⟨i,j,rfl,rfl,q⟩
theorem v9 {C:Int→Int→Prop} {g:Int→Int→V} {i j:Int} (c:C i j) (q:Q (g i j) H):rI C g (.int i) (.int j) H Q:=⟨i,j,rfl,rfl,c,q⟩
theorem v8 {g:Int→V} {i:Int} (q:Q (g i) H):rU g (.int i) H Q:=⟨i,rfl,q⟩
theorem qS {i j:Int} (q:Q (.bl (decide (i = j))) H):GQ (.int i) (.int j) H Q:=⟨rfl,by rw [gw,Bool.beq_eq_decide_eq]; exact q⟩
theorem qN {i j:Int} (q:Q (.bl (!decide (i = j))) H):GN (.int i) (.int j) H Q:=⟨rfl,by rw [gw,Bool.beq_eq_decide_eq]; exact q⟩
theorem r_seq {t u:TS} (h:t { D with nx:=u D } σ H):vL t u D σ H:=h
theorem kQ (h:D.nx σ H):uP D σ H:=h
theorem r_asg {te:TE} {g:TG} (h:te σ H fun x H1=>g x σ H1 D.nx):tE te g D σ H:=h
theorem r_gname {i:Nat} {v:V} {R:St→Hp→Prop} (h:R (σ.set i (some v)) H):mw i v σ H R:=h
theorem qI {te:TE} (h:te σ H D.rt):yr te D σ H:=h
theorem qQ {c:TT} {t u:TS} (h:c σ H fun b H1=>if b = true then t D σ H1 else u D σ H1):yy c t u D σ H:=h
theorem nh {t:TE} {R:Bool→Hp→Prop} (h:t σ H fun x H'=>∃ k,x = .bl k∧R k H'):uN t σ H R:=h
theorem Cg {t:TE} {R:Bool→Hp→Prop} (h:t σ H fun x H'=>∃ k,x = .bl k∧R k H'):tB t σ H R:=h
theorem we {k:Bool} {R:Bool→Prop} (h:R k):∃ k',V.bl k = .bl k'∧R k':=⟨k,rfl,h⟩
theorem qL {t:TT} {R:Bool→Hp→Prop} (h:t σ H fun c H1=>R (!c) H1):yu t σ H R:=h
theorem qV {t u:TT} {R:Bool→Hp→Prop} (h:t σ H fun c H1=>if c = true then u σ H1 R else R false H1):yB t u σ H R:=h
theorem wa {t u:TT} {R:Bool→Hp→Prop} (h:t σ H fun c H1=>if c = true then R true H1 else u σ H1 R):Gu t u σ H R:=h
theorem nu {ta tb:TE} (h:ta σ H fun x H1=>∃ c,x = .bl c∧if c = true then tb σ H1 Q else Q (.bl false) H1):uQ ta tb σ H Q:=h
theorem ni {ta:TE} (h:ta σ H fun x H1=>∃ c,x = .bl c∧Q (.bl (!c)) H1):uO ta σ H Q:=h
theorem qM {R:List V→Hp→Prop} (h:R [] H):vM σ H R:=h
theorem nq {ta:TE} {tr:TA} {R:List V→Hp→Prop} (h:ta σ H fun x H1=>tr σ H1 fun xs H2=>R (x :: xs) H2):qg ta tr σ H R:=h
theorem nr {sp:Sp} {E:XK} {t:TA} (h:t σ H fun vs H1=>sp (vs ++ []) H1 Q E):qh sp [] E t σ H Q:=h
theorem wd {r:List V→Hp→VK→Prop} {t:TA} (h:t σ H fun vs H1=>r vs H1 Q):Ay r t σ H Q:=h
theorem qG {t:TA} (h:t σ H fun xs H1=>xs.length≤sizeLine∧∀ p,H1 p = none→Q (.ref p) (upd H1 p (.tup xs))):yq t σ H Q:=h
theorem qO {t:TA} (h:t σ H fun xs H1=>xs.length≤sizeLine∧∀ p,H1 p = none→Q (.ref p) (upd H1 p (.lst xs))):yv t σ H Q:=h
theorem qJ {i j:Nat} {ta:TA} (h:ta σ H fun vs H1=>∃ v w,vs = [v,w]∧D.nx ((σ.set i (some v)).set j (some w)) H1):yt i j ta D σ H:=h
theorem fZ {wi:TI} {g:TG} {tb:TS} (h:wi σ H fun J H1=>∃ W:Nat→Nat→St→Hp→Prop,(∃ m,W 0 m σ H1)∧∀ i m σ H,W i m σ H→
 (J.stop i H∧D.nx σ H)∨(J.go i H∧∃ N:St→Hp→Prop,(∀ σ' H',N σ' H'→∃ m',m' < m∧W (i + 1) m' σ' H')∧∀ x H',J.pS i H x H'→g x σ H' fun σ2 H2=>tb { D with nx:=N,ct:=N,bk:=D.nx } σ2 H2)):yA wi g tb D σ H:=h
theorem DW {A B:Prop} (h:A):if true = true then A else B:=wU h
theorem DX {A B:Prop} (h:B):if false = true then A else B:=t6 h
theorem if2 {c A B:Prop} [Decidable c] (h1:c→A) (h2:¬ c→B):if decide c = true then A else B:=by
 by_cases h:c
 ·rw [decide_eq_true h]; exact wU (h1 h)
 ·rw [decide_eq_false h]; exact t6 (h2 h)
theorem t9 {c A B:Prop} [Decidable c] (h1:¬ c→A) (h2:c→B):if (!decide c) = true then A else B:=by
 by_cases h:c
 ·rw [decide_eq_true h]; exact t6 (h2 h)
 ·rw [decide_eq_false h]; exact wU (h1 h)
end
end L2
end
section
namespace L2
open PySem PySem.Spec PyProof.Rows
theorem lH:bootBuiltins "abs" = some (.builtin "abs"):=by decide +kernel
theorem dP:bootBuiltins "len" = some (.builtin "len"):=by decide +kernel
theorem bD:bootBuiltins "isinstance" = some (.builtin "isinstance"):=by decide +kernel
theorem xK:bootBuiltins "int" = some (.type "int"):=by decide +kernel
theorem uC:bootBuiltins "bool" = some (.type "bool"):=by decide +kernel
theorem sN:bootBuiltins "tuple" = some (.type "tuple"):=by decide +kernel
theorem lG:bootBuiltins "list" = some (.type "list"):=by decide +kernel
theorem jT:bootBuiltins "ValueError" = some (.type "ValueError"):=by decide +kernel
structure Def (K:PySem.W.Frag) (mg:Str→Option Value) (x:Str) (st:Stmt) (ps:List Str):Prop where
 ex:∃ f fd,xS K x x st f fd∧mg x = some (.ref f)∧Binds K fd ps []
theorem ao.upd {H:Hp} {p:Addr} {o:HO} (h:H p = none):ao H (upd H p o):=fun b u e=>by rw [av (aG e h)]; exact e
section
variable {σ : St} {H:Hp} {Q:VK} {K:PySem.W.Frag}
theorem qP {p:Addr} {xs:List V} {i:Int} {v:V} (h:SqT K H p xs) (hi:gE xs i = some v) (q:Q v H):tM K (.ref p) (.int i) H Q:=⟨p,xs,i,v,rfl,rfl,h,hi,q⟩
theorem bI {p:Addr} {xs:List V} {i:Int} {v:V} (h:aB K H p xs) (hi:gE xs i = some v) (q:Q v H):tN K (.ref p) (.int i) H Q:=⟨p,xs,i,v,rfl,rfl,h,hi,q⟩
theorem kR {x c:V} {t u:Value} {b:Bool} (ty:gF K H x t) (hc:lM c u) (e:PySem.W.kitOne K t u = some b) (q:Q (.bl b) H):uY K [x,c] H Q:=⟨x,c,t,u,b,rfl,ty,hc,e,q⟩
theorem d4 {n:Nat} {t:tf} {a:Addr} {xs:List V} {R:St→Hp→Prop} (h:SqT K H a xs) (hl:xs.length = n) (q:t xs σ H R):xw K n t (.ref a) σ H R:=⟨a,xs,rfl,h,hl,q⟩
theorem kS {t:TG} {u:tf} {v:V} {vs:List V} {R:St→Hp→Prop} (q:t v σ H fun σ' H'=>u vs σ' H' R):vv t u (v :: vs) σ H R:=⟨v,vs,rfl,q⟩
theorem nj {R:St→Hp→Prop} (q:R σ H):zD [] σ H R:=⟨rfl,q⟩
theorem tY {K:PySem.W.Frag}:PySem.W.kitOne K (.type "int") (.type "int") = some true:=by simp [PySem.W.kitOne]
end
end L2
namespace Fr
structure vD (a b t u:Int):Prop where
 pos:0 < u
 co:Int.gcd t u = 1
 eq:t * b = a * u
 ta:t.natAbs≤a.natAbs
 ub:u.natAbs≤b.natAbs
theorem kb (a b:Int):((Int.gcd a b:Nat):Int) ∣ a:=Int.gcd_dvd_left _ _
theorem ka (a b:Int):((Int.gcd a b:Nat):Int) ∣ b:=Int.gcd_dvd_right _ _
theorem iO (a:Int) {b:Int} (hb:b≠0):0 < Int.gcd a b:=Int.gcd_pos_of_ne_zero_right _ hb
theorem lj {a b d:Int} (hb:b≠0) (hd:d = if b < 0 then -((Int.gcd a b:Nat):Int) else ((Int.gcd a b:Nat):Int)):vD a b (a.fdiv d) (b.fdiv d):=by
 have g0:=iO a hb
 obtain ⟨x,hx⟩:=kb a b
 obtain ⟨y,hy⟩:=ka a b
 generalize hg:Int.gcd a b = g at *
 have gz:(g:Int)≠0:=by omega
 have HB:Int.gcd x y = 1:=by
  have h1:Int.gcd a b = g * Int.gcd x y:=by
   rw [hx,hy,Int.gcd_mul_left]; simp
  rw [hg] at h1
  exact Nat.eq_of_mul_eq_mul_left g0 (by omega)
 have xW:x.natAbs≤a.natAbs:=by
  rw [hx,Int.natAbs_mul]; simp; exact Nat.le_mul_of_pos_left _ g0
 have Hj:y.natAbs≤b.natAbs:=by
  rw [hy,Int.natAbs_mul]; simp; exact Nat.le_mul_of_pos_left _ g0
 by_cases jP:b < 0
 ·rw [if_pos jP] at hd
  have e1:a.fdiv d = -x:=by
   rw [hd,hx]
   have:(g:Int) * x = -(g:Int) * (-x):=by rw [Int.neg_mul_neg]
   rw [this]; exact Int.mul_fdiv_cancel_left _ (by omega)
  have e2:b.fdiv d = -y:=by
   rw [hd,hy]
   have:(g:Int) * y = -(g:Int) * (-y):=by rw [Int.neg_mul_neg]
   rw [this]; exact Int.mul_fdiv_cancel_left _ (by omega)
  have yk:y < 0:=by
   rcases Int.lt_trichotomy y 0 with h | h | h
   ·exact h
   ·rw [h] at hy; simp at hy; omega
   ·have:=Int.mul_pos (show (0:Int) < g by omega) h; omega
  refine ⟨by rw [e2]; omega,by rw [e1,e2,Int.gcd_neg,Int.neg_gcd]; exact HB,?_,by rw [e1,Int.natAbs_neg]; exact xW,by rw [e2,Int.natAbs_neg]; exact Hj⟩
  rw [e1,e2]
  have h1:x * b = a * y:=by
   calc x * b = x * (g * y):=by rw [← hy]
    _ = (g * x) * y:=by rw [Int.mul_left_comm,Int.mul_assoc]
    _ = a * y:=by rw [← hx]
  rw [Int.neg_mul,Int.mul_neg,h1]
 ·rw [if_neg jP] at hd
  have e1:a.fdiv d = x:=by
   rw [hd,hx]; exact Int.mul_fdiv_cancel_left _ gz
  have e2:b.fdiv d = y:=by
   rw [hd,hy]; exact Int.mul_fdiv_cancel_left _ gz
  have yk:0 < y:=by
   rcases Int.lt_trichotomy y 0 with h | h | h
   ·have:=Int.mul_neg_of_pos_of_neg (show (0:Int) < g by omega) h; omega
   ·rw [h] at hy; simp at hy; omega
   ·exact h
  refine ⟨by rw [e2]; exact yk,by rw [e1,e2]; exact HB,?_,by rw [e1]; exact xW,by rw [e2]; exact Hj⟩
  rw [e1,e2]
  calc x * b = x * (g * y):=by rw [← hy]
   _ = (g * x) * y:=by rw [Int.mul_left_comm,Int.mul_assoc]
   _ = a * y:=by rw [← hx]
theorem mv (a b:Int) (ha:0≤a) (hb:0 < b):Int.gcd b (a % b) = Int.gcd a b:=by
 obtain ⟨m,rfl⟩:=Int.eq_ofNat_of_zero_le ha
 obtain ⟨n,rfl⟩:=Int.eq_ofNat_of_zero_le (Int.le_of_lt hb)
 show Nat.gcd _ _ = Nat.gcd _ _
 simp only [Int.natAbs_natCast]
 rw [show ((m:Int) % (n:Int)).natAbs = m % n by rw [← Int.natCast_emod]; exact Int.natAbs_natCast _]
 rw [Nat.gcd_comm n (m % n),← Nat.gcd_rec,Nat.gcd_comm]
theorem oG (a b:Int):Int.gcd (if a < 0 then -a else a) (if b < 0 then -b else b) = Int.gcd a b:=by
 split <;> split <;> simp [Int.gcd_neg,Int.neg_gcd]
theorem oF (a:Int) (ha:0≤a):((Int.gcd a 0:Nat):Int) = a:=by simp [Int.gcd]; omega
end Fr
namespace L2
open PySem PySem.Spec PyProof.Rows
theorem nX {c:TT} {tb:TS} {D:Ends} {σ : St} {H:Hp} (Pv:St→Hp→Prop) (μ : St→Hp→Nat) (h0:Pv σ H)
  (hs:∀ σ H,Pv σ H→c σ H fun b H1=>if b = true then ∃ N:St→Hp→Prop,(∀ σ' H',N σ' H'→∃ m',m' < μ σ H∧(m' = μ σ' H'∧Pv σ' H'))∧tb { D with nx:=N,ct:=N,bk:=D.nx } σ H1 else D.nx σ H1):p8 c tb D σ H:=
 ⟨fun m σ H=>m = μ σ H∧Pv σ H,⟨_,rfl,h0⟩,by rintro m σ H ⟨rfl,p⟩; exact hs σ H p⟩
theorem w_turn {tb:TS} {r:VK} {bk:St→Hp→Prop} {σ : St} {H:Hp} {Pv:St→Hp→Prop} {μ : St→Hp→Nat} {m:Nat} (h:tb { nx:=fun σ' H'=>Pv σ' H'∧μ σ' H' < m,rt:=r,bk:=bk,ct:=fun σ' H'=>Pv σ' H'∧μ σ' H' < m } σ H) :
  ∃ N:St→Hp→Prop,(∀ σ' H',N σ' H'→∃ m',m' < m∧(m' = μ σ' H'∧Pv σ' H'))∧tb { nx:=N,rt:=r,bk:=bk,ct:=N } σ H:=⟨_,fun _ _ p=>⟨_,p.2,rfl,p.1⟩,h⟩
theorem wW {A B:Prop} (h:B):if (!true) = true then A else B:=t6 h
theorem uR:2≤sizeLine:=by rw [sizeLine_eq]; decide
theorem yE:3≤sizeLine:=by rw [sizeLine_eq]; decide
end L2
namespace L2
open PySem PySem.Spec PyProof.Rows
theorem dS {CX:mV} {P:Program} {w:World} {K:PySem.W.Frag} {mg:Str→Option Value} {base:Heap} {N:List Str} {q:Str} {sc:Scope} {f:Addr} {cd:Value} {A:Around} {o:List Env} {s:Shared} {H:Hp} {E:XK}:(gA CX P w K mg base N q sc f cd A o s H E).K = K:=rfl
end L2
namespace L2
open PySem PySem.Spec PyProof.Rows
section
variable {K:PySem.W.Frag}
theorem wM:PySem.W.kitOne K (.type "int") (.type "bool") = some false:=by kernel_rfl
theorem wK:PySem.W.kitOne K (.type "tuple") (.type "tuple") = some true:=by kernel_rfl
theorem wL:PySem.W.kitOne K (.type "list") (.type "list") = some true:=by kernel_rfl
end
end L2
namespace L2
open PySem PySem.Spec PyProof.Rows
theorem mulL {a b:Int} (h1 : -(2 ^ 64) < a) (h2:a < 2 ^ 64):IntMulOk a b:=.of_left (intBits_le_64 h1 h2)
theorem Sz.GK {n:Nat} {x:Int} (h1 : -(2 ^ 64) < x) (h2:x < 2 ^ 64) (hn:64≤n):Sz n x:=Sz.mono (m:=64) (by unfold Sz; omega) hn
theorem lD {i j:Int} (h1:0 < j) (h2:j < 2 ^ 64):As i j:=⟨h1,Sz.GK (by omega) h2 (by decide)⟩
section
variable {X:Cx} {a b:Expr} {i j v:Int} {op:Operator} {pos:Pos} {C:Int→Int→Prop} {g:Int→Int→V}
theorem fc (ho:jU X (binaryOp op) (rI C g)) (ha:PE X a (tC (.int i))) (hb:PE X b (tC (.int j))) (c:C i j) (e:g i j = .int v):PE X (.BinOp a op b pos) (tC (.int v)):=
 fun pins s σ H Q I h=>au ho ha hb pins s σ H Q I ⟨i,j,rfl,rfl,c,by rw [e]; exact h⟩
end
end L2
namespace L2
open PySem PySem.Spec PyProof.Rows
end L2
end
section
namespace L2
open PySem PySem.Spec PySem.W PySem.Calls PyProof.Rows Builtin Builtin.ObjectAttr Builtin.Getset_descriptor
def ExcAt (C:Addr) (a:Addr) (h:Heap):Prop:=∃ ob,h.get? a = some ob∧ob.cls = .ref C∧PySem.W.notCls ob = true
def pE (C a:Addr):HO:=.ext (ExcAt C a)
theorem ExcAt.iw {C a:Addr} {h h':Heap} (x:ExcAt C a h) (k:∀ o,h.get? a = some o→h'.get? a = some o):ExcAt C a h':=let ⟨o,e,r⟩:=x; ⟨o,k o e,r⟩
theorem ui {P:Program} {w:World} {H:Hp} {h:Heap} {C a:Addr} (x:ExcAt C a h):bW P w H h a (pE C a):=
 ⟨x,let ⟨o,e,_⟩:=x; ⟨o,e⟩,fun _ _ y k=>y.iw k⟩
theorem uj {P:Program} {w:World} {H:Hp} {h:Heap} {C a:Addr} (hk:fT P w H h) (e:H a = some (pE C a)):ExcAt C a h:=(hk a _ e).1
theorem ExcAt.ty {C a:Addr} {h:Heap} {M:Model} (x:ExcAt C a h):Looks M h (typeOf (.ref a)) (.ref C):=by
 obtain ⟨o,e,c,_⟩:=x
 exact c▸(Looks.ld e).andThen .now
structure ir (K:Frag) (D:Addr):Prop where
 LB:findIn K (.ref D) "__getattribute__" = some (some (.builtin "BaseException.__getattribute__"))
 LA:findIn K (.ref D) "__getattr__" = some none
 El:mroIn K D (.type "BaseException") = some true
 cl:(clsIn K D).isSome = true
 ha:findIn K (.ref D) "__class__" = some (some (.builtin "object.__class__"))
 hn:specialIn K (.builtin "object.__class__") "__get__" = some (some (.builtin "getset_descriptor.__get__"))
 AW:takesIn K (.builtin "object.__class__") = some true
 hm:mroIn K D (.type "object") = some true
section
variable {prog:Program} {w:World} {A:Around} {E:Value→Shared→Prop} {s:Shared} {K:Frag} {x D:Addr}
theorem uk {M:Model} {h:Heap} (X:K.In h) (c:ir K D):Looks M h (find (.ref x) (.ref D) "__class__") (.bind (.builtin "getset_descriptor.__get__") (.builtin "object.__class__")):=by
 have l1:=looks_findIn (M:=M) X c.ha
 have l2:Looks M h (getOf (some (.builtin "object.__class__"))) (some (.builtin "getset_descriptor.__get__")):=looks_specialIn X c.hn
 have l3:=looks_takesIn (M:=M) X c.AW
 refine l1.andThen (l2.andThen ?_)
 have l4:Looks M h (dataDescriptor? (some (.builtin "object.__class__")) (some (.builtin "getset_descriptor.__get__"))) (some (.builtin "getset_descriptor.__get__",.builtin "object.__class__")):=l3.andThen .now
 exact l4.andThen (Looks.tag .now)
theorem xB {R:Result→Shared→Prop} {tp:Value} (X:K.In s.heap) (I:ExcAt D x s.heap) (c:ir K D) (h:R (.ok (.ret (.ref D))) s) :
  codeAny (model prog w) A (.call (.builtin "getset_descriptor.__get__") ⟨[.builtin "object.__class__",.ref x,tp],[]⟩) R s:=by
 obtain ⟨oo,e,cc,nc⟩:=I
 obtain ⟨Kl,od,Ka,pT⟩:=oo
 have I':ExcAt D x s.heap:=⟨_,e,cc,nc⟩
 obtain ⟨hh,g,dr,t,os⟩:=s
 have k0:=I'.ty (M:=model prog w)
 have k1:=looks_mroIn (M:=model prog w) X c.hm
 refine codeAny_call_builtin KF.slot_gs.plain KF.entry_gs (KF.slot_gs.check _ _ _ _ _ _ _ _ KF.type_class (KF.args_gs _ _ _) ?_)
 unfold Builtin.«getset_descriptor.__get__» descrGet
 rw [dga_obj]
 refine wpAny_bind (wpAny_pure ?_)
 unfold descrGetter descrCheckInstance descrNameAndClass isInstance
 simp only [KF.owner_class]
 repeat lk
 refine ⟨Code.quiet_builtin _ (by decide +kernel),codeAny_builtin KF.entry_class ?_⟩
 unfold Builtin.«object.__class__» shownTypeOf
 repeat lk
 exact h
theorem sf {M:Model} {vd:Value} {Q:Unit→Shared→Prop} (X:K.In s.heap) (I:ExcAt D x s.heap) (El:mroIn K D (.type "BaseException") = some true) (hq:Q () s):wpAny M A (checkBuiltinCall "BaseException.__getattribute__" ⟨[.ref x,vd],[]⟩) Q E s:=by
 obtain ⟨hh,g,d,t,os⟩:=s
 have k0:=I.ty (M:=M)
 have k1:=looks_mroIn (M:=M) X El
 have hk:builtinKind "BaseException.__getattribute__" = some .slot:=by decide +kernel
 have hs:splitId "BaseException.__getattribute__" = some ("BaseException", "__getattribute__"):=by decide +kernel
 have ha:=F.args_bexc_ga (.ref x) vd
 simp only [checkBuiltinCall,hk,hs]
 refine wpAny_bind ?_
 unfold isInstance
 repeat (first | lk | wp_step)
 exact hq
theorem sd {tk:Tok} {Q:PySem.Fin→Shared→Prop} (X:K.In s.heap) (I:ExcAt D x s.heap) (c:ir K D) (hq:Q (.done (.ret (.ref D))) s) :
  wpAny (model prog w) A (Builtin.«object.__getattribute__» ⟨[.ref x,.str "__class__" tk],[]⟩) Q E s:=by
 have I':=I
 have X':=X
 obtain ⟨hh,g,d,t,os⟩:=s
 have k0:=I.ty (M:=model prog w)
 have k2:=uk (x:=x) (M:=model prog w) X c
 repeat (any_goals (first | assumption | with_reducible refine Looks.at (by assumption) ?_ | wp_step))
 refine xB (s:=⟨hh,g,d,t,os⟩) X' I' c ?_
 repeat (any_goals (first | assumption | wp_step))
theorem um {tk:Tok} {R:Result→Shared→Prop} (X:K.In s.heap) (I:ExcAt D x s.heap) (c:ir K D) (hq:R (.ok (.ret (.ref D))) s) :
  codeAny (model prog w) A (.call (.builtin "BaseException.__getattribute__") ⟨[.ref x,.str "__class__" tk],[]⟩) R s:=
 codeAny_call_builtin F.attr_ValueError.ga.plain F.entry_bexc_ga (sf X I c.El (sd X I c hq))
theorem se {Q:Option Value→Shared→Prop} (X:K.In s.heap) (I:ExcAt D x s.heap) (c:ir K D) (h:Q (some (.ref D)) { s with toks:=s.toks + 1 }):wpAny (model prog w) A (getAttr? (.ref x) "__class__") Q E s:=by
 have I':=I
 have X':=X
 obtain ⟨hh,g,d,t,os⟩:=s
 have k0:=I.ty (M:=model prog w)
 have k1:=looks_findIn (M:=model prog w) X c.LB
 have k3:=looks_findIn (M:=model prog w) X c.LA
 have f3:=F.attr_ValueError.ga.bind (.ref x)
 have vj:(Value.builtin "BaseException.__getattribute__" == Value.builtin "object.__getattribute__") = false:=by decide +kernel
 have AU:(onTheHeap (Value.ref D) && Value.builtin "BaseException.__getattribute__" == Value.builtin "object.__getattribute__") = false:=by rw [vj]; rfl
 have AV:(false && onTheHeap (Value.builtin "BaseException.__getattribute__")) = false:=rfl
 unfold getAttr? getAttrBy?
 refine wpAny_bind (wpAny_mkText (wpAny_bind (wpAny_attempt ?_)))
 repeat (any_goals (first | assumption | with_reducible refine Looks.at (by assumption) ?_ | wp_step))
 refine um (s:=⟨hh,g,d,t + 1,os⟩) X' I' c ?_
 repeat (any_goals (first | assumption | wp_step))
theorem rQ (c:ir K D):KitX K (.ref x) (.ref D) (ExcAt D x) where
 ty:=fun _ _ _ I=>I.ty
 it:=fun _ _ X _=>by
  obtain ⟨MC,xm⟩:=Option.isSome_iff_exists.mp c.cl
  unfold clsIn at xm
  split at xm
  ·rename_i c' d' MD B7 ho
   intro A' Q' E' s' k q
   unfold isType loadHead
   exact wpAny_bind (wpAny_loadPart (k _ _ (X _ _ ho)) (wpAny_pure q))
  ·cases xm
 ne:=fun h tp dd aY n sl X xX=>by
  obtain ⟨MC,xm⟩:=Option.isSome_iff_exists.mp c.cl
  refine Bool.eq_false_iff.mpr fun q=>?_
  have e:D = tp:=Value.ref.inj (beq_iff_eq.mp q)
  subst e
  unfold clsIn at xm
  split at xm
  ·rename_i c' d' MD B7 ho
   have z:=(X _ _ ho).symm.trans xX
   cases z
  ·cases xm
 ca:=fun X I k=>se X I c k
end
end L2
end
section
namespace L2
open PySem PySem.Spec PySem.W PySem.Calls PyProof.Rows
theorem bW.there {P:Program} {w:World} {H:Hp} {h:Heap} {a:Addr} {o:HO} (x:bW P w H h a o):∃ ob,h.get? a = some ob:=by
 induction o with
 | lst xs=>obtain ⟨_,_,_,_,e⟩:=x; exact ⟨_,e⟩
 | tup xs=>obtain ⟨_,_,_,ob,e,_⟩:=x; exact ⟨ob,e⟩
 | dK bE=>obtain ⟨_,_,_,_,o,_,_,e,_⟩:=x; exact ⟨o,e⟩
 | dT bE=>obtain ⟨_,_,_,_,o,_,_,e,_⟩:=x; exact ⟨o,e⟩
 | set S n=>obtain ⟨ob,_,_,_,e,_⟩:=x; exact ⟨ob,e⟩
 | ins C dx fs=>obtain ⟨_,_,_,e,_⟩:=x; exact ⟨_,e⟩
 | own y=>exact x
 | xd fs=>obtain ⟨_,⟨od,_,_,e,_⟩,_⟩:=x; exact ⟨od,e⟩
 | AE lo hi=>obtain ⟨_,_,_,e⟩:=x; exact ⟨_,e⟩
 | lN ob u ih=>obtain ⟨e,_⟩:=x; exact ⟨ob,e⟩
 | uM ps=>exact ⟨_,x⟩
 | met f y=>exact ⟨_,x⟩
 | ext φ=>obtain ⟨_,e,_⟩:=x; exact e
def ko (B:Heap) (fr:List Addr) (h:Heap):Prop:=∀ b o,h.get? b = some o→b∉fr→∃ o',B.get? b = some o'
section
variable {X:Cx} {pins:List (Addr×Obj)} {σ : St} {H:Hp} {s:Shared} {B h':Heap}
theorem Inv.kc {t':Nat} (I:Inv X pins σ H s) (hex:X.ex = []) (b1:B.StaysIn s.heap) (b2:B.StaysIn h') (c0:ko B (eC X.stack) X.s₀.heap) (ct:∀ b o,H b = some o→∃ ob,B.get? b = some ob)
  (cp:∀ p∈X.pn ++ pins,∃ ob,B.get? p.1 = some ob) (up:s.heap.UpToSlots h'):Inv X pins σ H { s with heap:=h',toks:=t' }:=by
 have AS:∀ {b o ob},s.heap.get? b = some o→B.get? b = some ob→h'.get? b = some o:=fun {b o ob} e q=>by
  have:=b1 b ob q
  rw [e] at this; cases this
  exact b2 b _ q
 have nL:∀ b o,X.s₀.heap.get? b = some o→b∉X.fs→b∉eC X.stack:=fun b o e hb z=>by
  rcases List.mem_cons.mp (I.dD b z) with q | q
  ·exact absurd (Nat.lt_of_lt_of_le (Heap.lt_size e) I.ok.above) (by rw [q]; exact Nat.lt_irrefl _)
  ·exact hb q
 have G4:∀ b:Addr,b∉X.ex:=fun b z=>by rw [hex] at z; cases z
 have fr:∀ b∈X.fs,∃ o,s.heap.get? b = some o∧∀ vs,o.data≠.fields vs:=fun b hb=>(I.hV.mem hb).2
 have cellK:∀ {c v},s.heap.IsCell c v→h'.IsCell c v:=fun {c v} ⟨o,ho,hd⟩=>by
  obtain ⟨sl,e⟩:=up c o ho fun vs z=>by rw [hd] at z; cases z
  exact ⟨_,e,hd⟩
 refine ⟨I.ok,I.os,I.bare,⟨fun b o e n hb _=>?_,fun b o e n hb _=>?_,I.base.free,fun b o e _=>?_,I.base.iT,I.base.iE,I.base.iU⟩,?_,fun x c e=>?_,I.free,I.dk,fun p hp=>?_,fun b u e=>?_,I.len⟩
 ·obtain ⟨ob,q⟩:=c0 b o e (nL b o e hb)
  exact AS (I.base.keep b o e n hb (G4 b)) q
 ·obtain ⟨sl,q⟩:=I.base.slot b o e n hb (G4 b)
  obtain ⟨o2,q2,nf⟩:=fr b hb
  obtain ⟨uR,q3⟩:=up b o2 q2 nf
  rw [q] at q2; cases q2
  exact ⟨uR,q3⟩
 ·by_cases hb:b∈X.fs
  ·obtain ⟨o2,q2,nf⟩:=fr b hb
   obtain ⟨uR,q3⟩:=up b o2 q2 nf
   exact ⟨_,q3⟩
  ·obtain ⟨ob,q⟩:=c0 b o e (nL b o e hb)
   exact ⟨ob,b2 b ob q⟩
 ·obtain ⟨m,hn,hl⟩:=I.loc
  refine ⟨m,up.ns hn,fun i x v e1 e2 e3=>?_⟩
  obtain ⟨u,r,l⟩:=hl i x v e1 e2 e3
  refine ⟨u,r,?_⟩
  rcases l with l | ⟨k,c,e,z⟩
  ·exact .inl l
  ·exact .inr ⟨k,c,e,cellK z⟩
 ·obtain ⟨v,z⟩:=I.cell x c e
  exact ⟨v,cellK z⟩
 ·obtain ⟨e,n,ne,nf,d⟩:=I.pin p hp
  obtain ⟨ob,q⟩:=cp p hp
  exact ⟨AS e q,n,ne,nf,d⟩
 ·refine (I.bJ b u e).iw (fun c v hc q=>?_) (fun _ q=>q) fun _ _ q=>q
  rcases hc with z | z
  ·subst z
   obtain ⟨ob,q2⟩:=ct c u e
   exact AS q q2
  ·obtain ⟨ob,q2⟩:=ct c _ z
   exact AS q q2
end
structure sU (P:Program) (w:World) (outer:List Env) (H:Hp) (s:Shared) (a:Addr) (cls:Value) (H':Hp) (s':Shared):Prop where
 os:s'.os = s.os
 bare:AllBare s'.gens
 un:Un (eC outer) [] H H' s.heap s'.heap
 bJ:fT P w H' s'.heap
 lB:∃ B a0,Heap.FlyingW B outer a cls a0 s'.heap∧ko B (eC outer) s.heap∧∀ b o,H' b = some o→∃ ob,B.get? b = some ob
 new:H' a = none
 fresh:s.heap.get? a = none
def bH (P:Program) (w:World):mV:=fun outer H s E e s'=>∃ a cls H',e = .ref a∧sU P w outer H s a cls H' s'∧E cls none H'
section
variable {X:Cx} {pins:List (Addr×Obj)} {σ : St} {H:Hp} {s:Shared}
structure Body (X:Cx):Prop where
 ex:X.ex = []
 pn:X.pn = []
 lT:X.stack = X.env :: X.outer
 fr:X.env.frame = some X.env.locals
theorem oS {CX:mV} {P:Program} {w:World} {K:Frag} {mg:Str→Option Value} {base:Heap} {N:List Str} {qual:Str} {scope:Scope} {f:Addr} {cd:Value} {A:Around} {outer:List Env} {s:Shared} {H:Hp} {E:XK} :
  Body (gA CX P w K mg base N qual scope f cd A outer s H E):=⟨rfl,rfl,rfl,rfl⟩
theorem Inv.none_of (I:Inv X pins σ H s) {a:Addr} (e:s.heap.get? a = none):H a = none:=by
 cases q:H a with
 | none=>rfl
 | some o=>
  obtain ⟨ob,z⟩:=(I.bJ a o q).there
  rw [e] at z; cases z
theorem Inv.nN (I:Inv X pins σ H s) (hex:X.ex = []) {a:Addr} (e:s.heap.get? a = none):X.s₀.heap.get? a = none:=by
 cases q:X.s₀.heap.get? a with
 | none=>rfl
 | some o=>
  obtain ⟨o',z⟩:=I.base.there a o q (by rw [hex]; simp)
  rw [e] at z; cases z
theorem nG {E:XK} {E':Value→Shared→Prop} {h':Heap} {e:Addr} {cls:Value} {vs:List Value} (I:Inv X pins σ H s) (hb:Body X) (hx:Heap.MadeExcOf s.heap h' e cls vs) (q:E cls none H) :
  wpAny (model X.prog X.w) X.A (leaving X.env (.ref e)) (fun _ vT=>bH X.prog X.w X.outer X.H₀ X.s₀ E (.ref e) vT) E' { s with heap:=h' }:=by
 have Lv:∀ env∈X.stack,∀ b,env.frame = some b→b∈X.stack.filterMap (·.frame):=fun env he b hb=>List.mem_filterMap.mpr ⟨env,he,hb⟩
 have Hu:(hideAll s.heap (eC X.stack)).StaysIn s.heap:=fun b o q=>of_hideAll _ q
 have mq:X.A.frames = some (X.env :: X.outer):=by rw [← hb.lT]; exact I.ok.frames
 have hl:s.heap.FunFrames (hideAll s.heap (eC X.stack)) (X.env :: X.outer):=by rw [← hb.lT]; exact funFrames_hide I.stack Lv
 have cv:∀ {b o},s.heap.get? b = some o→b∉eC X.stack→(hideAll s.heap (eC X.stack)).get? b = some o:=fun e n=>hideAll_get _ e n
 have sub:∀ b∈eC X.outer,b∈eC X.stack:=fun b z=>by rw [hb.lT]; unfold eC; rw [List.filterMap_cons,hb.fr]; exact List.mem_cons_of_mem _ z
 refine wpAny_leaves_madeW (base:=hideAll s.heap (eC X.stack)) (s:={ s with heap:=h' }) mq hb.fr Hu hl hx fun h2 t lB tup bt up=>?_
 have IF:s.heap.UpToSlots h2:=(Heap.UpToSlots.of_keeps hx.keeps).trans up
 have c0:ko (hideAll s.heap (eC X.stack)) (eC X.stack) X.s₀.heap:=fun b o e n=>by
  obtain ⟨o',z⟩:=I.base.there b o e (by rw [hb.ex]; simp)
  exact ⟨o',cv z n⟩
 have ct:∀ b o,H b = some o→∃ ob,(hideAll s.heap (eC X.stack)).get? b = some ob:=fun b o e=>by
  obtain ⟨ob,z⟩:=(I.bJ b o e).there
  exact ⟨ob,cv z fun m=>by rw [I.iJ b m] at e; cases e⟩
 have J:Inv X [] σ H { s with heap:=h2,toks:=s.toks }:=Inv.kc (I.iL fun p hp=>by cases hp) hb.ex Hu lB.1 c0 ct (fun p hp=>by rw [hb.pn] at hp; cases hp) IF
 refine ⟨e,cls,H,rfl,⟨J.os,J.bare,?_,J.bJ,⟨_,_,lB,?_,ct⟩,I.none_of hx.new,I.nN hb.ex hx.new⟩,q⟩
 ·have:=J.base
  rw [hb.ex] at this
  exact this
 ·intro b o e' n
  refine c0 b o e' fun m=>?_
  rw [hb.lT] at m
  unfold eC at m
  rw [List.filterMap_cons,hb.fr] at m
  rcases List.mem_cons.mp m with z | z
  ·exact absurd (Nat.lt_of_lt_of_le (Heap.lt_size e') I.ok.above) (by rw [z]; exact Nat.lt_irrefl _)
  ·exact n z
theorem sU.inv {a:Addr} {cls:Value} {H':Hp} {s':Shared} (I:Inv X pins σ H s) (F:sU X.prog X.w X.stack H s a cls H' s'):Inv X pins σ H' s':=
 I.sH (ch:=[]) F.os F.un F.bJ F.bare fun b z=>by cases z
theorem nF {E:XK} {E':Value→Shared→Prop} {a:Addr} {cls:Value} {H':Hp} {s':Shared} (I:Inv X pins σ H s) (hb:Body X) (F:sU X.prog X.w X.stack H s a cls H' s') (q:E cls none H') :
  wpAny (model X.prog X.w) X.A (leaving X.env (.ref a)) (fun _ vT=>bH X.prog X.w X.outer X.H₀ X.s₀ E (.ref a) vT) E' s':=by
 obtain ⟨B,a0,lB,xE,ct⟩:=F.lB
 have mq:X.A.frames = some (X.env :: X.outer):=by rw [← hb.lT]; exact I.ok.frames
 have I':=F.inv I
 have zG:=lB
 rw [hb.lT] at zG
 refine wpAny_leaves_onW mq hb.fr zG fun h2 zF up=>?_
 have c0:ko B (eC X.stack) X.s₀.heap:=fun b o e n=>by
  obtain ⟨o',z⟩:=I.base.there b o e (by rw [hb.ex]; simp)
  exact xE b o' z n
 have J:Inv X [] σ H' { s' with heap:=h2,toks:=s'.toks }:=Inv.kc (I'.iL fun p hp=>by cases hp) hb.ex lB.1 zF.1 c0 ct (fun p hp=>by rw [hb.pn] at hp; cases hp) up
 refine ⟨a,cls,H',rfl,⟨J.os,J.bare,?_,J.bJ,⟨_,_,zF,?_,ct⟩,F.new,I.nN hb.ex F.fresh⟩,q⟩
 ·have:=J.base
  rw [hb.ex] at this
  exact this
 ·intro b o e' n
  refine c0 b o e' fun m=>?_
  rw [hb.lT] at m
  unfold eC at m
  rw [List.filterMap_cons,hb.fr] at m
  rcases List.mem_cons.mp m with z | z
  ·exact absurd (Nat.lt_of_lt_of_le (Heap.lt_size e') I.ok.above) (by rw [z]; exact Nat.lt_irrefl _)
  ·exact n z
end
theorem vb {P:Program} {w:World} {K:Frag} {mg:Str→Option Value} {base:Heap} {N:List Str} {qual:Str} {scope:Scope} {f:Addr} {cd:Value} {A:Around} {outer:List Env} {s:Shared} {H:Hp} {E:XK} :
  Passes (bH P w) (gA (bH P w) P w K mg base N qual scope f cd A outer s H E) E:=by
 rintro pins σ H1 s1 e s' I ⟨a,cls,H',rfl,F,q⟩
 exact nF I oS F q
theorem aM {P:Program} {w:World} {X:Cx}:Passes (bH P w) X E0:=by
 rintro pins σ H1 s1 e s' I ⟨a,cls,H',rfl,F,q⟩
 exact q.elim
end L2
end
section
namespace L2
open PySem PySem.Spec PySem.W PySem.Calls PyProof.Rows
theorem uh {K:Frag} {h:Heap} {C:Addr} {Ah:List Value} {newId:String} (X:K.In h) (q:excIn K C Ah newId = true) :
  ∃ bm N nm qn bs hdct sn sub ab col dd k0 k1 k2 k3 k5 mN,h.get? C = some (excClassObj nm qn C N bs bm hdct sn sub ab col dd k0 k1 k2 k3 k5 newId)∧h.Ns N mN∧mN "__init__" = none∧OwnTail h Ah bm:=by
 unfold excIn at q
 split at q
 ·rename_i dd cd sl ho
  split at q
  ·rename_i C' bm k0 k1 k2 k3 n k5 hm hs
   simp only [Bool.and_eq_true,beq_iff_eq,Bool.not_eq_true'] at q
   obtain ⟨⟨⟨⟨⟨q1,q2⟩,zx⟩,ht⟩,bJ⟩,A1⟩:=q
   subst q1 q2
   obtain ⟨nm,bs,mro,ns,qn,hd,sn,sub,ab,col,del⟩:=cd
   dsimp only at hm zx bJ A1
   subst hm zx
   obtain ⟨l⟩:=sl
   have hl:l = [k0,k1,k2,k3,some (.builtin n),k5]:=hs
   subst hl
   exact ⟨bm,ns,nm,qn,bs,hd,sn,sub,ab,col,dd,k0,k1,k2,k3,k5,_,X _ _ ho,.of_isNs (isNs_of_in X bJ),nsMap_none_of_in X bJ A1,tail_of_in X ht⟩
  ·cases q
 ·cases q
def qf (Ex:XK) (C:Addr) (ta:TA):TS:=fun _ σ H=>ta σ H fun vs H1=>vs.length≤sizeLine∧Ex (.ref C) none H1
theorem rf {X:Cx} {x:Str} {C:Addr} {Bn newId wV:String} {Ah:List Value} {np fK pos:Pos} {e:Expr} {es:List Expr} {ta:TA} {Ex:XK} (FB:ExcBaseFacts Bn newId wV Ah) (hq:excIn X.K C Ah newId = true) (hm:X.mg x = some (.ref C))
  (hc:X.calm = true) (ha:PA X (e :: es) ta)
  (hx:∀ pins s σ H h' a vs,Inv X pins σ H s→Heap.MadeExcOf s.heap h' a (.ref C) vs→Ex (.ref C) none H→X.xe (.ref a) { s with heap:=h' }) (hg:Gl X x:=by rfl) (lu:(x == ("__debug__" : Str)) = false:=by decide)
  (he:starEach (e :: es) X.env = (false,eval e X.env) :: starEach es X.env:=by rfl) (jF:(backTo fK (starEach es X.env)).any (·.1) = false:=by rfl) :
  PS X (.Raise (some (.Call (.Name x np) (e :: es) [] fK)) none pos) (qf Ex C ta):=by
 intro pins s σ H D I h
 obtain ⟨tl,N,nm,q,bs,hdct,sn,sub,ab,col,dd,k0,k1,k2,k3,k5,mN,hC,hN,A1,T⟩:=uh I.ok.mod.yX hq
 refine wpAny_Raise_call_subT (C:=C) (nm:=nm) (q:=q) (N:=N) (bs:=bs) (bm:=tl) (hdct:=hdct) (sn:=sn) (sub:=sub) (ab:=ab) (col:=col) (dd:=dd) (k0:=k0) (k1:=k1) (k2:=k2) (k3:=k3) (k5:=k5)
  FB (mN:=mN) (T.hasType FB.hasBase) (I.ok.hd hc) (by rw [he]; show (false || (backTo fK (starEach es X.env)).any (·.1)) = false; rw [jF]; rfl) A1 (fe I hg hm ⟨rfl,?_⟩ lu)
 have h2:=ha fK pins s σ H _ I h
 rw [he] at h2 ⊢
 refine Calls.evalArgs_plain (wpAny_mono h2 (fun us s2 z=>?_) fun _ _ y=>y)
 obtain ⟨vs,H1,I1,r1,hl,qx⟩:=z
 exact ⟨rfl,by rw [← r1.length]; exact hl,I1.bk _ _ hC,hN.keeps I1.bk,T.keeps I1.bk,fun h' a mk=>hx pins s2 σ H1 h' a us I1 mk qx⟩
theorem vW {P:Program} {w:World} {K:Frag} {mg:Str→Option Value} {base:Heap} {N:List Str} {qual:Str} {scope:Scope} {f:Addr} {cd:Value} {A:Around} {outer:List Env} {s0:Shared} {H0:Hp} {E:XK} {C:Addr} :
  ∀ pins s σ H h' a vs,Inv (gA (bH P w) P w K mg base N qual scope f cd A outer s0 H0 E) pins σ H s→Heap.MadeExcOf s.heap h' a (.ref C) vs→E (.ref C) none H→
   (gA (bH P w) P w K mg base N qual scope f cd A outer s0 H0 E).xe (.ref a) { s with heap:=h' }:=fun pins s σ H h' a vs I mk q=>nG I oS mk q
section
variable {X:Cx} {pins:List (Addr×Obj)} {σ : St} {H:Hp} {s:Shared}
theorem Inv.yo {a:Addr} {o:HO} (I:Inv X pins σ H s) (hn:H a = none) (new:bW X.prog X.w (upd H a o) s.heap a o) (fr:X.s₀.heap.get? a = none) (nL:a≠X.env.locals) (nc:∀ x c,X.env.cells.lookup x = some c→c≠a) (np:∀ p∈X.pn ++ pins,p.1≠a) :
  Inv X pins σ (upd H a o) s:=by
 refine ⟨I.ok,I.os,I.bare,⟨I.base.keep,I.base.slot,fun b u e n hx=>?_,I.base.there,fun b xs e=>?_,fun b u v e=>?_,fun b ps e=>?_⟩,I.loc,I.cell,?_,fun x c e=>?_,fun p hp=>?_,fun b u e=>?_,I.len⟩
 ·have hb:b≠a:=fun z=>by rw [z,fr] at e; cases e
  rw [av hb]; exact I.base.free b u e n hx
 ·have z:=I.base.iT b xs e
  rw [av (aG z hn)]; exact z
 ·have z:=I.base.iE b u v e
  rw [av (aG z hn)]; exact z
 ·obtain ⟨m,z⟩:=I.base.iU b ps e
  exact ⟨m,by rw [av (aG z hn)]; exact z⟩
 ·rw [av (Ne.symm nL)]; exact I.free
 ·rw [av (nc x c e)]; exact I.dk x c e
 ·obtain ⟨e,n,r⟩:=I.pin p hp
  exact ⟨e,by rw [av (np p hp)]; exact n,r⟩
 ·by_cases hb:b = a
  ·subst hb; rw [ah] at e; cases e; exact new
  ·rw [av hb] at e
   exact (I.bJ b u e).iw (fun c v _ q=>q) (fun c q=>by rw [av (aG q hn)]; exact q) fun c xs q=>by rw [av (aG q hn)]; exact q
theorem iN {M:Model} {A:Around} {E:Value→Shared→Prop} {i:Nat} {x:Str} {pos:Pos} {Q:Unit→Shared→Prop} (I:Inv X pins σ H s) (hN:X.N.Nodup) (hi:X.N[i]? = some x) (hk:X.env.scope.names.lookup x = some .local)
  (h:∀ s',Inv X pins (σ.set i none) H s'→Q () s'):wpAny M A (do bindName X.env x .none; unbindBehindTheSuite X.env x pos) Q E s:=by
 obtain ⟨m,hn,hl⟩:=id I.loc
 have xk:(X.env.scope.kind == .class || (X.env.scope.kind == .module && X.env.locals != X.env.globals)) = false:=by rw [I.ok.kind]; rfl
 have hiσ : i < σ.length:=by rw [I.len]; exact (List.getElem?_eq_some_iff.mp hi).1
 refine wpAny_nameGoes_keeps hk hn xk fun h' v Ek hs=>h _ ?_
 obtain ⟨oL,_,_,Ht,_⟩:=id hn
 have lt:∀ b o,X.s₀.heap.get? b = some o→b≠X.env.locals:=fun b o e=>Nat.ne_of_lt (Nat.lt_of_lt_of_le (Heap.lt_size e) I.ok.above)
 refine ⟨I.ok,I.os,I.bare,⟨fun b o e n hb hx=>(hs.2 b (lt b o e)).trans (I.base.keep b o e n hb hx),fun b o e n hb hx=>?_,I.base.free,fun b o e hx=>?_,I.base.iT,I.base.iE,I.base.iU⟩,⟨_,Ek,fun j y v' e1 e2 e3=>?_⟩,fun y c e=>?_,I.free,I.dk,fun p hp=>?_,fun b u e=>?_,by simpa using I.len⟩
 ·obtain ⟨sl,e1⟩:=I.base.slot b o e n hb hx
  exact ⟨sl,(hs.2 b (lt b o e)).trans e1⟩
 ·obtain ⟨o',e1⟩:=I.base.there b o e hx
  exact ⟨o',(hs.2 b (lt b o e)).trans e1⟩
 ·by_cases hj:j = i
  ·subst hj
   rw [List.getElem?_set_self hiσ] at e2
   cases e2
  ·rw [List.getElem?_set_ne (Ne.symm hj)] at e2
   obtain ⟨u',r',q⟩:=hl j y v' e1 e2 e3
   refine ⟨u',r',?_⟩
   rcases q with ⟨k,e⟩ | ⟨k,c,e,z⟩
   ·refine .inl ⟨k,?_⟩
    have:y≠x:=fun e=>hj (jd hN e1 (e▸hi))
    simp [this,e]
   ·exact .inr ⟨k,c,e,z.sameBut hs (I.uv y c e)⟩
 ·obtain ⟨w',z⟩:=I.cell y c e
  exact ⟨w',z.sameBut hs (I.uv y c e)⟩
 ·obtain ⟨e,n,ne,nf,d⟩:=I.pin p hp
  exact ⟨(hs.2 p.1 ne).trans e,n,ne,nf,d⟩
 ·refine (I.bJ b u e).iw (fun c w' hc q=>(hs.2 c ?_).trans q) (fun _ q=>q) fun _ _ q=>q
  rintro rfl
  rcases hc with rfl | hc
  ·rw [I.free] at e; cases e
  ·rw [I.free] at hc; cases hc
def Cx.marked (X:Cx) (a:Addr):Cx:={ X with A:=X.A.mark (some (.ref a)),calm:=false,xe:=fun _ _=>False }
theorem Inv.mark {a:Addr} (I:Inv X pins σ H s):Inv (X.marked a) pins σ H s:=
 ⟨⟨I.ok.mod,I.ok.kind,I.ok.glob,I.ok.blt,I.ok.above,I.ok.inj,I.ok.has,I.ok.yh,(fun z=>absurd (show false = true from z) Bool.false_ne_true),I.ok.frames,I.ok.lT,I.ok.EW,I.ok.bs,I.ok.uD,I.ok.nC,I.ok.r0,I.ok.hV,I.ok.xy⟩,I.os,I.bare,I.base,I.loc,I.cell,I.free,I.dk,I.pin,I.bJ,I.len⟩
theorem Inv.unmark {a:Addr} (J:X.Ok) (I:Inv (X.marked a) pins σ H s):Inv X pins σ H s:=⟨J,I.os,I.bare,I.base,I.loc,I.cell,I.free,I.dk,I.pin,I.bJ,I.len⟩
end
def EX (X:Cx) (pins:List (Addr×Obj)) (σ : St) (Ex:XK) (e:Value) (s':Shared):Prop:=
 ∃ a cls H' s0 H0,e = .ref a∧Inv X pins σ H0 s0∧sU X.prog X.w X.stack H0 s0 a cls H' s'∧Ex cls none H'
section
variable {X:Cx} {k j:Nat} {ps:List Str} {sp:Sp} {x:Str} {p pos:Pos} {e:Expr} {es:List Expr} {t:TA}
theorem vz (h:b6 X.prog X.w X.K X.mg X.base (bH X.prog X.w) x k ps sp) (hr:dQ j X.A) (ha:PA X.sW (e :: es) t) (hk:k≤j:=by decide) (hg:Gl X x:=by rfl) (lu:(x == ("__debug__" : Str)) = false:=by decide)
  (he:starEach (e :: es) X.env = (false,eval e X.env) :: starEach es X.env:=by rfl) (jF:(backTo pos (starEach es X.env)).any (·.1) = false:=by rfl)
  {pins:List (Addr×Obj)} {s:Shared} {σ : St} {H:Hp} {Q:VK} {Ex:XK} (I:Inv X pins σ H s) (hw:t σ H fun vs H1=>sp (vs ++ []) H1 Q Ex) :
  wpAny (model X.prog X.w) X.A (eval (.Call (.Name x p) (e :: es) [] pos) X.env) (EP X pins σ Q) (EX X pins σ Ex) s:=by
 obtain ⟨f,fd,F,hm,Er,hb⟩:=h.ex
 refine wpAny_Call_Name_kw (fe I hg hm ?_ lu)
 refine PySem.W.callWith_K (h₀:=X.base) I.ok.mod.yX Er (wpAny_mono (ha pos pins s σ H _ (I.iS _) hw) (fun us s1 ⟨vs,H1,I1,r,q⟩=>⟨I1.jO,?_⟩) fun _ _ z=>False.elim z) he jF
 have I1:=I1.et
 dsimp only at q
 rw [List.append_nil] at q
 have hl:us.length = ps.length:=by rw [← r.length]; exact F.len _ _ _ _ q
 have HF:=hb s1 us I1.jO (by rw [List.append_nil]; exact hl)
 rw [List.append_nil] at HF
 refine wpAny_call (codeAny_mono (F.run X.A X.stack s1 H1 ⟨us,[]⟩ us vs Q Ex (hr.mono hk) I1.zJ HF r q) fun rr s' hq=>?_)
 cases rr with
 | error ev=>
  obtain ⟨a,cls,H',rfl,fl,qe⟩:=hq
  exact ⟨a,cls,H',s1,H1,rfl,I1,fl,qe⟩
 | ok fl=>
  cases fl with
  | ret u=>exact I1.after hq
  | next=>exact False.elim hq
  | brk=>exact False.elim hq
  | cont=>exact False.elim hq
end
def EM (K:Frag) (M:Addr) (jn:Nat) (ts:TS) (D:Ends) (σ : St):XK:=fun cls _ H'=>∃ C,cls = .ref C∧exmOne K (.ref C) (.ref M) = some true∧
 ∀ a,H' a = none→ts { nx:=fun σ' H2=>D.nx (σ'.set jn none) H2,rt:=D.rt,bk:=fun σ' H2=>D.bk (σ'.set jn none) H2,ct:=fun σ' H2=>D.ct (σ'.set jn none) H2 } (σ.set jn (some (.ref a))) (upd H' a (pE C a))
theorem sE {X:Cx} {x n:Str} {M:Addr} {jn:Nat} {b₀ : Stmt} {eN:List Stmt} {ts:TS} {np pos:Pos} (hb:Body X) (hm:X.mg x = some (.ref M)) (hN:X.N.Nodup) (hj:X.N[jn]? = some n) (hl:X.env.scope.names.lookup n = some .local)
  (hs:∀ a,lJ (X.marked a) (b₀ :: eN) ts) (hg:Gl X x:=by rfl) (lu:(x == ("__debug__" : Str)) = false:=by decide)
  {pins:List (Addr×Obj)} {σ : St} {D:Ends} {e:Value} {s':Shared} (h:EX X pins σ (EM X.K M jn ts D σ) e s') :
  wpAny (model X.prog X.w) X.A (noteFrame e X.env) (fun _ s2=>wpAny (model X.prog X.w) X.A (setFlight e none) (fun _ s3=>
   wpAny (model X.prog X.w) X.A (handleBy e X.env [.ExceptHandler (some (.Name x np)) (some n) (b₀ :: eN) pos]) (SP X pins D) X.xe s3) X.xe s2) X.xe s':=by
 obtain ⟨a,cls,H',s0,H0,rfl,I0,F,C,rfl,hx,q⟩:=h
 obtain ⟨B,a0,lB,xE,ct⟩:=F.lB
 have I':=F.inv I0
 have mq:X.A.frames = some (X.env :: X.outer):=by rw [← hb.lT]; exact I0.ok.frames
 have c0:ko B (eC X.stack) X.s₀.heap:=fun b o e n=>by
  obtain ⟨o',z⟩:=I0.base.there b o e (by rw [hb.ex]; simp)
  exact xE b o' z n
 have Ky:∀ p∈X.pn ++ pins,p.1≠a:=fun p hp z=>by
  have:=(I0.pin p hp).1
  rw [z,F.fresh] at this; cases this
 have cp:∀ p∈X.pn ++ pins,∃ ob,B.get? p.1 = some ob:=fun p hp=>by
  obtain ⟨e,nn,ne,nf,d⟩:=I0.pin p hp
  refine xE _ _ e fun z=>?_
  rcases List.mem_cons.mp (I0.dD _ z) with r | r
  ·exact ne r
  ·exact nf r
 rw [hb.lT] at lB
 refine wpAny_looks_onW mq hb.fr lB fun h4 rW yn=>?_
 refine wpAny_landsW rW fun h5 nO ym=>?_
 have J5:Inv X pins σ H' { s' with heap:=h5,toks:=s'.toks }:=Inv.kc I' hb.ex lB.1 nO.1 c0 ct cp (yn.trans ym)
 obtain ⟨ob,zl,xi⟩:=nO.there
 have ty:Looks (model X.prog X.w) h5 (typeOf (.ref a)) (.ref C):=xi▸(Looks.ld zl).andThen .now
 refine wpAny_handleBy_cons (codeAny_handlers_test (fe (X:=X.marked a) J5.mark hg hm ?_ lu)) (by intro z; cases z)
 refine (exm_one J5.jO ty hx).at ?_
 refine codeAny_handlers_suite_as ?_
 refine lands_againW (s:={ s' with heap:=h5 }) nO fun h6 ug By=>?_
 have J6:Inv X pins σ H' { s' with heap:=h6,toks:=s'.toks }:=Inv.kc I' hb.ex lB.1 ug.1 c0 ct cp ((yn.trans ym).trans By)
 obtain ⟨oe,ws,Eh,Eg,xg,Lk⟩:=ug.first
 have ex:ExcAt C a h6:=⟨oe,Eh,Eg,by unfold notCls; rw [xg]⟩
 have nL:a≠X.env.locals:=fun z=>by
  obtain ⟨m,⟨o,es,ep,ho,hd,_⟩,_⟩:=J6.loc
  have pw:h6.get? X.env.locals = some o:=ho
  rw [← z,Eh] at pw; cases pw
  rw [xg] at hd; cases hd
 have nc:∀ y c,X.env.cells.lookup y = some c→c≠a:=fun y c e z=>by
  obtain ⟨v,o,ho,hd⟩:=J6.cell y c e
  have pw:h6.get? c = some o:=ho
  rw [z,Eh] at pw; cases pw
  rw [xg] at hd; cases hd
 have J7:Inv X pins σ (upd H' a (pE C a)) { s' with heap:=h6,toks:=s'.toks }:=Inv.yo J6 F.new (ui ex) (I0.nN hb.ex F.fresh) nL nc Ky
 refine d9 (X:=X.marked a) (v:=.ref a) J7.mark hN hj (.inl hl) rfl (fun s8 J8=>?_) (.inr hl)
 refine wpAny_mono (hs a pins s8 _ _ _ J8 (q a F.new)) (fun f s9 z=>?_) fun _ _ z=>False.elim z
 cases f with
 | next=>
  obtain ⟨σ',H2,J9,r⟩:=z
  exact iN (J9.unmark J7.ok) hN hj hl fun vS sT=>⟨_,H2,sT,r⟩
 | brk=>
  obtain ⟨σ',H2,J9,r⟩:=z
  exact iN (J9.unmark J7.ok) hN hj hl fun vS sT=>⟨_,H2,sT,r⟩
 | cont=>
  obtain ⟨σ',H2,J9,r⟩:=z
  exact iN (J9.unmark J7.ok) hN hj hl fun vS sT=>⟨_,H2,sT,r⟩
 | ret u=>
  obtain ⟨v,σ',H2,J9,rv,r⟩:=z
  exact iN (J9.unmark J7.ok) hN hj hl fun vS sT=>⟨v,_,H2,sT,rv,r⟩
def qc (K:Frag) (sp:Sp) (ta:TA) (M:Addr) (jn:Nat) (ts:TS):TS:=fun D σ H=>ta σ H fun vs H1=>sp (vs ++ []) H1 (fun _ H2=>D.nx σ H2) (EM K M jn ts D σ)
theorem q0 {X:Cx} {k j:Nat} {ps:List Str} {sp:Sp} {f x n:Str} {p1 p2 p3:Pos} {e:Expr} {es:List Expr} {ta:TA} {M:Addr} {jn:Nat} {b₀ : Stmt} {eN:List Stmt} {ts:TS} {np jh pos:Pos}
  (h:b6 X.prog X.w X.K X.mg X.base (bH X.prog X.w) f k ps sp) (hr:dQ j X.A) (ha:PA X.sW (e :: es) ta) (hb:Body X) (hm:X.mg x = some (.ref M)) (hN:X.N.Nodup) (hj:X.N[jn]? = some n) (hl:X.env.scope.names.lookup n = some .local)
  (hs:∀ a,lJ (X.marked a) (b₀ :: eN) ts) (hk:k≤j:=by decide) (Ew:Gl X f:=by rfl) (uf:(f == ("__debug__" : Str)) = false:=by decide)
  (he:starEach (e :: es) X.env = (false,eval e X.env) :: starEach es X.env:=by rfl) (jF:(backTo p2 (starEach es X.env)).any (·.1) = false:=by rfl)
  (hg:Gl X x:=by rfl) (lu:(x == ("__debug__" : Str)) = false:=by decide) (zc:swapsWith (.Call (.Name f p1) (e :: es) [] p2) none p3.line X.env = pure false:=by rfl) :
  PS X (.Try [.Expr (.Call (.Name f p1) (e :: es) [] p2) p3] [.ExceptHandler (some (.Name x np)) (some n) (b₀ :: eN) jh] [] [] pos) (qc X.K sp ta M jn ts):=by
 intro pins s σ H D I hw
 refine wpAny_Try_except ?_
 refine wpAny_execs_cons (wpAny_Expr_any (wpAny_mono (vz h hr ha hk Ew uf he jF I hw) (fun v s1 z=>?_) fun ev s1 z=>?_) I.quiet zc)
 ·obtain ⟨y,H1,I1,r1,q1⟩:=z
  exact wpAny_execs_nil (wpAny_execs_nil ⟨σ,H1,I1,q1⟩)
 ·exact sE hb hm hN hj hl hs hg lu z
end L2
end
section
namespace L2
open PySem PySem.Spec PySem.W PySem.Calls PyProof.Rows
section
variable {P:Program} {w:World} {K:PySem.W.Frag} {mg:Str→Option Value} {base:Heap}
theorem Def.dM {x:Str} {st:Stmt} {N ps:List Str} {k:Nat} {sp:Sp} (D:Def K mg x st ps) (S:aE N ps (ai st)) (len:∀ vs H Q E,sp vs H Q E→vs.length = ps.length)
  (ji:∀ (f:Addr) (cO:Value) (A:Around) (outer:List Env) (s:Shared) (H:Hp) (vs:List V) (Q:VK) (E:XK),dQ k (A.deeper (envOfC x (ai st) s.heap.objs.size f cO))→sp vs H Q E→
   ∃ t,lJ (gA (bH P w) P w K mg base N x (ai st) f cO A outer s H E).sW (az st) t∧t { nx:=fun _ H'=>Q .df H',rt:=Q } (start N vs) H):b6 P w K mg base (bH P w) x (k + 1) ps sp:=by
 obtain ⟨f,fd,F,hm,hb⟩:=D.ex
 have kp:=F.kp
 obtain ⟨oc,od,kV,doc,pm,an,cO,ct,pT,rfl,lk,ed⟩:=F.ex
 refine ⟨⟨f,_,rZ lk ed S len fun A outer s H vs Q E hr oB=>?_,hm,kp,hb⟩⟩
 obtain ⟨t,h,q⟩:=ji f cO A outer s H vs Q E hr oB
 exact ⟨t,h.sW,q⟩
theorem Def.xq {x:Str} {st:Stmt} {N ps:List Str} {k:Nat} {sp:Sp} (D:Def K mg x st ps) (S:aE N ps (ai st)) (len:∀ vs H Q E,sp vs H Q E→vs.length = ps.length)
  (ji:∀ (f:Addr) (cO:Value) (A:Around) (outer:List Env) (s:Shared) (H:Hp) (vs:List V) (Q:VK) (E:XK),dQ k (A.deeper (envOfC x (ai st) s.heap.objs.size f cO))→sp vs H Q E→
   ∃ t,lJ (gA (bH P w) P w K mg base N x (ai st) f cO A outer s H E) (az st) t∧t { nx:=fun _ H'=>Q .df H',rt:=Q } (start N vs) H):b6 P w K mg base (bH P w) x (k + 1) ps sp:=by
 obtain ⟨f,fd,F,hm,hb⟩:=D.ex
 have kp:=F.kp
 obtain ⟨oc,od,kV,doc,pm,an,cO,ct,pT,rfl,lk,ed⟩:=F.ex
 exact ⟨⟨f,_,rZ lk ed S len fun A outer s H vs Q E hr oB=>ji f cO A outer s H vs Q E hr oB,hm,kp,hb⟩⟩
theorem xS.okN {x:Str} {st:Stmt} {f:Addr} {fd:FuncData} {N ps:List Str} {k:Nat} {sp:Sp} (F:xS K x x st f fd) (S:aE N ps (ai st)) (len:∀ vs H Q E,sp vs H Q E→vs.length = ps.length)
  (ji:∀ (cO:Value) (A:Around) (outer:List Env) (s:Shared) (H:Hp) (vs:List V) (Q:VK) (E:XK),dQ k (A.deeper (envOfC x (ai st) s.heap.objs.size f cO))→sp vs H Q E→
   ∃ t,lJ (gA (bH P w) P w K mg base N x (ai st) f cO A outer s H E).sW (az st) t∧t { nx:=fun _ H'=>Q .df H',rt:=Q } (start N vs) H):jY P w K mg base (bH P w) (k + 1) f fd ps sp:=by
 obtain ⟨oc,od,kV,doc,pm,an,cO,ct,pT,rfl,lk,ed⟩:=F.ex
 refine rZ lk ed S len fun A outer s H vs Q E hr oB=>?_
 obtain ⟨t,h,q⟩:=ji cO A outer s H vs Q E hr oB
 exact ⟨t,h.sW,q⟩
end
theorem pF {P:Program} {w:World} {o:List Env} {H:Hp} {s:Shared} {e:Value} {s':Shared} (h:bH P w o H s (fun _ _ _=>False) e s'):False:=by
 obtain ⟨_,_,_,_,_,z⟩:=h
 exact z
theorem mK {CX:mV} {P:Program} {w:World} {K:Frag} {mg:Str→Option Value} {base:Heap} {N:List Str} {qual:Str} {scope:Scope} {f:Addr} {cd:Value} {A:Around} {outer:List Env} {s:Shared} {H:Hp} {E:XK} :
  Body (gA CX P w K mg base N qual scope f cd A outer s H E).sW:=⟨rfl,rfl,rfl,rfl⟩
inductive vB (K:Frag) (H:Hp):V→Value→Prop where
 | df:vB K H .df (.type "NoneType")
 | exc {a C:Addr} (e:H a = some (pE C a)) (c:ir K C):vB K H (.ref a) (.ref C)
theorem vB.Hd {X:Cx} {pins:List (Addr×Obj)} {σ : St} {H:Hp} {s:Shared} {x:V} {t u:Value} (y:vB X.K H x t) (I:Inv X pins σ H s) (r:RelV x u):∃ Hh,KitX X.K u t Hh∧Hh s.heap∧u≠.builtin "__main__.__loader__#opaque":=by
 cases y with
 | df=>cases (show u = Value.none from r); exact ⟨_,kitx_none,trivial,fun z=>nomatch z⟩
 | exc e c=>cases (show u = Value.ref _ from r); exact ⟨_,rQ c,uj I.bJ e,fun z=>nomatch z⟩
def qX (K:Frag):List V→Hp→VK→Prop:=fun xs H Q=>∃ x c t u b,xs = [x,c]∧vB K H x t∧lM c u∧kitOne K t u = some b∧Q (.bl b) H
theorem ju {X:Cx}:fF X (.builtin "isinstance") (qX X.K):=by
 intro pins s σ H xs us Q I r h
 obtain ⟨x,c,t,u,b,rfl,ty,rc,e,q⟩:=h
 obtain ⟨u1,u2,rfl,r1,r2⟩:=vals2 r
 have e2:u2 = u:=by
  cases rc <;> (cases r2; rfl)
 subst e2
 obtain ⟨Hh,Z,p,ne⟩:=ty.Hd I r1
 exact kia_one Z I.jO p e ne fun tk=>⟨.bl b,H,I.tok _,rfl,q⟩
def qY (K:Frag):List V→Hp→VK→Prop:=fun xs H Q=>∃ x tp cs t us b,xs = [x,.ref tp]∧vB K H x t∧H tp = some (.tup cs)∧Paired lM cs us∧kitAny K t us = some b∧Q (.bl b) H
theorem mG:∀ {cs:List V} {us ws:List Value},Paired lM cs us→Vals cs ws→ws = us
 | _,_,_,.nil,.nil=>rfl
 | _,_,_,.cons r t,.cons q z=>by
  have e:=mG t z
  subst e
  cases r <;> (cases q; rfl)
theorem jv {X:Cx}:fF X (.builtin "isinstance") (qY X.K):=by
 intro pins s σ H xs us Q I r h
 obtain ⟨x,tp,cs,t,ws,b,rfl,ty,xX,pc,e,q⟩:=h
 obtain ⟨u1,u2,rfl,r1,r2⟩:=vals2 r
 cases (show u2 = Value.ref tp from r2)
 obtain ⟨Hh,Z,p,ne⟩:=ty.Hd I r1
 obtain ⟨_,aY,rv,ob,zl,hc,n,hd⟩:=(show bW X.prog X.w H s.heap tp (.tup cs) from I.bJ tp _ xX)
 have ei:=mG pc rv
 subst ei
 obtain ⟨oc,od,Ka,pT⟩:=ob
 dsimp only at hc hd
 subst hc hd
 exact kia_tup Z I.jO p zl e ne fun tk=>⟨.bl b,H,I.tok _,rfl,q⟩
section
variable {H:Hp} {Q:VK} {K:Frag}
theorem oq {x c:V} {t u:Value} {b:Bool} (ty:vB K H x t) (hc:lM c u) (e:kitOne K t u = some b) (q:Q (.bl b) H):qX K [x,c] H Q:=⟨x,c,t,u,b,rfl,ty,hc,e,q⟩
theorem ot {x:V} {tp:Addr} {cs:List V} {t:Value} {us:List Value} {b:Bool} (ty:vB K H x t) (h:H tp = some (.tup cs)) (hc:Paired lM cs us) (e:kitAny K t us = some b) (q:Q (.bl b) H):qY K [x,.ref tp] H Q:=⟨x,tp,cs,t,us,b,rfl,ty,h,hc,e,q⟩
theorem kP {Ex:XK} {C:Addr} {ta:TA} {D:Ends} {σ : St} (h:ta σ H fun vs H1=>vs.length≤sizeLine∧Ex (.ref C) none H1):qf Ex C ta D σ H:=h
theorem kO {sp:Sp} {ta:TA} {M:Addr} {jn:Nat} {ts:TS} {D:Ends} {σ : St} (h:ta σ H fun vs H1=>sp (vs ++ []) H1 (fun _ H2=>D.nx σ H2) (EM K M jn ts D σ)):qc K sp ta M jn ts D σ H:=h
end
end L2
end
section
namespace L2
open PySem PySem.Spec PySem.W PySem.Calls PyProof.Rows
def JA (K:Frag):R2:=fun x y H Q=>∃ p q a b c d,x = .ref p∧y = .ref q∧SqT K H p [.int a,.int b]∧SqT K H q [.int c,.int d]∧Q (.bl (!decide (a = c∧b = d))) H
end L2
end
section
namespace L2
open PySem PySem.Spec PySem.W PySem.Calls PyProof.Rows
def AllIn (cells:List (Str×Addr)):List (Str×Addr)→Prop
 | []=>True
 | p :: r=>cells.lookup p.1 = some p.2∧AllIn cells r
theorem AllIn.get {cells:List (Str×Addr)}:∀ {cl:List (Str×Addr)},AllIn cells cl→∀ {x c},cl.lookup x = some c→cells.lookup x = some c
 | [],_,x,c,e=>by cases e
 | (n,d) :: r,h,x,c,e=>by
  rw [List.lookup_cons] at e
  cases q:x == n with
  | true=>
   rw [q] at e; cases e
   have z:x = n:=by simpa using q
   subst z
   exact h.1
  | false=>rw [q] at e; exact AllIn.get h.2 e
def pQ (X:Cx) (ifs:List Expr) (t:TT):Prop:=
 ∀ (pins:List (Addr×Obj)) (s:Shared) (σ : St) (H:Hp) (Q:Bool→Hp→Prop),Inv X pins σ H s→t σ H Q→
  wpAny (model X.prog X.w) X.A (forIn ifs true fun c r=>if r = true then do let ok ← isTrue c X.env (eval c X.env); pure (ForInStep.yield ok) else pure (ForInStep.yield r)) (TP X pins σ Q) X.xe s
def qd:TT:=fun _ H Q=>Q true H
theorem bQ {X:Cx}:pQ X [] qd:=fun _ _ _ H _ I h=>wpAny_tests_nil ⟨H,I,h⟩
section
variable {prog:Program} {w:World} {A:Around} {R:Result→Shared→Prop} {s:Shared}
theorem ke {elt target iter:Expr} {ifs:List Expr} {scope:Scope} {pos:Pos} {it acc:Value} {env:Env} (I:Nat→Shared→Prop)
  (turn:∀ n s,I n s→wpAny (model prog w) A (pyNext it) (fun r s₁=>match r with
   | none=>R (.ok .next) s₁
   | some v=>wpAny (model prog w) A (letOwnedTupleGo target it v) (fun _ s1=>wpAny (model prog w) A (assign target env v) (fun _ s₂=>
     wpAny (model prog w) A (forIn ifs true fun c r=>if r = true then do let ok ← isTrue c env (eval c env); pure (ForInStep.yield ok) else pure (ForInStep.yield r)) (fun ok s₃=>
      if ok = true then wpAny (model prog w) A (eval elt env) (fun x s₄=>wpAny (model prog w) A (call (.builtin "list.append") [acc,x]) (fun _ s₅=>∃ m,m < n∧I m s₅) (fun _ _=>False) s₄) (fun _ _=>False) s₃
      else ∃ m,m < n∧I m s₃) (fun _ _=>False) s₂) (fun _ _=>False) s1) (fun _ _=>False) s₁) (fun _ _=>False) s)
  (n:Nat) (h:I n s):codeAny (model prog w) A (.compLoop (.ListComp elt [⟨target,iter,ifs,0⟩] scope pos) 0 it acc env) R s:=by
 refine codeAny_loop rfl I (fun n s hI=>?_) n h
 show wpAny _ A ((compTurn (.ListComp elt [⟨target,iter,ifs,0⟩] scope pos) 0 it acc env).onRaise (fun x=>do noteFrame x env; theTreesLotGoes x)) _ _ s
 refine wpAny_noted ?_
 rw [compTurn_list]
 refine wpAny_bind (wpAny_standAt (wpAny_bind (wpAny_mono (turn n s hI) (fun r s₁ h₁=>?_) fun _ _ z=>False.elim z)))
 cases r with
 | none=>exact wpAny_pure h₁
 | some v=>
  refine wpAny_bind (wpAny_mono h₁ (fun _ s1 h1=>wpAny_bind (wpAny_mono h1 (fun _ s₂ h₂=>wpAny_bind (wpAny_mono h₂ (fun ok s₃ h₃=>?_) fun _ _ z=>False.elim z)) fun _ _ z=>False.elim z)) fun _ _ z=>False.elim z)
  cases ok with
  | false=>exact wpAny_pure ⟨rfl,h₃⟩
  | true=>
   exact wpAny_bind (wpAny_bind (wpAny_mono h₃ (fun x s₄ h₄=>wpAny_bind (wpAny_mono h₄ (fun _ s₅ h₅=>wpAny_pure (wpAny_pure ⟨rfl,h₅⟩)) fun _ _ z=>False.elim z)) fun _ _ z=>False.elim z))
end
def Cx.block (X:Cx) (scope:Scope) (cl:List (Str×Addr)) (C:Addr) (N:List Str) (fp:List Addr) (pins:List (Addr×Obj)) (s:Shared) (H:Hp):Cx:=
 { X with N:=N,s₀:=s,H₀:=H,env:=compEnvC scope cl C X.env,outer:=X.stack,ex:=fp,fn:=fun _=>false,pn:=X.pn ++ pins,xe:=fun _ _=>False }
def cZ (n:Nat) (fr:List Nat) (σ : St):St:=List.replicate n none ++ fr.map fun i=>(σ[i]?).join
structure iQ (X:Cx) (scope:Scope) (cl:List (Str×Addr)) (tg:List Str) (fr:List (Str×Nat)):Prop where
 kind:scope.kind = .function
 wG:∀ y∈scope.names,y.2≠.cell
 names:∀ y∈scope.names,y.2 = .local→scope.names.lookup y.1 = some .local
 uw:closureFor scope X.env = pure cl
 mO:AllIn X.env.cells cl
 has:((relabel scope X.env).names.all fun p=>!(p.2 == .cell || p.2 == .free) || (cl.lookup p.1).isSome) = true
 ES:∀ p∈fr,X.N[p.2]? = some p.1∧Aj X.env.scope p.1∧(cl.lookup p.1).isSome = true∧(relabel scope X.env).names.lookup p.1 = some .cell
 A5:∀ p∈fr,X.env.kindOf p.1 = some .cell
section
variable {X:Cx} {pins:List (Addr×Obj)} {σ : St} {H:Hp} {s:Shared} {scope:Scope} {cl:List (Str×Addr)} {tg:List Str} {fr:List (Str×Nat)}
theorem lookup_mem {κ α : Type} [BEq κ] [LawfulBEq κ]:∀ {l:List (κ×α)} {x : κ} {v : α},l.lookup x = some v→(x,v)∈l
 | [],_,_,e=>by cases e
 | (k,u) :: r,x,v,e=>by
  rw [List.lookup_cons] at e
  cases q:x == k with
  | true=>
   rw [q] at e; cases e
   have z:x = k:=by simpa using q
   subst z
   exact List.mem_cons_self
  | false=>rw [q] at e; exact List.mem_cons_of_mem _ (lookup_mem e)
theorem mL {C:Addr} {fp:List Addr} {h':Heap} {t':Nat} {m:Str→Option Value} (B:iQ X scope cl tg fr) (I:Inv X pins σ H s) (hf:∀ b∈fp,iH X pins H b∧b < s.heap.objs.size) (hC:s.heap.objs.size≤C) (hn:h'.Ns C m) (k:∀ b o,s.heap.get? b = some o→h'.get? b = some o)
  {H2:Hp} (hu:Un (eC X.stack) fp H H2 s.heap h') (bJ:fT X.prog X.w H2 h') (j9:H2 C = none) :
  Inv (X.block scope cl C (tg ++ fr.map (·.1)) fp pins s H) [] (cZ tg.length (fr.map (·.2)) σ) H2 { s with heap:=h',toks:=t' }:=by
 have cells:∀ {x c},cl.lookup x = some c→X.env.cells.lookup x = some c:=fun e=>B.mO.get e
 have cC:∀ x c,X.env.cells.lookup x = some c→c≠C:=fun x c e z=>by
  obtain ⟨v,o,ho,_⟩:=I.cell x c e
  exact absurd (Nat.lt_of_lt_of_le (Heap.lt_size ho) hC) (by rw [z]; exact Nat.lt_irrefl _)
 have cellK:∀ {c v},s.heap.IsCell c v→h'.IsCell c v:=fun {c v} ⟨o,e,d⟩=>⟨o,k c o e,d⟩
 have mI:∀ x c,X.env.cells.lookup x = some c→c∉fp∧H2 c = none:=fun x c e=>by
  have nf:c∉fp:=fun z=>(hf c z).1.2.2.2.2.1 x c e rfl
  obtain ⟨v,o,ho,_⟩:=I.cell x c e
  exact ⟨nf,hu.free c o ho (I.dk x c e) nf⟩
 have wt:∀ p∈X.pn ++ pins,p.1∉fp∧H2 p.1 = none:=fun p hp=>by
  have nf:p.1∉fp:=fun z=>(hf p.1 z).1.2.2.2.2.2 p hp rfl
  obtain ⟨e,n,_⟩:=I.pin p hp
  exact ⟨nf,hu.free p.1 _ e n nf⟩
 have BN:∀ b∈eC X.stack,b < s.heap.objs.size:=fun b hb=>by
  obtain ⟨_,o,ho,_⟩:=I.stack.mem hb
  exact Heap.lt_size ho
 refine ⟨⟨I.ok.mod,B.kind,I.ok.glob,I.ok.blt,hC,fun x y c h1 h2=>I.ok.inj x y c (cells h1) (cells h2),fun x hx=>?_,fun x c z=>absurd (show false = true from z) Bool.false_ne_true,I.ok.hd,I.ok.frames,.inl rfl,fun b hb=>?_,fun b o e=>⟨?_,?_⟩,?_,fun b o e z=>?_,fun b hb z=>?_,I.stack,I.iJ⟩,
  rfl,I.bare,hu,⟨m,hn,fun i x v h1 h2 h3=>?_⟩,fun x c e=>?_,j9,fun x c e=>(mI x c (cells e)).2,fun p hp=>?_,bJ,?_⟩
 ·have e:(relabel scope X.env).names.lookup x = some .cell∨(relabel scope X.env).names.lookup x = some .free:=hx
  have mem:∃ kk,(x,kk)∈(relabel scope X.env).names∧(kk == NameKind.cell || kk == NameKind.free) = true:=by
   rcases e with e | e
   ·exact ⟨_,lookup_mem e,rfl⟩
   ·exact ⟨_,lookup_mem e,rfl⟩
  obtain ⟨kk,mm,hk⟩:=mem
  have z:=List.all_eq_true.mp B.has _ mm
  simp only [hk,Bool.not_true,Bool.false_or] at z
  exact Option.isSome_iff_exists.mp z
 ·exact ⟨fun z=>absurd (Nat.lt_of_lt_of_le (hf b hb).2 hC) (by rw [z]; exact Nat.lt_irrefl _),fun x c e z=>(mI x c (cells e)).1 (z▸hb)⟩
 ·exact (I.bs b o e).1
 ·exact (I.bs b o e).2
 ·exact Nat.le_trans I.ok.uD I.sz
 ·rcases (hf b z).1.2.2.2.1 with q | q
  ·exact I.ok.nC b o e q
  ·exact absurd (Nat.lt_of_lt_of_le (Heap.lt_size (I.ok.bs b o e).1) q) (Nat.lt_irrefl _)
 ·have z':b∈eC X.stack:=z
  rcases List.mem_cons.mp (I.dD b z') with q | q
  ·exact (hf b hb).1.2.1 q
  ·exact (hf b hb).1.2.2.1 q
 ·have hi:tg.length≤i:=by
   refine Nat.le_of_not_lt fun z=>?_
   unfold cZ at h2
   rw [List.getElem?_append_left (by simpa using z),List.getElem?_replicate,if_pos z] at h2
   cases h2
  have oD:(fr.map (·.1))[i - tg.length]? = some x:=by
   have z:(tg ++ fr.map (·.1))[i]? = some x:=h1
   rw [List.getElem?_append_right hi] at z
   exact z
  have rX:((fr.map (·.2)).map fun i=>(σ[i]?).join)[i - tg.length]? = some (some v):=by
   unfold cZ at h2
   rw [List.getElem?_append_right (by simpa using hi)] at h2
   simpa using h2
  rw [List.getElem?_map] at oD
  rw [List.getElem?_map,List.getElem?_map] at rX
  cases q:fr[i - tg.length]? with
  | none=>rw [q] at oD; cases oD
  | some p=>
   rw [q] at oD rX
   have ex:p.1 = x:=Option.some.inj oD
   have ev:(σ[p.2]?).join = some v:=Option.some.inj rX
   subst ex
   obtain ⟨f1,f2,f3,f4⟩:=B.ES p (List.mem_of_getElem? q)
   have eσ : σ[p.2]? = some (some v):=by
    cases z : σ[p.2]? with
    | none=>rw [z] at ev; cases ev
    | some w'=>rw [z] at ev; exact congrArg some ev
   obtain ⟨m0,zo,Ep⟩:=I.loc
   obtain ⟨u,r,l⟩:=Ep p.2 p.1 v f1 eσ f2
   refine ⟨u,r,?_⟩
   obtain ⟨c,hc⟩:=Option.isSome_iff_exists.mp f3
   have hk:=B.A5 p (List.mem_of_getElem? q)
   rcases l with ⟨kl,_⟩ | ⟨_,c',yd,z⟩
   ·rw [hk] at kl; cases kl
   ·have e':=cells hc
    rw [yd] at e'
    cases e'
    exact .inr ⟨.inl f4,c,hc,cellK z⟩
 ·obtain ⟨v,z⟩:=I.cell x c (cells e)
  exact ⟨v,cellK z⟩
 ·rw [List.append_nil] at hp
  obtain ⟨e,n,ne,nf,d⟩:=I.pin p hp
  refine ⟨k _ _ e,(wt p hp).2,fun z=>absurd (Nat.lt_of_lt_of_le (Heap.lt_size e) hC) (by rw [z]; exact Nat.lt_irrefl _),fun z=>?_,d⟩
  rcases List.mem_cons.mp (I.dD _ z) with q | q
  ·exact ne q
  ·exact nf q
 ·unfold cZ
  show _ = (tg ++ fr.map (·.1)).length
  simp
end
end L2
end
section
namespace L2
open PySem PySem.Spec PySem.W PySem.Calls PyProof.Rows
def iV (wi:TI) (g:TG) (tt:TT) (te:TE) (n:Nat) (fr:List Nat):TE:=fun σ H Q=>wi σ H fun J H1=>∀ acc,H1 acc = none→∃ W:Nat→Nat→St→List V→Hp→Prop,(∃ m,W 0 m (cZ n fr σ) [] (upd H1 acc (.lst [])))∧
 ∀ i m σ' ys H2,W i m σ' ys H2→((J.stop i H2∧Q (.ref acc) H2)∨(J.go i H2∧∀ x H3,J.pS i H2 x H3→g x σ' H3 fun σ2 H4=>tt σ2 H4 fun b H5=>
  if b = true then te σ2 H5 fun y H6=>H6 acc = some (.lst ys)∧ys.length < sizeLine∧∃ m',m' < m∧W (i + 1) m' σ2 (ys ++ [y]) (upd H6 acc (.lst (ys ++ [y]))) else ∃ m',m' < m∧W (i + 1) m' σ2 ys H5))
section
variable {X:Cx} {scope:Scope} {cl:List (Str×Addr)} {tg:List Str} {fr:List (Str×Nat)} {elt target iter:Expr} {ifs:List Expr} {wi:TI} {g:TG} {tt:TT} {te:TE} {pos:Pos}
theorem kg (B:iQ X scope cl tg fr) (hc:X.calm = true) (hi:PI X target iter wi)
  (hg:∀ C fp pins s H,PG (X.block scope cl C (tg ++ fr.map (·.1)) fp pins s H) target g) (ht:∀ C fp pins s H,pQ (X.block scope cl C (tg ++ fr.map (·.1)) fp pins s H) ifs tt) (he:∀ C fp pins s H,PE (X.block scope cl C (tg ++ fr.map (·.1)) fp pins s H) elt te)
  {pins:List (Addr×Obj)} {σ : St} {H:Hp} {s:Shared} {Q:VK} (I:Inv X pins σ H s) (hw:iV wi g tt te tg.length (fr.map (·.2)) σ H Q) {RR:Value→Addr→Result→Shared→Prop}
  (EJ:∀ D C s1 H5 m,Inv X pins σ H5 s1→s1.heap.Ns C m→H5 C = none→C≠X.env.locals→X.s₀.heap.objs.size≤C→(∀ x c,X.env.cells.lookup x = some c→c≠C)→(∀ p∈X.pn ++ pins,p.1≠C)→Q (.ref D) H5→RR (.ref D) C (.ok .next) s1) :
  wpAny (model X.prog X.w) X.A (eval iter X.env) (fun xv s1=>wpAny (model X.prog X.w) X.A (pyIter xv) (fun it s2=>wpAny (model X.prog X.w) X.A (newList []) (fun acc s3=>
   wpAny (model X.prog X.w) X.A (newFunctionEnv scope X.env.globals cl [] X.env.qual none .none (some X.env)) (fun sF s4=>
    codeAny (model X.prog X.w) X.A (.compStart (.ListComp elt [⟨target,iter,ifs,0⟩] scope pos) 0 it acc { sF with scope:=relabel scope X.env }) (RR acc sF.locals) s4) X.xe s3) X.xe s2) X.xe s1) X.xe s:=by
 refine wpAny_mono (hi pins s σ H _ I hw) (fun xv s1 h1=>wpAny_mono h1 (fun AR s2 h2=>?_) fun _ _ z=>z) fun _ _ z=>z
 obtain ⟨it,fp,tn,J,H1,rfl,I2,T,vJ,f2,y8⟩:=h2
 have nP:∀ b∈fp,b < s2.heap.objs.size:=fun b hb=>by
  obtain ⟨o,e,_⟩:=T.obj _ _ vJ b hb
  exact Heap.lt_size e
 refine wpAny_newObj_type (wpAny_newFunctionEnv B.wG (by intro y hy; simp at hy) (fun h3 vp AX=>?_) B.kind)
 dsimp only at vp AX ⊢
 generalize hP:s2.heap.push { cls:=.type "list",dict:=none,data:=.seq ([]:List Value).toArray } = hp at vp AX ⊢
 have hC:hp.objs.size = s2.heap.objs.size + 1:=by rw [← hP,Heap.size_push]
 have dh:s2.heap.objs.size < hp.objs.size:=by rw [hC]; exact Nat.lt_succ_self _
 have k3:∀ b o,s2.heap.get? b = some o→h3.get? b = some o:=fun b o e=>by
  have l:=Heap.lt_size e
  refine AX.extBut b o (Nat.ne_of_lt (Nat.lt_trans l dh)) (Heap.get?_push_of_some _ (hP▸Heap.get?_push_of_some _ e))
 have hD:H1 s2.heap.objs.size = none:=I2.bJ.fresh (Nat.le_refl _)
 have cJ:h3.get? s2.heap.objs.size = some { cls:=.type "list",dict:=none,data:=.seq ([]:List Value).toArray }:=AX.extBut _ _ (Nat.ne_of_lt dh) (Heap.get?_push_of_some _ (hP▸Heap.get?_push_size _ rfl))
 obtain ⟨W,⟨m0,w0⟩,turn⟩:=y8 _ hD
 have Bz:Un (eC X.stack) fp H1 (upd H1 s2.heap.objs.size (.lst [])) s2.heap h3:=Un.laid k3 (Nat.le_refl _) hD
 have CP:fT X.prog X.w (upd H1 s2.heap.objs.size (.lst [])) h3:=I2.bJ.laid k3 (Nat.le_refl _) ⟨Nat.zero_le _,[],0,.nil,cJ⟩
 have fC:upd H1 s2.heap.objs.size (.lst []) hp.objs.size = none:=by rw [av (Nat.ne_of_gt dh)]; exact I2.bJ.fresh (Nat.le_of_lt dh)
 have DB:=I2.lt
 have nL:hp.objs.size≠X.env.locals:=Nat.ne_of_gt (Nat.lt_trans DB dh)
 have B8:X.s₀.heap.objs.size≤hp.objs.size:=Nat.le_trans I2.sz (Nat.le_of_lt dh)
 have cC:∀ x c,X.env.cells.lookup x = some c→c≠hp.objs.size:=fun x c e z=>by
  obtain ⟨v,o,ho,_⟩:=I2.cell x c e
  exact absurd (Nat.lt_trans (Heap.lt_size ho) dh) (by rw [z]; exact Nat.lt_irrefl _)
 have pC:∀ p∈X.pn ++ pins,p.1≠hp.objs.size:=fun p xf z=>by
  exact absurd (Nat.lt_trans (Heap.lt_size (I2.pin p xf).1) dh) (by rw [z]; exact Nat.lt_irrefl _)
 have J0:=mL (t':=s2.toks + ([]:List (Str×Value)).length) B I2 (fun b hb=>⟨f2 b hb,nP b hb⟩) (Nat.le_of_lt dh) vp k3 Bz CP fC
 have xA:∀ {H':Hp} {pl:List (Addr×Obj)},(∀ b∈fp,H' b = none)→(∀ p∈pl,p.1∉fp)→∀ b∈fp,iH (X.block scope cl hp.objs.size (tg ++ fr.map (·.1)) fp pins s2 H1) pl H' b:=fun hn jF b hb=>by
  obtain ⟨g0,g1,g2,g3,g4,g5⟩:=f2 b hb
  refine ⟨hn b hb,fun z=>?_,fun z=>?_,.inl hb,fun x c e=>g4 x c (B.mO.get e),fun p xf z=>?_⟩
  ·have z':b = hp.objs.size:=z
   exact absurd (Nat.lt_trans (nP b hb) dh) (by rw [z']; exact Nat.lt_irrefl _)
  ·rcases List.mem_cons.mp (I2.dD b z) with q | q
   ·exact g1 q
   ·exact g2 q
  ·rcases List.mem_append.mp xf with q | q
   ·exact g5 p q z
   ·exact jF p q (z▸hb)
 have loop:∀ s3:Shared,s3 = { s2 with heap:=h3,toks:=s2.toks + ([]:List (Str×Value)).length }→
   codeAny (model X.prog X.w) X.A (.compLoop (.ListComp elt [⟨target,iter,ifs,0⟩] scope pos) 0 (.ref it) (.ref s2.heap.objs.size) (compEnvC scope cl hp.objs.size X.env)) (RR (.ref s2.heap.objs.size) hp.objs.size) s3:=by
  rintro s3 rfl
  refine ke (fun n s'=>∃ i σ' ys H5,Inv (X.block scope cl hp.objs.size (tg ++ fr.map (·.1)) fp pins s2 H1) [] σ' H5 s'∧tn i s'.heap∧(∀ b∈fp,H5 b = none)∧W i n σ' ys H5) ?_ m0
   ⟨0,_,[],_,J0,T.keep _ _ _ vJ fun b hb o e=>k3 b o e,fun b hb=>?_,w0⟩
  ·rintro n s' ⟨i,σ',ys,H5,J5,t5,f5,w5⟩
   rcases turn i n σ' ys H5 w5 with ⟨stop,q⟩ | ⟨go,step⟩
   ·refine wpAny_mono (T.done (X.block scope cl hp.objs.size (tg ++ fr.map (·.1)) fp pins s2 H1) rfl rfl rfl hc i [] s' σ' H5 (fun _ _=>False) J5 (xA f5 (by simp)) t5 stop) (fun r s6 ⟨hr,J6⟩=>?_) fun _ _ z=>z
    subst hr
    obtain ⟨m6,Ej,_⟩:=J6.loc
    exact EJ _ _ _ H5 m6 (I2.sH (ch:=fp) J6.os J6.base J6.bJ J6.bare fun b hb=>by obtain ⟨g0,g1,g2,g3,g4,g5⟩:=f2 b hb; exact ⟨g3,g1,g4,g5⟩) Ej J6.free nL B8 cC pC q
   ·refine wpAny_mono (T.item (X.block scope cl hp.objs.size (tg ++ fr.map (·.1)) fp pins s2 H1) rfl rfl rfl hc i [] s' σ' H5 (fun _ _=>False) J5 (xA f5 (by simp)) t5 go) (fun r s6 ⟨u,hr,h6⟩=>?_) fun _ _ z=>z
    subst hr
    refine wpAny_mono h6 (fun _ s7 ⟨x,H7,J7,r7,y7,t7,f7⟩=>?_) fun _ _ z=>z
    have Gd:=J7.pinned (xA f7 (by simp)) (T.obj _ _ t7)
    have again:∀ {σ8:St} {H8:Hp} {s8:Shared} {tw:List V},Inv (X.block scope cl hp.objs.size (tg ++ fr.map (·.1)) fp pins s2 H1) ([] ++ gW fp s7.heap) σ8 H8 s8→(∃ m',m' < n∧W (i + 1) m' σ8 tw H8)→
      ∃ m',m' < n∧∃ i σ' ys H5,Inv (X.block scope cl hp.objs.size (tg ++ fr.map (·.1)) fp pins s2 H1) [] σ' H5 s8∧tn i s8.heap∧(∀ b∈fp,H5 b = none)∧W i m' σ' ys H5:=fun {σ8 H8 s8 tw} J8 ⟨m',hm,w8⟩=>by
     refine ⟨m',hm,i + 1,σ8,tw,H8,J8.eM,T.keep _ _ _ t7 fun b hb o e=>(J8.pin (b,o) (List.mem_append_right _ (List.mem_append_right _ (cV hb e)))).1,fun b hb=>?_,w8⟩
     obtain ⟨o,e,d⟩:=T.obj _ _ t7 b hb
     exact (J8.pin (b,o) (List.mem_append_right _ (List.mem_append_right _ (cV hb e)))).2.1
    refine wpAny_mono (hg _ _ _ _ _ _ s7 σ' H7 x u _ Gd r7 (step x H7 y7)) (fun _ s8 ⟨σ8,H8,J8,q8⟩=>?_) fun _ _ z=>z
    refine wpAny_mono (ht _ _ _ _ _ _ s8 σ8 H8 _ J8 q8) (fun b s9 ⟨H9,J9,q9⟩=>?_) fun _ _ z=>z
    cases b with
    | false=>
     rw [if_neg Bool.false_ne_true] at q9 ⊢
     exact again J9 q9
    | true=>
     rw [if_pos rfl] at q9 ⊢
     refine wpAny_mono (he _ _ _ _ _ _ s9 σ8 H9 _ J9 q9) (fun y vS ⟨v,vF,sT,Cq,xt,xj,Cs⟩=>?_) fun _ _ z=>z
     refine wpAny_mono (j8 (X:=X.block scope cl hp.objs.size (tg ++ fr.map (·.1)) fp pins s2 H1) _ vS σ8 vF (.ref s2.heap.objs.size) [v] (.ref s2.heap.objs.size) [y] (fun _ tm=>∃ m',m' < n∧W (i + 1) m' σ8 (ys ++ [v]) tm) sT rfl (.cons Cq .nil) ⟨_,ys,v,rfl,rfl,xt,xj,Cs⟩) (fun _ Jq ⟨_,tm,Ge,_,Cr⟩=>?_) fun _ _ z=>z
     exact again Ge Cr
  ·have l:=nP b hb
   rw [av (Nat.ne_of_lt l)]; exact (f2 b hb).1
 exact codeAny_compStart_list (loop _ rfl) (T.self X.A 0 _ _ _ (T.keep _ _ _ vJ fun b hb o e=>k3 b o e) (loop _ rfl))
theorem dZ (B:iQ X scope cl tg fr) (hc:X.calm = true) (hi:PI X target iter wi)
  (hg:∀ C fp pins s H,PG (X.block scope cl C (tg ++ fr.map (·.1)) fp pins s H) target g) (ht:∀ C fp pins s H,pQ (X.block scope cl C (tg ++ fr.map (·.1)) fp pins s H) ifs tt) (he:∀ C fp pins s H,PE (X.block scope cl C (tg ++ fr.map (·.1)) fp pins s H) elt te)
  (hs:∀ x,foldedSetIterable iter X.env x = pure x:=by intro _; rfl):PE X (.ListComp elt [⟨target,iter,ifs,0⟩] scope pos) (iV wi g tt te tg.length (fr.map (·.2))):=by
 intro pins s σ H Q I hw
 rw [eval_ListComp]
 refine wpAny_comprehension_free (use:=none) rfl hs B.uw B.kind B.names (kg B hc hi hg ht he I hw (RR:=fun acc C=>compPost (model X.prog X.w) X.A X.xe none (EP X pins σ Q) acc C) fun D C s1 H5 m J hn f0 f1 f2 f3 f4 q=>?_)
 refine ⟨m,hn,fun h' sb=>⟨.ref D,H5,?_,rfl,q⟩⟩
 exact J.turned (t':=s1.toks) (fun b o hb e=>(sb.2 b hb).trans e) f0 f1 (.inr f2) f3 f4
theorem gc {i:Nat} {y:Str} {py yD:Pos} (hN:X.N.Nodup) (hy:X.N[i]? = some y) (hl:Loc X.env.scope y) (B:iQ X scope cl tg fr) (hc:X.calm = true) (hi:PI X target iter wi)
  (hg:∀ C fp pins s H,PG (X.block scope cl C (tg ++ fr.map (·.1)) fp pins s H) target g) (ht:∀ C fp pins s H,pQ (X.block scope cl C (tg ++ fr.map (·.1)) fp pins s H) ifs tt) (he:∀ C fp pins s H,PE (X.block scope cl C (tg ++ fr.map (·.1)) fp pins s H) elt te)
  (hs:∀ x,foldedSetIterable iter X.env x = pure x:=by intro _; rfl) (zc:swapsWith (.ListComp elt [⟨target,iter,ifs,0⟩] scope pos) (some (.Name y py)) yD.line X.env = pure true:=by rfl)
  (hf:X.fn y = true∨X.env.scope.names.lookup y = some .local:=by first | exact .inl rfl | exact .inr rfl | assumption) :
  PS X (.Assign [.Name y py] (.ListComp elt [⟨target,iter,ifs,0⟩] scope pos) yD) (tE (iV wi g tt te tg.length (fr.map (·.2))) (mw i)):=by
 intro pins s σ H D I hw
 rw [exec_Assign_Name_used _ _ _ _ zc]
 refine wpAny_bind (wpAny_standAt (wpAny_bind ?_))
 show wpAny _ _ (do let _ ← comprehension (.ListComp elt [⟨target,iter,ifs,0⟩] scope pos) scope X.env _ (newList []) false (eval iter X.env) (some (assign (.Name y py) X.env))) _ _ s
 refine wpAny_bind (wpAny_mono (wpAny_comprehension_free (use:=some (assign (.Name y py) X.env)) (Q:=fun _ s'=>SP X pins D .next s') rfl hs B.uw B.kind B.names
  (kg B hc hi hg ht he I hw (RR:=fun acc C=>compPost (model X.prog X.w) X.A X.xe (some (assign (.Name y py) X.env)) (fun _ s'=>SP X pins D .next s') acc C) fun R C s1 H5 m J hn f0 f1 f2 f3 f4 q=>?_)) (fun _ s' hq=>wpAny_pure (wpAny_pure hq)) fun _ _ z=>z)
 show wpAny _ _ (assign (.Name y py) X.env (.ref R)) _ _ _
 refine wpAny_assign_Name (j3 (v:=.ref R) J hN hy hl rfl (fun s2 J2 ⟨a,sb,ha⟩=>?_) hf)
 have na:C≠a:=by
  rcases ha with z | z
  ·rw [z]; exact f1
  ·exact Ne.symm (f3 y a z)
 refine ⟨m,hn.sameBut sb na,fun h' Jo=>⟨_,H5,?_,q⟩⟩
 exact J2.turned (t':=s2.toks) (fun b o hb e=>(Jo.2 b hb).trans e) f0 f1 (.inr f2) f3 f4
end
end L2
end
section
namespace L2
open PySem PySem.Spec PySem.W PySem.Calls PyProof.Rows
section
variable {X:Cx}
def AJ:V→List V→Hp→VK→Prop:=fun x vs H Q=>∃ l xs y,∃ k:Nat,x = .ref l∧vs = [.int k,y]∧H l = some (.lst xs)∧k≤xs.length∧xs.length < sizeLine∧Q .df (upd H l (.lst (xs.take k ++ y :: xs.drop k)))
def AG (K:Frag):List V→Hp→VK→Prop:=fun vs H Q=>∃ (a:Addr) (ns:List Int),vs = [.ref a]∧aB K H a (ns.map V.int)∧ns.length < 64∧∀ (Dw:List Int) p,Dw.Perm ns→Dw.Pairwise (·≤·)→H p = none→Q (.ref p) (upd H p (.lst (Dw.map V.int)))
end
mutual
inductive mP (H:Hp):V→PyData→Prop where
 | int (i:Int):mP H (.int i) (.int i)
 | lst {a:Addr} {vs:List V} {ds:List PyData}:H a = some (.lst vs)→cY H vs ds→mP H (.ref a) (.list ds)
 | tup {a:Addr} {vs:List V} {ds:List PyData}:H a = some (.tup vs)→cY H vs ds→mP H (.ref a) (.tuple ds)
inductive cY (H:Hp):List V→List PyData→Prop where
 | nil:cY H [] []
 | cons {v:V} {vs:List V} {d:PyData} {ds:List PyData}:mP H v d→cY H vs ds→cY H (v :: vs) (d :: ds)
end
section
variable {X:Cx} {pins:List (Addr×Obj)} {σ : St} {H:Hp} {s:Shared}
mutual
theorem mP.reads (I:Inv X pins σ H s):∀ {v:V} {d:PyData} {u:Value},mP H v d→RelV v u→∃ as,Reads s.heap u d as
 | _,_,u,.int i,r=>by
  obtain ⟨t,rfl⟩:=r
  exact ⟨_,.int i t⟩
 | _,_,u,.lst (a:=a) (vs:=vs) e h,r=>by
  cases (show u = Value.ref a from r)
  obtain ⟨_,aY,n,rv,g⟩:=(show bW X.prog X.w H s.heap a (.lst vs) from I.bJ a _ e)
  obtain ⟨as,ra⟩:=cY.reads I h rv
  exact ⟨_,.list g rfl rfl (by simpa using ra)⟩
 | _,_,u,.tup (a:=a) (vs:=vs) e h,r=>by
  cases (show u = Value.ref a from r)
  obtain ⟨_,aY,rv,o,g,hc,n,hd⟩:=(show bW X.prog X.w H s.heap a (.tup vs) from I.bJ a _ e)
  obtain ⟨as,ra⟩:=cY.reads I h rv
  exact ⟨_,.tuple g hc hd (by simpa using ra)⟩
theorem cY.reads (I:Inv X pins σ H s):∀ {vs:List V} {ds:List PyData} {us:List Value},cY H vs ds→Vals vs us→∃ as,ReadsAll s.heap us ds as
 | _,_,_,.nil,.nil=>⟨_,.nil⟩
 | _,_,_,.cons h t,.cons r q=>by
  obtain ⟨as,ra⟩:=mP.reads I h r
  obtain ⟨bs,rb⟩:=cY.reads I t q
  exact ⟨_,.cons ra rb⟩
end
end
def wg (neg:Bool):R2:=fun x y H Q=>∃ da db,mP H x da∧mP H y db∧SeqAt.shaped da = true∧SeqAt.shaped db = true∧Q (.bl (if neg then !PyData.eqv da db else PyData.eqv da db)) H
theorem kX {X:Cx} (hu:X.A.units + 64 < cLine):jU X (compareOp .Eq) (wg false):=by
 intro pins s σ H x y v u Q I rx ry h
 obtain ⟨da,db,ra,rb,ha,hb,q⟩:=h
 obtain ⟨as,r1⟩:=mP.reads I ra rx
 obtain ⟨bs,r2⟩:=mP.reads I rb ry
 exact SeqAt.compareEq_shaped r1 r2 ha hb hu (aP I q rfl)
theorem nA {X:Cx} (hu:X.A.units + 64 < cLine):jU X (compareOp .NotEq) (wg true):=by
 intro pins s σ H x y v u Q I rx ry h
 obtain ⟨da,db,ra,rb,ha,hb,q⟩:=h
 obtain ⟨as,r1⟩:=mP.reads I ra rx
 obtain ⟨bs,r2⟩:=mP.reads I rb ry
 exact SeqAt.compareNe_shaped r1 r2 ha hb hu (aP I q rfl)
def fD (l:List Int):PyData:=.list (l.map .int)
def sv (L:List (List Int)):PyData:=.list (L.map fD)
def cG (p:Int×Int):PyData:=.tuple [.int p.1,.int p.2]
def cB (L:List (Int×Int)):PyData:=.list (L.map cG)
theorem lay_ints:∀ l:List Int,PyData.canLayAll0 (l.map .int) = true∧PyData.depthAll (l.map .int) = 0
 | []=>⟨by simp [PyData.canLayAll0],by simp [PyData.depthAll]⟩
 | i :: l=>by
  obtain ⟨h1,h2⟩:=lay_ints l
  simp [PyData.canLayAll0,PyData.depthAll,PyData.canLay0,PyData.depth,h1,h2]
theorem hJ:∀ L:List (Int×Int),PyData.canLayAll0 (L.map cG) = true∧PyData.depthAll (L.map cG)≤1
 | []=>⟨by simp [PyData.canLayAll0],by simp [PyData.depthAll]⟩
 | p :: L=>by
  obtain ⟨h1,h2⟩:=hJ L
  simp [PyData.canLayAll0,PyData.depthAll,PyData.canLay0,PyData.depth,cG,h1]
  omega
theorem my:∀ l m:List Int,PyData.eqvAll (l.map .int) (m.map .int) = decide (l = m)
 | [],[]=>by simp [PyData.eqvAll]
 | [],_ :: _=>by simp [PyData.eqvAll]
 | _ :: _,[]=>by simp [PyData.eqvAll]
 | i :: l,j :: m=>by
  simp only [List.map_cons,PyData.eqvAll,PyData.eqv,my l m]
  by_cases h1:i = j <;> by_cases h2:l = m <;> simp [h1,h2]
theorem oI:∀ L M:List (Int×Int),PyData.eqvAll (L.map cG) (M.map cG) = decide (L = M)
 | [],[]=>by simp [PyData.eqvAll]
 | [],_ :: _=>by simp [PyData.eqvAll]
 | _ :: _,[]=>by simp [PyData.eqvAll]
 | (a,b) :: l,(c,d) :: m=>by
  rw [List.map_cons,List.map_cons,PyData.eqvAll,oI l m]
  have e:PyData.eqv (cG (a,b)) (cG (c,d)) = (decide (a = c) && decide (b = d)):=by
   unfold cG
   simp only [PyData.eqv,PyData.eqvAll,Bool.and_true]
   by_cases h1:a = c <;> by_cases h2:b = d <;> simp [h1,h2]
  rw [e]
  by_cases h1:a = c <;> by_cases h2:b = d <;> by_cases h3:l = m <;> simp [h1,h2,h3]
theorem hW (L M:List (Int×Int)):PyData.eqv (cB L) (cB M) = decide (L = M):=by
 unfold cB; rw [PyData.eqv]; exact oI L M
end L2
end
section
namespace L2
open PySem PySem.Spec PySem.W PySem.Calls PyProof.Rows
theorem xJ:bootBuiltins "min" = some (.builtin "min"):=by decide +kernel
theorem lE {i j:Int} (h1:0 < j) (h2:j < 2 ^ 250):As i j:=⟨h1,Sz.mono (m:=250) (by unfold Sz; omega) (by decide)⟩
theorem lg {ns:List Int} {k:Int} (h0:0≤k) (h1:k < ns.length):∃ n,gE (ns.map V.int) k = some (V.int n):=by
 obtain ⟨j,rfl⟩:=Int.eq_ofNat_of_zero_le h0
 have hj:j < ns.length:=by omega
 exact ⟨ns[j],bG (by simp [hj])⟩
end L2
end
section
namespace L2
open PySem PySem.Spec PySem.W PySem.Calls PyProof.Rows
theorem ay {α : Type} {p : α→Prop}:∀ x∈([]:List α),p x:=fun _ h=>by cases h
theorem aj {α : Type} {p : α→Prop} {a : α} {l:List α} (h:p a) (t:∀ x∈l,p x):∀ x∈a :: l,p x:=List.forall_mem_cons.mpr ⟨h,t⟩
end L2
namespace L2
open PySem PySem.Spec PySem.W PySem.Calls PyProof.Rows
section
variable {σ : St} {H:Hp} {Q:VK} {D:Ends} {K:Frag}
theorem m9 {R:Bool→Hp→Prop} (h:R true H):qd σ H R:=h
theorem eg {n i:Nat} {A:Prop} (hi:i < n) (h:A):∃ m',m' < n - i∧(m' = n - (i + 1)∧i + 1≤n∧A):=⟨_,by omega,rfl,hi,h⟩
theorem fL {R:Hp→Prop} {acc:Addr} {lo:Int} {n:Nat} {g:TG} {tt:TT} {te:TE} (Pv:Nat→St→List V→Hp→Prop) (h0:Pv 0 σ [] H)
  (hs:∀ i σ ys H,i < n→Pv i σ ys H→g (.int (lo + i)) σ H fun σ2 H4=>tt σ2 H4 fun b H5=>if b = true then te σ2 H5 fun y H6=>H6 acc = some (.lst ys)∧ys.length < sizeLine∧∃ m',m' < n - i∧(m' = n - (i + 1)∧i + 1≤n∧Pv (i + 1) σ2 (ys ++ [y]) (upd H6 acc (.lst (ys ++ [y])))) else ∃ m',m' < n - i∧(m' = n - (i + 1)∧i + 1≤n∧Pv (i + 1) σ2 ys H5))
  (hd:∀ σ ys H,Pv n σ ys H→R H) :
  ∃ W:Nat→Nat→St→List V→Hp→Prop,(∃ m,W 0 m σ [] H)∧∀ i m σ' ys H2,W i m σ' ys H2→(((tj lo n).stop i H2∧R H2)∨((tj lo n).go i H2∧∀ x H3,(tj lo n).pS i H2 x H3→g x σ' H3 fun σ2 H4=>tt σ2 H4 fun b H5=>
   if b = true then te σ2 H5 fun y H6=>H6 acc = some (.lst ys)∧ys.length < sizeLine∧∃ m',m' < m∧W (i + 1) m' σ2 (ys ++ [y]) (upd H6 acc (.lst (ys ++ [y]))) else ∃ m',m' < m∧W (i + 1) m' σ2 ys H5)):=by
 refine ⟨fun i m σ ys H=>m = n - i∧i≤n∧Pv i σ ys H,⟨n,by simp,Nat.zero_le _,h0⟩,?_⟩
 rintro i m σ ys H ⟨rfl,hi,p⟩
 by_cases dh:i < n
 ·refine .inr ⟨dh,fun x H' y=>?_⟩
  obtain ⟨e,y⟩:=y
  subst e y
  exact hs i σ ys _ dh p
 ·have e:i = n:=by omega
  subst e
  exact .inl ⟨Nat.le_refl _,hd σ ys H p⟩
theorem dC {R:Hp→Prop} {acc a:Addr} {xs:List V} {g:TG} {tt:TT} {te:TE} (Pv:Nat→St→List V→Hp→Prop) (h0:Pv 0 σ [] H) (hl:∀ i σ ys H,i≤xs.length→Pv i σ ys H→aB K H a xs)
  (hs:∀ i x σ ys H,xs[i]? = some x→i < xs.length→Pv i σ ys H→g x σ H fun σ2 H4=>tt σ2 H4 fun b H5=>if b = true then te σ2 H5 fun y H6=>H6 acc = some (.lst ys)∧ys.length < sizeLine∧∃ m',m' < xs.length - i∧(m' = xs.length - (i + 1)∧i + 1≤xs.length∧Pv (i + 1) σ2 (ys ++ [y]) (upd H6 acc (.lst (ys ++ [y])))) else ∃ m',m' < xs.length - i∧(m' = xs.length - (i + 1)∧i + 1≤xs.length∧Pv (i + 1) σ2 ys H5))
  (hd:∀ σ ys H,Pv xs.length σ ys H→R H) :
  ∃ W:Nat→Nat→St→List V→Hp→Prop,(∃ m,W 0 m σ [] H)∧∀ i m σ' ys H2,W i m σ' ys H2→(((uK K a).stop i H2∧R H2)∨((uK K a).go i H2∧∀ x H3,(uK K a).pS i H2 x H3→g x σ' H3 fun σ2 H4=>tt σ2 H4 fun b H5=>
   if b = true then te σ2 H5 fun y H6=>H6 acc = some (.lst ys)∧ys.length < sizeLine∧∃ m',m' < m∧W (i + 1) m' σ2 (ys ++ [y]) (upd H6 acc (.lst (ys ++ [y]))) else ∃ m',m' < m∧W (i + 1) m' σ2 ys H5)):=by
 refine ⟨fun i m σ ys H=>m = xs.length - i∧i≤xs.length∧Pv i σ ys H,⟨xs.length,by simp,Nat.zero_le _,h0⟩,?_⟩
 rintro i m σ ys H ⟨rfl,hi,p⟩
 have q:=hl i σ ys H hi p
 by_cases dh:i < xs.length
 ·refine .inr ⟨⟨xs,xs[i],q,by simp [dh]⟩,fun x H' y=>?_⟩
  obtain ⟨e,y⟩:=y
  subst e
  exact hs i x σ ys _ (y xs q) dh p
 ·have e:i = xs.length:=by omega
  subst e
  exact .inl ⟨⟨xs,q,Nat.le_refl _⟩,hd σ ys H p⟩
theorem cQ {wi:TI} {g:TG} {tt:TT} {te:TE} {n:Nat} {fr:List Nat} (h:wi σ H fun J H1=>∀ acc,H1 acc = none→∃ W:Nat→Nat→St→List V→Hp→Prop,(∃ m,W 0 m (cZ n fr σ) [] (upd H1 acc (.lst [])))∧
 ∀ i m σ' ys H2,W i m σ' ys H2→((J.stop i H2∧Q (.ref acc) H2)∨(J.go i H2∧∀ x H3,J.pS i H2 x H3→g x σ' H3 fun σ2 H4=>tt σ2 H4 fun b H5=>
  if b = true then te σ2 H5 fun y H6=>H6 acc = some (.lst ys)∧ys.length < sizeLine∧∃ m',m' < m∧W (i + 1) m' σ2 (ys ++ [y]) (upd H6 acc (.lst (ys ++ [y]))) else ∃ m',m' < m∧W (i + 1) m' σ2 ys H5))):iV wi g tt te n fr σ H Q:=h
end
end L2
end
section
namespace Gm
open PySem L2
def put (l:List Int) (k:Nat) (x:Int):List Int:=l.take k ++ x :: l.drop k
structure oX (L:List (List Int)):Prop where
 nd:∀ (i:Nat) (l:List Int),L[i]? = some l→l.Nodup
 rg:∀ (i:Nat) (l:List Int),L[i]? = some l→∀ x∈l,0≤x∧x < L.length∧x≠i
 sy:∀ (i:Nat) (l:List Int),L[i]? = some l→∀ x∈l,∀ j:Nat,x = j→∀ m,L[j]? = some m→(i:Int)∈m
structure Made (n one other:Nat) (L:List (List Int)):Prop where
 len:L.length = n
 map:oX L
 bd:∀ (i:Nat) (l:List Int),L[i]? = some l→∀ x∈l,(i < one∧x < one)∨(i = one∧x < other)∨(x = one∧i < other)
structure b9 (H:Hp) (p:Addr) (as:List Addr) (L:List (List Int)):Prop where
 top:H p = some (.lst (as.map V.ref))
 len:as.length = L.length
 row:∀ (i:Nat) (a:Addr) (l:List Int),as[i]? = some a→L[i]? = some l→H a = some (.lst (l.map V.int))
section
variable {H H':Hp} {p:Addr} {as:List Addr} {L:List (List Int)}
theorem b9.at (g:b9 H p as L) {i:Nat} (hi:i < L.length):∃ a l,as[i]? = some a∧L[i]? = some l∧H a = some (.lst (l.map V.int)):=by
 have h2:i < as.length:=by rw [g.len]; exact hi
 exact ⟨as[i],L[i],by simp [h2],by simp [hi],g.row i _ _ (by simp [h2]) (by simp [hi])⟩
theorem b9.same (g:b9 H p as L) (e:ao H H'):b9 H' p as L:=⟨e _ _ g.top,g.len,fun i a l h1 h2=>e _ _ (g.row i a l h1 h2)⟩
theorem b9.ix (g:b9 H p as L) {i:Nat} {a:Addr} (hi:as[i]? = some a):gE (as.map V.ref) (i:Int) = some (V.ref a):=bG (by rw [List.getElem?_map,hi]; rfl)
theorem lX {H:Hp}:∀ l:List Int,cY H (l.map V.int) (l.map PyData.int)
 | []=>.nil
 | i :: l=>.cons (.int i) (lX l)
theorem oh {a:Addr} {l:List Int} (h:H a = some (.lst (l.map V.int))):mP H (.ref a) (fD l):=.lst h (lX l)
end
theorem ao.fresh {H H':Hp} {a:Addr} {o:HO} (e:ao H H') (h:H a = none):ao H (upd H' a o):=fun b u q=>by rw [av (fun z=>by rw [z,h] at q; cases q)]; exact e b u q
inductive Reach (L:List (List Int)) (s:Int):Int→Prop where
 | here:Reach L s s
 | step {i:Nat} {l:List Int} {x:Int}:Reach L s i→L[i]? = some l→x∈l→Reach L s x
end Gm
namespace Gm
open PySem L2
theorem aV {n:Nat} (h:n≤1000):n < sizeLine:=by rw [PySem.sizeLine_eq]; omega
end Gm
end
section
namespace Gm
open PySem L2
def yJ (i:Nat) (l:List Int):Nat→List Int
 | 0=>[]
 | j + 1=>yJ i l j ++ (if ((i + 1 + j:Nat):Int)∈l then [((i + 1 + j:Nat):Int)] else [])
def zM (L:List (List Int)):Nat→List (Int×Int)
 | 0=>[]
 | k + 1=>zM L k ++ (yJ k (L.getD k []) (L.length - (k + 1))).map fun x=>((k:Int),x)
abbrev PR (H:Hp):List Addr→List (Int×Int)→Prop:=Paired fun a x=>H a = some (.tup [.int x.1,.int x.2])
theorem PR.same {H H':Hp} {ps:List Addr} {T:List (Int×Int)} (h:PR H ps T) (e:ao H H'):PR H' ps T:=Paired.tX h fun a x q=>e _ _ q
theorem PR.app {H:Hp}:∀ {ps qs:List Addr} {T U:List (Int×Int)},PR H ps T→PR H qs U→PR H (ps ++ qs) (T ++ U)
 | _,_,_,_,.nil,h=>h
 | _,_,_,_,.cons r t,h=>.cons r (PR.app t h)
theorem PR.yK {H:Hp}:∀ {ps:List Addr} {T:List (Int×Int)},PR H ps T→cY H (ps.map V.ref) (T.map cG)
 | _,_,.nil=>.nil
 | _,_,.cons r t=>.cons (.tup r (.cons (.int _) (.cons (.int _) .nil))) (PR.yK t)
theorem PR.len {H:Hp} {ps:List Addr} {T:List (Int×Int)} (h:PR H ps T):ps.length = T.length:=Paired.length h
end Gm
end
section
namespace Gm
open PySem L2
structure Fl (L:List (List Int)) (s:Int) (ks ws:List Int):Prop where
 nd:ks.Nodup
 nw:ws.Nodup
 st:s∈ks
 re:∀ x∈ks,Reach L s x
 sub:∀ x∈ws,x∈ks
 cl:∀ (i:Nat) (l:List Int),(i:Int)∈ks→(i:Int)∉ws→L[i]? = some l→∀ x∈l,x∈ks
structure Fi (L:List (List Int)) (s:Int) (ks ws:List Int) (pl:Nat) (l:List Int) (k:Nat):Prop where
 nd:ks.Nodup
 nw:ws.Nodup
 st:s∈ks
 re:∀ x∈ks,Reach L s x
 sub:∀ x∈ws,x∈ks
 pk:(pl:Int)∈ks
 cl:∀ (i:Nat) (m:List Int),(i:Int)∈ks→(i:Int)∉ws→i≠pl→L[i]? = some m→∀ x∈m,x∈ks
 tk:∀ x∈l.take k,x∈ks
def Iy (L:List (List Int)) (fs:List Int):Prop:=∀ (i:Nat) (l:List Int),L[i]? = some l→(∃ x,x∈l∧x∈fs)→(i:Int)∈fs
structure Pa (L:List (List Int)) (fs:List Int) (k:Nat):Prop where
 nd:fs.Nodup
 st:(0:Int)∈fs
 re:∀ x∈fs,Reach L 0 x
 gr:Iy L fs∨k + 1≤fs.length
structure Pi (L:List (List Int)) (pW fs:List Int) (j:Nat):Prop where
 nd:fs.Nodup
 st:(0:Int)∈fs
 re:∀ x∈fs,Reach L 0 x
 kp:Iy L pW→fs = pW
 gr:pW.length < fs.length∨(fs = pW∧∀ (i:Nat) (l:List Int),i < j→L[i]? = some l→(∃ x,x∈l∧x∈fs)→(i:Int)∈fs)
end Gm
namespace Gm
open PySem L2
theorem shaped_ints (l:List Int):SeqAt.shaped (fD l) = true:=by
 obtain ⟨h1,h2⟩:=lay_ints l
 unfold SeqAt.shaped fD
 simp [PyData.canLay0,PyData.depth,h1,h2]
theorem uo (l m:List Int):PyData.eqv (fD l) (fD m) = decide (l = m):=by unfold fD; rw [PyData.eqv]; exact my l m
end Gm
end
section
namespace L2
open PySem PySem.Spec PySem.W PySem.Calls PyProof.Rows
section
variable {X:Cx} {K:Frag}
theorem mj (h:X.K = K):Ao X (tN K):=h▸aO
theorem oz (h:X.K = K):Ao X (tM K):=h▸bV
theorem jS (h:X.K = K):fF X (.type "list") (fun xs H Q=>∃ p ys,xs = [.ref p]∧(aB K H p ys∨SqT K H p ys)∧∀ l,H l = none→Q (.ref l) (upd H l (.lst ys))):=by subst h; exact gC
end
end L2
end
section
namespace L2
open PySem PySem.Spec PySem.W PySem.Calls PyProof.Rows HT
end L2
end
section
namespace L2
open PySem PySem.Spec PySem.W PySem.Calls PyProof.Rows HT
def JC (K:Frag):R2:=fun x y H Q=>∃ (a b:Addr) (ns ms:List Int),x = .ref a∧y = .ref b∧aB K H a (ns.map V.int)∧aB K H b (ms.map V.int)∧Q (.bl (lexLt ns ms)) H
def Le (a b:List Int):Prop:=lexLt b a = false
end L2
end
section
namespace L2
open PySem PySem.Spec PySem.W PySem.Calls PyProof.Rows
section
variable {cmp:Nat→Nat→(Bool→Shared→Prop)→Shared→Prop} {n:Nat} {f:Nat→List Int} {s:Shared}
def Nx (cmp:Nat→Nat→(Bool→Shared→Prop)→Shared→Prop) (n:Nat) (f:Nat→List Int) (s:Shared):Prop:=∀ i j C,i < n→j < n→C (HT.lexLt (f i) (f j)) s→cmp i j C s
structure Arr (n:Nat) (p:Array Nat):Prop where
 size:p.size = n
 perm:p.Perm (List.toArray (List.range n))
def kf (f:Nat→List Int) (p:Array Nat) (i:Nat):List Int:=f (p.getD i 0)
def Up (f:Nat→List Int) (p:Array Nat) (m:Nat):Prop:=∀ i,i + 1 < m→Le (kf f p i) (kf f p (i + 1))
def Dn (f:Nat→List Int) (p:Array Nat) (m:Nat):Prop:=∀ i,i + 1 < m→Le (kf f p (i + 1)) (kf f p i)
def Flt (f:Nat→List Int) (p:Array Nat) (m q:Nat):Prop:=∀ i,m - (q + 1)≤i→i < m→kf f p i = kf f p (m - 1)
end
end L2
end
section
namespace L2
open PySem PySem.Spec PySem.W PySem.Calls PyProof.Rows
def F8 (h:Heap) (vs:List Value) (f:Nat→List Int):Prop:=∀ i,i < vs.length→∃ b us,vs[i]? = some (.ref b)∧h.IsList b us∧IntsAre us.toList (f i)
def G0 (vs:List Value) (p:Array Nat):Array Value:=List.toArray (p.toList.map fun i=>vs.getD i Value.none)
def KG (h:Heap) (a:Addr) (vs:List Value):Heap:=((h.update a (Obj.mapSeq fun _=>#[])).push (seqObj "tuple" vs.toArray 0)).push (seqObj "list" #[] 0)
end L2
end
section
namespace L2
open PySem PySem.Spec PySem.W PySem.Calls PyProof.Rows
section
variable {prog:Program} {w:World} {A:Around} {R:Result→Shared→Prop} {I:Addr} {fp wr:List Addr} {n:Nat} {P:Nat→Value→Prop} {St:Nat→Heap→Prop} {Kp:Heap→Prop} {bt:Nat→Nat→Bool} {S:Addr}
def Iw (prog:Program) (w:World) (A:Around) (P:Nat→Value→Prop) (Kp:Heap→Prop) (bt:Nat→Nat→Bool):Prop:=
 ∀ (i j:Nat) (x y:Value) (t:Shared) (Q E:Value→Shared→Prop),P i x→P j y→Kp t.heap→Q (.bool (bt i j)) t→wpAny (model prog w) A (richCompare .Lt x y) Q E t
end
section
variable {X:Cx}
def pick {α : Type} (d : α) (L:List α) (p:Array Nat):List α:=p.toList.map fun i=>L.getD i d
def yM (K:Frag):List V→Hp→VK→Prop:=fun vs H Q=>∃ (a:Addr) (as:List Addr) (L:List (List Int)),vs = [.ref a]∧aB K H a (as.map V.ref)∧as.length = L.length∧(∀ (i:Nat) (b:Addr) (l:List Int),as[i]? = some b→L[i]? = some l→aB K H b (l.map V.int))∧as.length < 64∧
 ∀ (p:Array Nat) (q:Addr),Arr L.length p→Up (fun i=>L.getD i []) p L.length→H q = none→Q (.ref q) (upd H q (.lst ((pick 0 as p).map V.ref)))
def GO (K:Frag):List V→Hp→VK→Prop:=fun vs H Q=>∃ (a:Addr) (as:List Addr) (L:List (List Int)),vs = [.ref a]∧aB K H a (as.map V.ref)∧as.length = L.length∧(∀ (i:Nat) (b:Addr) (l:List Int),as[i]? = some b→L[i]? = some l→aB K H b (l.map V.int))∧0 < as.length∧
 ∀ (i:Nat) (b:Addr) (l:List Int),as[i]? = some b→L[i]? = some l→(∀ m∈L,Le l m)→Q (.ref b) H
def GP (K:Frag):List V→Hp→VK→Prop:=fun vs H Q=>∃ (a:Addr) (ns:List Int),vs = [.ref a]∧aB K H a (ns.map V.int)∧ns≠[]∧∀ m,m∈ns→(∀ x∈ns,m≤x)→Q (.int m) H
def Jv (K:Frag):List V→Hp→VK→Prop:=fun vs H Q=>∃ (a:Addr) (ns:List Int),vs = [.ref a]∧aB K H a (ns.map V.int)∧ns.length≤1000∧(∀ x∈ns,0≤x∧x≤100000)∧Q (.int ns.sum) H
def Cn (K:Frag):V→List V→Hp→VK→Prop:=fun x vs H Q=>∃ (l:Addr) (ns:List Int) (y:Int),x = .ref l∧vs = [.int y]∧H l = some (.lst (ns.map V.int))∧y∈ns∧Q (.int (ns.idxOf y:Nat)) H
end
end L2
end
section
namespace Gm
open PySem L2
def cy (r:List Int) (j:Nat):Int:=r.getD (j % r.length) 0
def AD (r:List Int) (k:Nat):List Int:=r.drop k ++ r.take k
abbrev bF:=Int×Int
def rowOf (L:List (List Int)) (a:Int):List Int:=L.getD a.toNat []
def pre (l:List Int) (x:Int):Int:=cy l (l.idxOf x + l.length - 1)
structure Dt (L:List (List Int)) (d:bF):Prop where
 lo:0≤d.1
 hi:d.1 < L.length
 mem:d.2∈rowOf L d.1
def nx (L:List (List Int)) (d:bF):bF:=(d.2,pre (rowOf L d.2) d.1)
theorem md {i n:Nat} (h:i < n):(i + n - 1) % n = if i = 0 then n - 1 else i - 1:=by
 by_cases e:i = 0
 ·rw [if_pos e,e,Nat.zero_add,Nat.mod_eq_of_lt (by omega)]
 ·rw [if_neg e]
  have:i + n - 1 = (i - 1) + n:=by omega
  rw [this,Nat.add_mod_right,Nat.mod_eq_of_lt (by omega)]
section
variable {L:List (List Int)} {d e:bF}
def HZ (L:List (List Int)):Nat→List bF
 | 0=>[]
 | k + 1=>HZ L k ++ (rowOf L k).map fun x=>((k:Int),x)
def it (L:List (List Int)) (d:bF):Nat→bF
 | 0=>d
 | k + 1=>Gm.nx L (it L d k)
def Ir (L:List (List Int)) (d:bF) (k:Nat):Prop:=∀ i,0 < i→i < k→it L d i≠d
def tr (L:List (List Int)) (d:bF) (k:Nat):List bF:=(List.range k).map (it L d)
def dj (r:List Int) (j:Nat):bF:=(cy r j,cy r (j + 1))
structure Good (L:List (List Int)) (r:List Int):Prop where
 two:2≤r.length
 dt:∀ j,Dt L (dj r j)
 st:∀ j,Gm.nx L (dj r j) = dj r (j + 1)
def sh (s:Nat) (r:List Int):List bF:=(List.range r.length).map fun j=>dj r (j + s)
def Ce (L:List (List Int)) (d:bF) (k:Nat):List Int:=(List.range k).map fun i=>(it L d i).1
def sS (r:List Int):Prop:=∀ k,k < r.length→Le r (AD r k)
structure Iv (L R:List (List Int)):Prop where
 good:∀ r∈R,Good L r
 least:∀ r∈R,sS r
 sorted:R.Pairwise (fun a b=>HT.lexLt a b = true)
 nd:(R.flatMap (sh 0)).Nodup
 all:∀ d,Dt L d→d∈R.flatMap (sh 0)
structure Lp (L R:List (List Int)) (ks:List bF):Prop where
 good:∀ r∈R,Good L r
 least:∀ r∈R,sS r
 nd:ks.Nodup
 pm:ks.Perm (R.flatMap (sh 0))
 two:2 * R.length≤ks.length
end
end Gm
end
section
namespace Gm
open PySem L2
def yY (d:bF):List Key:=[.inl d.1,.inl d.2]
def kD (ks:List bF):List (List Key×V):=ks.map fun d=>(yY d,V.bl true)
theorem sC {r:List Int} {k:Nat} (h:k≤r.length):fJ (r.map V.int) (some (k:Int)) none = (r.drop k).map V.int:=by
 unfold fJ HT.jD
 rw [List.length_map]
 dsimp only
 rw [if_neg (by omega),show min ((k:Int).toNat) r.length = k by omega,List.take_of_length_le (by rw [List.length_drop,List.length_map]; omega),List.map_drop]
theorem sx {r:List Int} {k:Nat} (h:k≤r.length):fJ (r.map V.int) none (some (k:Int)) = (r.take k).map V.int:=by
 unfold fJ HT.jD
 rw [List.length_map]
 dsimp only
 rw [if_neg (by omega),show min ((k:Int).toNat) r.length = k by omega,List.drop_zero,Nat.sub_zero,List.map_take]
section
variable {σ : St} {H:Hp} {Q:VK} {K:PySem.W.Frag}
theorem tK {a:Addr} {i k n:Nat} {r:List Int} (h1 : σ[i]? = some (some (.ref a))) (h2 : σ[k]? = some (some (.int (n:Int)))) (hs:aB K H a (r.map V.int)) (hn:n≤r.length) (q:∀ p,H p = none→Q (.ref p) (upd H p (.lst ((r.take n).map V.int)))) :
  vK (qW K) (iu i) fU (lR (iu k)) σ H Q:=⟨_,h1,⟨_,h2,⟨_,rfl,⟨a,_,rfl,hs,fun p hp=>by rw [sx hn]; exact q p hp⟩⟩⟩⟩
end
theorem b9.snoc {H:Hp} {t b:Addr} {bs:List Addr} {R:List (List Int)} {l:List Int} (g:b9 H t bs R) (nt:t∉bs) (nb:b≠t) (hb:H b = some (.lst (l.map V.int))):b9 (upd H t (.lst (bs.map V.ref ++ [.ref b]))) t (bs ++ [b]) (R ++ [l]):=by
 refine ⟨by rw [List.map_append]; exact ah,by rw [List.length_append,List.length_append,g.len]; rfl,fun i a m h1 h2=>?_⟩
 rcases Nat.lt_or_ge i bs.length with hi | hi
 ·rw [List.getElem?_append_left hi] at h1
  rw [List.getElem?_append_left (by rw [← g.len]; exact hi)] at h2
  have am:=List.mem_of_getElem? h1
  have ne:a≠t:=fun z=>nt (by rw [← z]; exact am)
  rw [av ne]
  exact g.row i a m h1 h2
 ·rw [List.getElem?_append_right hi] at h1
  rw [List.getElem?_append_right (by rw [← g.len]; exact hi),← g.len] at h2
  have:i - bs.length = 0:=by
   have:=(List.getElem?_eq_some_iff.mp h1).1
   rw [List.length_singleton] at this
   omega
  rw [this] at h1 h2
  simp at h1 h2
  subst h1 h2
  rw [av nb]
  exact hb
theorem b9.vc {H:Hp} {t b:Addr} {bs:List Addr} {R:List (List Int)} (g:b9 H t bs R) (hb:H b = none):b∉t :: bs:=fun z=>by
 rcases List.mem_cons.mp z with z | z
 ·rw [z,g.top] at hb; cases hb
 ·obtain ⟨k,hk,Lu⟩:=List.mem_iff_getElem.mp z
  have kl:k < R.length:=by rw [← g.len]; exact hk
  have:=g.row k b _ (by rw [List.getElem?_eq_getElem hk,Lu]) (List.getElem?_eq_getElem kl)
  rw [hb] at this; cases this
theorem take_snoc {α : Type} {l:List α} {j:Nat} {x : α} (h:l[j]? = some x):l.take (j + 1) = l.take j ++ [x]:=by rw [List.take_succ,h]; rfl
def Oz (g:Addr) (H H':Hp):Prop:=∀ b o,b≠g→H b = some o→H' b = some o
def fl (R:List (List Int)) (k:Nat):List bF:=(R.take k).flatMap fun r=>sh (r.length - 2) r
end Gm
end
section
namespace Gm
open PySem L2
def J1:Int→List Int→Int→Int
 | p,[],_=>p
 | p,h :: t,x=>if h = x then p else J1 h t x
def lst (l:List Int):Int:=l.getD (l.length - 1) 0
def rem (L:List (List Int)) (a b:Int):List (List Int):=(L.set a.toNat ((rowOf L a).erase b)).set b.toNat ((rowOf L b).erase a)
end Gm
end
section
namespace Gm
open PySem L2
inductive Wk (f:bF→bF):bF→List bF→bF→Prop where
 | nil (x:bF):Wk f x [] x
 | cons {x y:bF} {l:List bF}:Wk f (f x) l y→Wk f x (x :: l) y
def Bt (f:bF→bF) (c:List bF):Prop:=∃ x l,c = x :: l∧Wk f x c x
structure Dec (L:List (List Int)) (R:List (List bF)):Prop where
 Mn:∀ c∈R,Bt (nx L) c
 nd:R.flatten.Nodup
 mem:∀ d,d∈R.flatten↔Dt L d
end Gm
end
section
namespace Gm
open PySem L2
def iso (L:List (List Int)):Nat:=L.countP (·.isEmpty)
def vC (L:List (List Int)) (S:List Int):Prop:=∀ x:Int,0≤x→x < L.length→∃ s∈S,Reach L s x
end Gm
end
section
namespace Gm
open PySem L2
def LJ (c:List bF):bF:=c.headD (0,0)
def rep (R:List (List bF)) (d:bF):bF:=((R.find? fun c=>decide (d∈c)).map LJ).getD (0,0)
structure Dp (L:List (List Int)) (R:List (List bF)):Prop where
 Mn:∀ c∈R,Bt (nx L) c
 nd:R.flatten.Nodup
 dt:∀ d∈R.flatten,Dt L d
end Gm
end
section
namespace L2
open PySem PySem.Spec PySem.W PySem.Calls PyProof.Rows
section
variable {X:Cx}
def E4 (ns:List Int):List Int:=ns.foldl step_dedup []
def GL (K:Frag):List V→Hp→VK→Prop:=fun vs H Q=>∃ (a:Addr) (ns:List Int),vs = [.ref a]∧aB K H a (ns.map V.int)∧ns.length≤1000∧∀ (p:Addr) (S:Int→Bool),H p = none→Q (.ref p) (upd H p (.set S (E4 ns).length))
def JD:R2:=fun x y H Q=>∃ a b:Bool,x = .bl a∧y = .bl b∧Q (.bl (a == b)) H
def JE (K:Frag):R2:=fun x y H Q=>∃ (p l:Addr) (d:Int×Int) (ps:List Addr) (T:List (Int×Int)),x = .ref p∧y = .ref l∧H p = some (.tup [.int d.1,.int d.2])∧H l = some (.lst (ps.map V.ref))∧Gm.PR H ps T∧Q (.bl (decide (d∈T))) H
def AH:V→List V→Hp→VK→Prop:=fun x vs H Q=>∃ (l:Addr) (ns:List Int) (y:Int),x = .ref l∧vs = [.int y]∧H l = some (.lst (ns.map V.int))∧y∈ns∧Q .df (upd H l (.lst ((ns.erase y).map V.int)))
end
end L2
end
section
namespace Gm
open PySem L2
structure Ak (L:List (List Int)):Prop where
 map:oX L
 two:2≤L.length
 span:vC L [0]
 MB:∃ R,Dec L R∧(L.length:Int) + R.length + iso L = (zM L L.length).length + 2
def both (L:List (List Int)) (a b:Int) (A B:List Int):List (List Int):=(L.set a.toNat A).set b.toNat B
structure Gf (L:List (List Int)) (a b:Int) (A B:List Int):Prop where
 map:oX L
 a0:0≤a
 a1:a < L.length
 b0:0≤b
 b1:b < L.length
 ne:a≠b
 no:b∉rowOf L a
 pa:A.Perm (b :: rowOf L a)
 pb:B.Perm (a :: rowOf L b)
 ea:A.erase b = rowOf L a
 eb:B.erase a = rowOf L b
end Gm
end
section
namespace Gm
open PySem L2
def KI (L:List (List Int)):List (List Int):=L ++ [[]]
structure Pl (L:List (List Int)) (r:List Int) (c1 cj:Nat) (dn:List Nat) (M:List (List Int)):Prop where
 sh:Ak M
 len:M.length = L.length + 1
 new:rowOf M (L.length:Int) = dn.map (cy r)
 hd:∃ rest,dn = c1 :: rest
 keep:∀ x:Int,0≤x→x < L.length→(∀ c∈dn,cy r c≠x)→rowOf M x = rowOf L x
 sub:∀ d,Dt L d→Dt M d
 le:c1≤cj
 top:cj < r.length
 i1:∀ i,cj≤i→i + 1 < c1 + r.length→nx M (dj r i) = dj r (i + 1)
 i2:nx M (dj r (c1 + (r.length - 1))) = (cy r c1,(L.length:Int))
 i3:nx M (cy r c1,(L.length:Int)) = ((L.length:Int),cy r cj)
 i4:nx M ((L.length:Int),cy r cj) = dj r cj
end Gm
end
section
namespace L2
open PySem PySem.Spec PySem.W PySem.Calls PyProof.Rows
end L2
namespace Gm
open PySem L2
theorem PR.at {H:Hp}:∀ {ps:List Addr} {T:List (Int×Int)},PR H ps T→∀ {i:Nat} {a:Addr},ps[i]? = some a→∃ x:Int×Int,T[i]? = some x∧H a = some (.tup [.int x.1,.int x.2])
 | _,_,.nil,_,_,e=>by simp at e
 | _,_,.cons r t,0,_,e=>by simp at e; subst e; exact ⟨_,rfl,r⟩
 | _,_,.cons r t,i + 1,_,e=>by
  obtain ⟨x,h1,h2⟩:=PR.at t (i:=i) (by simpa using e)
  exact ⟨x,by simpa using h1,h2⟩
end Gm
end
section
namespace L2
open PySem PySem.Spec PySem.W PySem.Calls PyProof.Rows
def uJ (K:Frag) (a b:Addr):It:=
 ⟨fun i H=>∃ xs ys x y,aB K H a xs∧aB K H b ys∧xs[i]? = some x∧ys[i]? = some y,
  fun i H v H'=>∃ p x y,H p = none∧v = .ref p∧(∀ xs,aB K H a xs→xs[i]? = some x)∧(∀ ys,aB K H b ys→ys[i]? = some y)∧H' = upd H p (.tup [x,y]),
  fun i H=>∃ xs ys,aB K H a xs∧aB K H b ys∧(xs.length≤i∨ys.length≤i)⟩
theorem p6 {P:Program} {w:World} {K:Frag} {elts:List Expr} {kx:Nat} {px:Pos} {a b z TI TO i1 i2:Addr} (D:ZipApart z TI TO i1 i2 a b) :
  Turn P w K (.Tuple elts kx px) (uJ K a b) [z,TI,TO,i1,i2] z (fun i h=>IsZip h z TI TO .none∧IsPair h TI (.ref i1) (.ref i2)∧(∃ u v,IsPair h TO u v)∧h.IsListIter i1 a i∧h.IsListIter i2 b i) where
 mem:=by simp
 obj:=fun i h st c hc=>by
  obtain ⟨h1,h2,⟨u,v,h3⟩,h4,h5⟩:=st
  simp only [List.mem_cons,List.not_mem_nil,or_false] at hc
  rcases hc with rfl | rfl | rfl | rfl | rfl
  ·exact ⟨_,h1,fun v q=>by cases q⟩
  ·exact ⟨_,h2,fun v q=>by cases q⟩
  ·exact ⟨_,h3,fun v q=>by cases q⟩
  ·obtain ⟨o,e1,_,d⟩:=h4; exact ⟨o,e1,fun v q=>by rw [d] at q; cases q⟩
  ·obtain ⟨o,e1,_,d⟩:=h5; exact ⟨o,e1,fun v q=>by rw [d] at q; cases q⟩
 keep:=fun i h h' st k=>by
  obtain ⟨h1,h2,⟨u,v,h3⟩,h4,h5⟩:=st
  exact ⟨k z (by simp) _ h1,k TI (by simp) _ h2,⟨u,v,k TO (by simp) _ h3⟩,h4.at fun o q=>k i1 (by simp) o q,h5.at fun o q=>k i2 (by simp) o q⟩
 item:=by
  intro X hP hw hK hc i pins s σ H E I hf st hg
  subst hP hw hK
  obtain ⟨h1,h2,⟨u,v,h3⟩,h4,h5⟩:=st
  obtain ⟨xs,ys,x,y,xZ,xY,hx,hy⟩:=hg
  obtain ⟨ia,ra,pa,za⟩:=I.list xZ
  obtain ⟨ib,rb,pb,zb⟩:=I.list xY
  obtain ⟨u1,Lb,Ca⟩:=ra.get hx
  obtain ⟨u2,La,B9⟩:=rb.get hy
  have lt:∀ c∈[z,TI,TO,i1,i2],c < s.heap.objs.size:=fun c hc=>by
   simp only [List.mem_cons,List.not_mem_nil,or_false] at hc
   rcases hc with rfl | rfl | rfl | rfl | rfl
   ·exact Heap.lt_size h1
   ·exact Heap.lt_size h2
   ·exact Heap.lt_size h3
   ·obtain ⟨_,q,_⟩:=id h4; exact Heap.lt_size q
   ·obtain ⟨_,q,_⟩:=id h5; exact Heap.lt_size q
  refine wpAny_pyNext_zip_item D h1 h2 h3 h4 h5 pa.isList pb.isList (x:=u1) (y:=u2) (by simpa using Lb) (by simpa using La) fun h' k1 k2 k3 k4 hT y9 hk=>⟨_,rfl,?_⟩
  refine wpAny_letOwnedTupleGo_zip k1 fun rX yb pV=>?_
  have hn:H s.heap.objs.size = none:=I.bJ.fresh (Nat.le_refl _)
  have nz:s.heap.objs.size≠z:=Nat.ne_of_gt (lt z (by simp))
  have kk:∀ c o,c∉[z,TI,TO,i1,i2]→s.heap.get? c = some o→rX.get? c = some o:=fun c o hc q=>by
   simp only [List.mem_cons,List.not_mem_nil,or_false,not_or] at hc
   exact (pV.2 c hc.1).trans (hk c o hc.1 hc.2.2.1 hc.2.2.2.1 hc.2.2.2.2 q)
  have EI:rX.get? s.heap.objs.size = some { cls:=.type "tuple",data:=.seq #[u1,u2] }:=(pV.2 _ nz).trans hT
  refine ⟨.ref s.heap.objs.size,upd H s.heap.objs.size (.tup [x,y]),Inv.gN (s:=s) (h':=rX) (t':=s.toks) I kk hf (Nat.le_refl _) ⟨by simp only [List.length_cons,List.length_nil]; rw [sizeLine_eq]; decide,[u1,u2],.cons Ca (.cons B9 .nil),⟨_,EI,rfl,_,rfl⟩⟩,rfl,
   ⟨_,x,y,hn,rfl,fun tw DZ=>by rw [I.gn DZ xZ]; exact hx,fun tw DZ=>by rw [I.gn DZ xY]; exact hy,rfl⟩,⟨yb,?_,⟨u1,u2,(pV.2 _ D.TOz).trans k2⟩,k3.at fun o q=>(pV.2 i1 D.i1z).trans q,k4.at fun o q=>(pV.2 i2 D.i2z).trans q⟩,fun c hc=>?_⟩
  ·exact (pV.2 _ D.TIz).trans (hk TI _ D.TIz D.TITO D.TIi1 D.TIi2 h2)
  ·rw [av (Nat.ne_of_lt (lt c hc))]
   exact (hf c hc).1
 done:=by
  intro X hP hw hK hc i pins s σ H E I hf st hg
  subst hP hw hK
  obtain ⟨h1,h2,⟨u,v,h3⟩,h4,h5⟩:=st
  obtain ⟨xs,ys,xZ,xY,EC⟩:=hg
  obtain ⟨ia,ra,pa,za⟩:=I.list xZ
  obtain ⟨ib,rb,pb,zb⟩:=I.list xY
  have la:=ra.length
  have lb:=rb.length
  refine wpAny_pyNext_zip_end (I.ok.hd hc) D h1 h2 h3 h4 h5 pa.isList pb.isList ?_ fun h' eb=>⟨rfl,Inv.nY (t':=s.toks) (ch:=[z,TI,TO,i1,i2]) I (fun c o hc q=>?_) hf⟩
  ·rcases EC with q | q
   ·left; simp; omega
   ·right; simp; omega
  ·simp only [List.mem_cons,List.not_mem_nil,or_false,not_or] at hc
   exact eb c o hc.1 hc.2.2.1 hc.2.2.2.1 hc.2.2.2.2 q
 self:=fun _ _ _ _ _ st h=>wpAny_pyIter_zip st.1 h
def y3 (K:Frag) (ta:TA):TI:=fun σ H R=>ta σ H fun vs H1=>∃ a b,vs = [.ref a,.ref b]∧(∃ xs,aB K H1 a xs)∧(∃ ys,aB K H1 b ys)∧R (uJ K a b) H1
theorem pP:bootBuiltins "zip" = some (.type "zip"):=by decide +kernel
theorem gX {X:Cx} {l m:Expr} {ta:TA} {p pos:Pos} {elts:List Expr} {kx:Nat} {px:Pos} (hm:X.mg "zip" = none) (ha:PA X [l,m] ta) (hg:Gl X "zip":=by rfl) (he:starEach [l,m] X.env = (false,eval l X.env) :: starEach [m] X.env:=by rfl) (jF:(backTo pos (starEach [m] X.env)).any (·.1) = false:=by rfl) :
  PI X (.Tuple elts kx px) (.Call (.Name "zip" p) [l,m] [] pos) (y3 X.K ta):=by
 intro pins s σ H R I h
 refine Call_ (eU I hg hm pP (PyProof.Rows.callWith_type1 (cT (ha pos pins s σ H _ I h) fun us s1 ⟨vs,H1,I1,r1,q1⟩=>?_) he jF))
 obtain ⟨a,b,rfl,⟨xs,xZ⟩,⟨ys,xY⟩,q⟩:=q1
 obtain ⟨u1,u2,rfl,Ca,B9⟩:=vals2 r1
 cases Ca
 cases B9
 obtain ⟨ia,ra,pa,za⟩:=I1.list xZ
 obtain ⟨ib,rb,pb,zb⟩:=I1.list xY
 have AQ:a < s1.heap.objs.size:=by obtain ⟨_,e,_⟩:=pa.isList; exact Heap.lt_size e
 have AO:b < s1.heap.objs.size:=by obtain ⟨_,e,_⟩:=pb.isList; exact Heap.lt_size e
 have ne:∀ {j k:Nat},j≠k→s1.heap.objs.size + j≠s1.heap.objs.size + k:=fun h z=>h (Nat.add_left_cancel z)
 have nl:∀ {c:Addr} (k:Nat),c < s1.heap.objs.size→c≠s1.heap.objs.size + k:=fun k l=>Nat.ne_of_lt (Nat.lt_of_lt_of_le l (Nat.le_add_right _ _))
 have D:ZipApart (s1.heap.objs.size + 4) (s1.heap.objs.size + 2) (s1.heap.objs.size + 3) s1.heap.objs.size (s1.heap.objs.size + 1) a b:=
  ⟨ne (by decide),ne (by decide),ne (j:=0) (by decide),ne (by decide),ne (by decide),ne (k:=0) (by decide),ne (by decide),ne (k:=0) (by decide),ne (by decide),ne (j:=0) (by decide),nl _ AQ,nl _ AQ,nl 0 AQ,nl _ AQ,nl _ AO,nl _ AO,nl 0 AO,nl _ AO⟩
 refine call_zip_2 pa.isList pb.isList fun h' hz LQ LP h1 h2 y9 hk=>?_
 refine wpAny_pyIter_zip hz ?_
 have I2:Inv X pins σ H1 { s1 with heap:=h' }:=I1.kept (t':=s1.toks) fun c o e=>hk c o e
 refine ⟨_,[s1.heap.objs.size + 4,s1.heap.objs.size + 2,s1.heap.objs.size + 3,s1.heap.objs.size,s1.heap.objs.size + 1],_,_,H1,rfl,I2,p6 D,⟨hz,LQ,⟨_,_,LP⟩,h1,h2⟩,fun c hc=>?_,q⟩
 have le:s1.heap.objs.size≤c:=by
  simp only [List.mem_cons,List.not_mem_nil,or_false] at hc
  rcases hc with rfl | rfl | rfl | rfl | rfl
  ·exact Nat.le_add_right _ _
  ·exact Nat.le_add_right _ _
  ·exact Nat.le_add_right _ _
  ·exact Nat.le_refl _
  ·exact Nat.le_add_right _ _
 exact I1.rY le (I1.bJ.fresh le)
theorem oH {K:Frag} {a b:Addr} {xs ys:List V} {g:TG} {tb:TS} {D:Ends} {σ : St} {H:Hp} (Pv:Nat→St→Hp→Prop) (h0:Pv 0 σ H) (Hk:xs.length = ys.length) (hl:∀ i σ H,i≤xs.length→Pv i σ H→aB K H a xs∧aB K H b ys)
  (hs:∀ i x y p σ H,xs[i]? = some x→ys[i]? = some y→Pv i σ H→H p = none→g (.ref p) σ (upd H p (.tup [x,y])) fun σ2 H2=>tb { D with nx:=Pv (i + 1),ct:=Pv (i + 1),bk:=D.nx } σ2 H2) (hd:∀ σ H,Pv xs.length σ H→D.nx σ H) :
  ∃ W:Nat→Nat→St→Hp→Prop,(∃ m,W 0 m σ H)∧∀ i m σ H,W i m σ H→
   ((uJ K a b).stop i H∧D.nx σ H)∨((uJ K a b).go i H∧∃ N:St→Hp→Prop,(∀ σ' H',N σ' H'→∃ m',m' < m∧W (i + 1) m' σ' H')∧∀ x H',(uJ K a b).pS i H x H'→g x σ H' fun σ2 H2=>tb { D with nx:=N,ct:=N,bk:=D.nx } σ2 H2):=by
 refine ⟨fun i m σ H=>m = xs.length - i∧i≤xs.length∧Pv i σ H,⟨xs.length,by simp,Nat.zero_le _,h0⟩,?_⟩
 rintro i m σ H ⟨rfl,hi,p⟩
 obtain ⟨qa,qb⟩:=hl i σ H hi p
 by_cases dh:i < xs.length
 ·have En:i < ys.length:=by omega
  refine .inr ⟨⟨xs,ys,xs[i],ys[i],qa,qb,by simp [dh],by simp [En]⟩,Pv (i + 1),fun σ' H' p'=>⟨xs.length - (i + 1),by omega,rfl,dh,p'⟩,fun x H' y=>?_⟩
  obtain ⟨r,u,v,hr,rfl,hu,hv,rfl⟩:=y
  exact hs i u v r σ H (hu xs qa) (hv ys qb) p hr
 ·have e:i = xs.length:=by omega
  subst e
  exact .inl ⟨⟨xs,ys,qa,qb,.inl (Nat.le_refl _)⟩,hd σ H p⟩
end L2
end
section
namespace Gm
open PySem L2
def oW (a b:List Int):Prop:=a = b∨∃ c,c < b.length∧a = AD b c
end Gm
namespace L2
open PySem PySem.Spec PySem.W PySem.Calls PyProof.Rows
end L2
namespace Gm
open PySem L2
def F9 (L M:List (List Int)):Prop:=L.length = M.length∧∀ (i:Nat) (l m:List Int),L[i]? = some l→M[i]? = some m→oW l m
end Gm
end
section
namespace Gm
open PySem L2
end Gm
end
section
namespace PySem
abbrev F3 (h:Heap) (z TI TO a:Addr) (f:Bool):Prop:=
 h.get? z = some { cls:=.type "zip",dict:=none,data:=.fields #[rawInt a,.bool f,.bool false,.ref TI,.ref TO],slots:=#[] }
structure Im (h:Heap) (z TI TO i1 i2 l1 l2 S:Addr) (i:Nat):Prop where
 own:(i = 0∧IsZip h z TI TO .none∧∃ a b,IsPair h TO a b)∨∃ a f oa,F3 h z TI TO a f∧h.get? a = some oa∧a∉[z,i1,i2,S]
 it:IsPair h TI (.ref i1) (.ref i2)
 one:h.IsListIter i1 l1 i
 two:h.IsListIter i2 l2 i
structure MR (xs ys:Array Value) (lo:Addr) (h:Heap) (as:List Addr):Prop where
 rise:as.Pairwise (· < ·)
 above:∀ a∈as,lo≤a
 pairs:∀ (j:Nat) (a:Addr),as[j]? = some a→∃ x y,xs[j]? = some x∧ys[j]? = some y∧IsPair h a x y
namespace F
end F
end PySem
end
section
namespace L2
open PySem PySem.Spec PySem.W PySem.Calls PyProof.Rows
def DF:List Addr→List (V×V)→Hp→Hp
 | a :: as,p :: ps,H=>upd (DF as ps H) a (.tup [p.1,p.2])
 | _,_,H=>H
def yw (K:Frag) (ta:TA):TE:=fun σ H Q=>ta σ H fun vs H1=>∃ a b xs ys,vs = [.ref a,.ref b]∧aB K H1 a xs∧aB K H1 b ys∧xs.length = ys.length∧
 ∀ (l:Addr) (as:List Addr) (H2:Hp),ao H1 H2→H1 l = none→H2 l = some (.lst (as.map V.ref))→as.length = xs.length→
  (∀ (j:Nat) (a:Addr),as[j]? = some a→H1 a = none∧a≠l∧∃ x y,xs[j]? = some x∧ys[j]? = some y∧H2 a = some (.tup [x,y]))→Q (.ref l) H2
theorem nU:bootBuiltins "list" = some (.type "list"):=by decide +kernel
end L2
end
section
namespace Gm
open PySem L2
end Gm
end
section
namespace L2
open PySem PySem.Spec PySem.W PySem.Calls PyProof.Rows
section
variable {X:Cx}
def AI (K:Frag):R2:=fun x y H Q=>∃ (p l:Addr) (d:Int×Int) (ps:List Addr) (T:List (Int×Int)),x = .ref p∧y = .ref l∧H p = some (.tup [.int d.1,.int d.2])∧H l = some (.lst (ps.map V.ref))∧Gm.PR H ps T∧Q (.bl (!decide (d∈T))) H
end
section
variable {K:Frag} {σ : St} {H:Hp} {Q:VK}
theorem qR {to ti:TE} {t:sR} {v:V} {Q:St→Hp→Prop} (h:to σ H fun o H1=>ti σ H1 fun i H2=>t o i v H2 fun H3=>Q σ H3):zC to ti t v σ H Q:=h
theorem rR {n:Nat} {k:Int} (h0:0≤k) (h1:k < n):pU n k = some k.toNat:=by
 unfold pU
 rw [if_pos h0,if_pos h1]
end
end L2
namespace Gm
open PySem L2
end Gm
end
section
namespace Gm
open PySem L2
end Gm
end
section
namespace L2
open PySem PySem.Spec PySem.W PySem.Calls PyProof.Rows
section
variable {X:Cx}
def JG (K:Frag):List V→Hp→VK→Prop:=fun vs H Q=>∃ (a:Addr) (bs:List Bool),vs = [.ref a]∧aB K H a (bs.map V.bl)∧Q (.bl (bs.all id)) H
end
section
variable {K:Frag} {σ : St} {H:Hp} {Q:VK}
theorem gB {R:Hp→Prop} {acc a b:Addr} {xs ys:List V} {n:Nat} {g:TG} {tt:TT} {te:TE} (hn:n = min xs.length ys.length) (Pv:Nat→St→List V→Hp→Prop) (h0:Pv 0 σ [] H) (hl:∀ i σ zs H,i≤n→Pv i σ zs H→aB K H a xs∧aB K H b ys)
  (hs:∀ i x y p σ zs H,xs[i]? = some x→ys[i]? = some y→i < n→Pv i σ zs H→H p = none→g (.ref p) σ (upd H p (.tup [x,y])) fun σ2 H4=>tt σ2 H4 fun b H5=>if b = true then te σ2 H5 fun y H6=>H6 acc = some (.lst zs)∧zs.length < sizeLine∧∃ m',m' < n - i∧(m' = n - (i + 1)∧i + 1≤n∧Pv (i + 1) σ2 (zs ++ [y]) (upd H6 acc (.lst (zs ++ [y])))) else ∃ m',m' < n - i∧(m' = n - (i + 1)∧i + 1≤n∧Pv (i + 1) σ2 zs H5))
  (hd:∀ σ zs H,Pv n σ zs H→R H) :
  ∃ W:Nat→Nat→St→List V→Hp→Prop,(∃ m,W 0 m σ [] H)∧∀ i m σ' zs H2,W i m σ' zs H2→(((uJ K a b).stop i H2∧R H2)∨((uJ K a b).go i H2∧∀ x H3,(uJ K a b).pS i H2 x H3→g x σ' H3 fun σ2 H4=>tt σ2 H4 fun b H5=>
   if b = true then te σ2 H5 fun y H6=>H6 acc = some (.lst zs)∧zs.length < sizeLine∧∃ m',m' < m∧W (i + 1) m' σ2 (zs ++ [y]) (upd H6 acc (.lst (zs ++ [y]))) else ∃ m',m' < m∧W (i + 1) m' σ2 zs H5)):=by
 refine ⟨fun i m σ zs H=>m = n - i∧i≤n∧Pv i σ zs H,⟨n,by simp,Nat.zero_le _,h0⟩,?_⟩
 rintro i m σ zs H ⟨rfl,hi,p⟩
 obtain ⟨qa,qb⟩:=hl i σ zs H hi p
 by_cases dh:i < n
 ·have h1:i < xs.length:=by omega
  have h2:i < ys.length:=by omega
  refine .inr ⟨⟨xs,ys,xs[i],ys[i],qa,qb,by simp [h1],by simp [h2]⟩,fun x H' y=>?_⟩
  obtain ⟨r,u,v,hr,rfl,hu,hv,rfl⟩:=y
  exact hs i u v r σ zs H (hu xs qa) (hv ys qb) dh p hr
 ·have e:i = n:=by omega
  exact .inl ⟨⟨xs,ys,qa,qb,by omega⟩,hd σ zs H (e▸p)⟩
end
end L2
end
section
namespace PySem
namespace F
end F
end PySem
namespace L2
open PySem PySem.Spec PySem.W PySem.Calls PyProof.Rows
section
variable {X:Cx} {e st:Expr} {te Gq:TE} {p2 pos:Pos}
def IP (K:Frag) (te Gq:TE):TE:=fun σ H Q=>te σ H fun x H1=>Gq σ H1 fun y H2=>y = .int (-1)∧∃ a xs,x = .ref a∧aB K H2 a xs∧∀ p,H2 p = none→Q (.ref p) (upd H2 p (.lst xs.reverse))
end
section
variable {X:Cx} {l:Expr} {tl:TE} {p p2 pos wq:Pos}
def yx (K:Frag) (tl:TE):TE:=fun σ H Q=>tl σ H fun x H1=>∃ a xs,x = .ref a∧aB K H1 a xs∧∀ p,H1 p = none→Q (.ref p) (upd H1 p (.lst xs.reverse))
end
end L2
end
section
namespace Gm
open PySem L2
def kN (ks:List (bF×Int)):List (List Key×V):=ks.map fun p=>(yY p.1,V.int p.2)
def lk (s:List Int→Nat) (R:List (List Int)):Nat→List (bF×Int)
 | 0=>[]
 | k + 1=>lk s R k ++ (sh (s (R.getD k [])) (R.getD k [])).map fun d=>(d,(k:Int))
def lo (R:List (List Int)) (d:bF):Int:=(R.findIdx fun r=>decide (d∈sh 0 r):Nat)
def NL (R:List (List Int)) (s:Nat) (r:List Int):List Int:=(sh s r).map fun d=>lo R (d.2,d.1)
def sV (D:List (List Int)):Prop:=∀ (k:Nat) (l:List Int),D[k]? = some l→(k:Int)∉l∧l.Nodup
end Gm
namespace Gm
open PySem L2
end Gm
namespace L2
end L2
namespace Gm
open PySem L2
end Gm
namespace Gm
end Gm
namespace L2
open PySem
theorem gd {X:Cx} {K:PySem.W.Frag} (hK:X.K = K) {pos:Pos} {es:List Expr} {k:Nat} {t:tf} {n:Nat} (hc:X.calm = true) (h:An X es t)
  (hn:(assignEach es X.env).length = n:=by rfl) (Ec:(assignEach es X.env).findIdx? (·.1) = none:=by rfl):PG X (.Tuple es k pos) (xw K n t):=by
 subst hK
 exact ny hc h hn Ec
end L2
namespace L2
end L2
end
section
namespace Gm
open PySem L2
inductive uH (L:List (List Int)) (S:List Int) (s:Int):Int→Prop where
 | here:uH L S s s
 | step {i:Nat} {l:List Int} {x:Int}:uH L S s i→L[i]? = some l→x∈l→x∉S→uH L S s x
structure Ov (L:List (List Int)) (S:List Int) (s:Int) (ks ws:List Int):Prop where
 nd:ks.Nodup
 nw:ws.Nodup
 st:s∈ks
 re:∀ x∈ks,uH L S s x
 sub:∀ x∈ws,x∈ks
 cl:∀ (i:Nat) (l:List Int),(i:Int)∈ks→(i:Int)∉ws→L[i]? = some l→∀ x∈l,x∉S→x∈ks
structure Ow (L:List (List Int)) (S:List Int) (s:Int) (ks ws:List Int) (pl:Nat) (l:List Int) (k:Nat):Prop where
 nd:ks.Nodup
 nw:ws.Nodup
 st:s∈ks
 re:∀ x∈ks,uH L S s x
 sub:∀ x∈ws,x∈ks
 pk:(pl:Int)∈ks
 cl:∀ (i:Nat) (m:List Int),(i:Int)∈ks→(i:Int)∉ws→i≠pl→L[i]? = some m→∀ x∈m,x∉S→x∈ks
 tk:∀ x∈l.take k,x∉S→x∈ks
def Ar (L:List (List Int)) (S fs:List Int):Prop:=∀ (i:Nat) (l:List Int),L[i]? = some l→(i:Int)∉S→(∃ x,x∈l∧x∈fs)→(i:Int)∈fs
structure Oi (L:List (List Int)) (S:List Int) (s:Int) (fs:List Int) (k:Nat):Prop where
 nd:fs.Nodup
 st:s∈fs
 re:∀ x∈fs,uH L S s x
 gr:Ar L S fs∨k + 1≤fs.length
structure Oh (L:List (List Int)) (S:List Int) (s:Int) (pW fs:List Int) (j:Nat):Prop where
 nd:fs.Nodup
 st:s∈fs
 re:∀ x∈fs,uH L S s x
 kp:Ar L S pW→fs = pW
 gr:pW.length < fs.length∨(fs = pW∧∀ (i:Nat) (l:List Int),i < j→L[i]? = some l→(i:Int)∉S→(∃ x,x∈l∧x∈fs)→(i:Int)∈fs)
def fj (n:Nat):List Int:=(List.range n).map fun i:Nat=>(i:Int)
theorem pZ (n:Nat):(fj n).length = n:=by unfold fj; simp
def left (n:Nat) (S:List Int):List Int:=(fj n).filter fun x=>!decide (x∈S)
open Classical in
noncomputable def rn (L:List (List Int)) (S:List Int) (s:Int):Nat:=((fj L.length).filter fun x=>decide (uH L S s x)).length
noncomputable def NI (L:List (List Int)) (S:List Int):Bool:=match left L.length S with | []=>false | s :: r=>decide (rn L S s < (s :: r).length)
def twos (n one:Nat):List (List Int):=(List.range (n - (one + 1))).map fun j:Nat=>[(one:Int),(one:Int) + 1 + (j:Int)]
def vQ (n:Nat):Nat→List (List Int)
 | 0=>[] :: (fj n).map fun i=>[i]
 | k + 1=>vQ n k ++ twos n k
theorem b9.ux {H:Hp} {t c u:Addr} {bs cs:List Addr} {R M:List (List Int)} (g:b9 H t bs R) (k:b9 H c cs M) (hu:H u = none):b9 (upd H u (.lst (bs.map V.ref ++ cs.map V.ref))) u (bs ++ cs) (R ++ M):=by
 have n1:=g.vc hu
 have n2:=k.vc hu
 refine ⟨by rw [List.map_append]; exact ah,by rw [List.length_append,List.length_append,g.len,k.len],fun i a l h1 h2=>?_⟩
 rcases Nat.lt_or_ge i bs.length with hi | hi
 ·rw [List.getElem?_append_left hi] at h1
  rw [List.getElem?_append_left (by rw [← g.len]; exact hi)] at h2
  have nb:a≠u:=fun e=>n1 (by rw [← e]; exact List.mem_cons_of_mem _ (List.mem_of_getElem? h1))
  rw [av nb]
  exact g.row i a l h1 h2
 ·rw [List.getElem?_append_right hi] at h1
  rw [List.getElem?_append_right (by rw [← g.len]; exact hi),← g.len] at h2
  have nb:a≠u:=fun e=>n2 (by rw [← e]; exact List.mem_cons_of_mem _ (List.mem_of_getElem? h1))
  rw [av nb]
  exact k.row _ a l h1 h2
end Gm
end
section
namespace Gm
open PySem L2
def sw (d:bF):bF:=(d.2,d.1)
def NQ (L:List (List Int)):List (List Int):=L.map List.reverse
def Au (r s:List Int):Prop:=∃ c,c < r.length∧s = AD r.reverse c∧sS s
abbrev IA:List (List Int)→List (List Int)→Prop:=Paired Au
end Gm
end
section
namespace Gm
open PySem L2
end Gm
end
section
namespace Gm
open PySem L2
structure Lay (A B:List (List Int)) (f:Int→Int):Prop where
 len:A.length = B.length
 rg:∀ i:Int,0≤i→i < A.length→0≤f i∧f i < B.length
 row:∀ i:Int,0≤i→i < A.length→oW ((rowOf A i).map f) (rowOf B (f i))
end Gm
end
section
namespace Gm
open PySem L2
def nm (ks:List (Int×Int)) (p:Int):Int:=(ks.lookup p).getD 0
structure vA (A B:List (List Int)) (first x0 second:Int) (f:Int→Int):Prop where
 lay:Lay A B f
 e0:f 0 = first
 e1:f x0 = second
abbrev Wait:=Int×Int×Int
structure Nf (A B:List (List Int)) (first x0 second:Int) (ks:List (Int×Int)) (ws:List Wait):Prop where
 nd:(ks.map (·.1)).Nodup
 rg:∀ p∈ks,(0≤p.1∧p.1 < A.length)∧0≤p.2∧p.2 < B.length
 st:(0,first)∈ks
 wn:(ws.map (·.1)).Nodup
 wk:∀ w∈ws,∃ v,(w.1,v)∈ks∧w.2.1∈rowOf A w.1∧w.2.2∈rowOf B v
 cl:∀ p v,(p,v)∈ks→p∉ws.map (·.1)→(∀ y∈rowOf A p,∃ u,(y,u)∈ks)∧oW ((rowOf A p).map (nm ks)) (rowOf B v)
 un:∀ f,vA A B first x0 second f→(∀ p∈ks,f p.1 = p.2)∧∀ w∈ws,f w.2.1 = w.2.2
 K1:(0,x0,second)∈ws∨(x0,second)∈ks
structure Ni (A B:List (List Int)) (first x0 second:Int) (ks:List (Int×Int)) (ws:List Wait) (p v:Int) (od gl:List Int) (k:Nat):Prop where
 nd:(ks.map (·.1)).Nodup
 rg:∀ p∈ks,(0≤p.1∧p.1 < A.length)∧0≤p.2∧p.2 < B.length
 st:(0,first)∈ks
 wn:(ws.map (·.1)).Nodup
 pn:p∉ws.map (·.1)
 pk:(p,v)∈ks
 wk:∀ w∈ws,∃ v,(w.1,v)∈ks∧w.2.1∈rowOf A w.1∧w.2.2∈rowOf B v
 cl:∀ q u,(q,u)∈ks→q∉ws.map (·.1)→q≠p→(∀ y∈rowOf A q,∃ u,(y,u)∈ks)∧oW ((rowOf A q).map (nm ks)) (rowOf B u)
 un:∀ f,vA A B first x0 second f→(∀ p∈ks,f p.1 = p.2)∧∀ w∈ws,f w.2.1 = w.2.2
 tk:∀ (t:Nat) (y u:Int),t < k→od[t]? = some y→gl[t]? = some u→(y,u)∈ks
 K1:(0,x0,second)∈ws∨(x0,second)∈ks∨(od[0]? = some x0∧gl[0]? = some second)
end Gm
end
section
namespace Gm
open PySem L2
def kI (ks:List (Int×Int)):List (Key×V):=ks.map fun p=>((Sum.inl p.1:Key),V.int p.2)
abbrev WR (H:Hp):List Addr→List Wait→Prop:=Paired fun a w=>H a = some (.tup [.int w.1,.int w.2.1,.int w.2.2])
end Gm
end
section
namespace L2
open PySem PySem.Spec PySem.W PySem.Calls PyProof.Rows Gm
section
variable {X:Cx} {l:Expr} {tl:TE} {p p2 pos wq:Pos}
def lS (tl:TE):TE:=fun σ H Q=>tl σ H fun x H1=>∃ n:Nat,x = .int (n:Int)∧n≤1000∧∀ p,H1 p = none→Q (.ref p) (upd H1 p (.lst ((fj n).map V.int)))
theorem o1 {acc:Array Value} {n:Nat} (h:ItemsOf (fun i v=>∃ t,v = Value.int (0 + (i:Int) * 1) t) acc n):Vals ((fj n).map V.int) acc.toList:=by
 obtain ⟨hs,h⟩:=h
 have key:∀ (l:List Value) (k:Nat),(∀ j v,l[j]? = some v→∃ t,v = Value.int (((k + j:Nat):Int)) t)→Vals (((List.range' k l.length).map fun i:Nat=>(i:Int)).map V.int) l:=by
  intro l
  induction l with
  | nil=>intro k _; exact .nil
  | cons a l ih=>
   intro k hk
   rw [List.length_cons,List.range'_succ,List.map_cons,List.map_cons]
   refine .cons ?_ (ih (k + 1) fun j v e=>?_)
   ·obtain ⟨t,e⟩:=hk 0 a rfl
    exact ⟨t,e⟩
   ·obtain ⟨t,e'⟩:=hk (j + 1) v (by simpa using e)
    exact ⟨t,by rw [e']; congr 2; omega⟩
 have:=key acc.toList 0 fun j v e=>by
  obtain ⟨t,e'⟩:=h j v (by rw [← Array.getElem?_toList]; exact e)
  refine ⟨t,?_⟩
  rw [e']
  congr 1
  omega
 rw [Array.length_toList,hs] at this
 unfold fj
 rw [List.range_eq_range']
 exact this
theorem kW (hc:X.calm = true) (hm:X.mg "range" = none) (Em:X.mg "list" = none) (ha:PE X l tl) (hg:Gl X "range":=by rfl) (LC:Gl X "list":=by rfl)
  (he:starEach [l] X.env = (false,eval l X.env) :: starEach [] X.env:=by rfl)
  (yb:starEach [.Call (.Name "range" p) [l] [] pos] X.env = (false,eval (.Call (.Name "range" p) [l] [] pos) X.env) :: starEach [] X.env:=by rfl) :
  PE X (.Call (.Name "list" p2) [.Call (.Name "range" p) [l] [] pos] [] wq) (lS tl):=by
 intro pins s σ H Q I h
 refine Call_ (eU I LC Em nU (PyProof.Rows.callWith_type1 ?_ yb rfl))
 rw [yb]
 show wpAny _ _ (spliced ((false,eval (.Call (.Name "range" p) [l] [] pos) X.env) :: backTo wq (starEach [] X.env))) _ _ s
 refine Calls.spliced_cons ?_
 refine Call_ (eU I hg hm boot_range (PyProof.Rows.callWith_type1 ?_ he rfl))
 rw [he]
 show wpAny _ _ (spliced ((false,eval l X.env) :: backTo pos (starEach [] X.env))) _ _ s
 refine Calls.spliced_cons (cT (ha pins s σ H _ I h) fun u1 s1 ⟨x,H1,I1,r1,q1⟩=>?_)
 refine Calls.spliced_nil ?_
 obtain ⟨n,rfl,hn,q⟩:=q1
 obtain ⟨t,rfl⟩:=r1
 refine call_range_1 ?_
 refine Calls.spliced_nil ?_
 generalize zv:s1.heap.push { cls:=Value.type "range",data:=Data.fields #[Value.int 0 s1.toks,Value.int (n:Int) t,Value.int 1 (s1.toks + 1)] } = h'
 have kp:∀ c o,s1.heap.get? c = some o→h'.get? c = some o:=fun c o e=>zv▸Heap.get?_push_of_some _ e
 have hz:IsRange h' s1.heap.objs.size 0 (n:Int) 1 s1.toks t (s1.toks + 1):=zv▸IsRange.new ..
 have I2:Inv X pins σ H1 { s1 with heap:=h',toks:=s1.toks + 1 + 1 }:=I1.kept kp
 refine call_list_range (s:={ s1 with heap:=h',toks:=s1.toks + 1 + 1 }) (n:=n) (I2.ok.hd hc) hz (small_one (by omega) (by omega) (by omega) (by omega)) (by rw [rangeSize_one]; split <;> omega) (by omega) fun h3 tk acc c hk hS hit=>?_
 have I3:Inv X pins σ (upd H1 h'.objs.size (.lst ((fj n).map V.int))) { s1 with heap:=h3,toks:=tk }:=by
  refine Inv.gN (s:={ s1 with heap:=h',toks:=s1.toks + 1 + 1 }) (ch:=[]) I2 (fun b u _ e=>hk b u e) (fun b hb=>by simp at hb) (Nat.le_refl _) ?_
  exact ⟨by rw [List.length_map,pZ,PySem.sizeLine_eq]; omega,acc.toList,c,o1 hit,by rw [Array.toArray_toList]; exact hS⟩
 exact ⟨.ref h'.objs.size,_,I3,rfl,q _ (I2.bJ.fresh (Nat.le_refl _))⟩
end
section
variable {σ : St} {H:Hp} {Q:VK} {K:Frag}
theorem o8 {tl:TE} (h:tl σ H fun x H1=>∃ n:Nat,x = .int (n:Int)∧n≤1000∧∀ p,H1 p = none→Q (.ref p) (upd H1 p (.lst ((fj n).map V.int)))):lS tl σ H Q:=h
theorem tI {r:V→Option Int→Option Int→Hp→VK→Prop} {te:TE} {tl th:TO} (h:te σ H fun x H1=>tl σ H1 fun l H2=>th σ H2 fun u H3=>r x l u H3 Q):vK r te tl th σ H Q:=h
end
end L2
end
section
namespace Gm
open PySem L2
def KJ (n:Nat) (l:List Int):List (List Int):=((fj n).filter fun x=>!decide (x∈l)).map fun x=>l ++ [x]
def F0 (n:Nat):Nat→List (List Int)
 | 0=>[[]]
 | k + 1=>(F0 n k).flatMap (KJ n)
def AM (l:List Int) (i:Int):Int:=l.getD i.toNat 0
structure Om (n:Nat) (l:List Int):Prop where
 len:l.length = n
 nd:l.Nodup
 rg:∀ x∈l,0≤x∧x < n
structure Oe (A:List (List Int)) (l:List Int) (R:List (List Int)):Prop where
 len:R.length = A.length
 row:∀ j:Int,0≤j→j < A.length→R[(AM l j).toNat]? = some ((rowOf A j).map (AM l))
def M5 (L:List (List Int)):Prop:=∀ x:Int,0≤x→x < L.length→Reach L 0 x
def tT (n:Nat) (k:Nat):List Int:=[(k:Int) - 1,(k:Int) + 1].filter fun x=>decide (0≤x) && decide (x < n)
def path (n:Nat):List (List Int):=(List.range n).map (tT n)
theorem vZ {a b:TS} {D:Ends} {σ : St} {H:Hp} (Pv:St→Hp→Prop) (hb:∀ σ' H',Pv σ' H'→b D σ' H') (ha:∀ T:St→Hp→Prop,(∀ σ' H',Pv σ' H'→T σ' H')→a { D with nx:=T } σ H):vL a b D σ H:=ha _ hb
theorem iK {K:PySem.W.Frag} {t:TE} {σ : St} {H:Hp} {R:It→Hp→Prop} (h:t σ H fun x H1=>∃ a,x = .ref a∧(∃ xs,aB K H1 a xs)∧R (uK K a) H1):rS K t σ H R:=h
def Mm (A B:List (List Int)):PyData:=.list [sv A,sv B]
end Gm
end
section
namespace L2
open PySem PySem.Spec PySem.W PySem.Calls PyProof.Rows HT
def JF (K:Frag):R2:=fun x y H Q=>∃ (a b:Addr) (ns ms:List Int),x = .ref a∧y = .ref b∧aB K H a (ns.map V.int)∧aB K H b (ms.map V.int)∧Q (.bl (lexLt ms ns)) H
end L2
end
section
namespace L2
open PySem PySem.Spec PySem.W PySem.Calls PyProof.Rows Gm
section
variable {X:Cx}
def rJoin (K:Frag):V→List V→Hp→VK→Prop:=fun x vs H Q=>∃ (sep:Str) (a:Addr) (ts:List Str),x = .str sep∧vs = [.ref a]∧aB K H a (ts.map V.str)∧JoinOk sep ts = true∧Q (.str (Str.join sep ts)) H
def Ci:V→List V→Hp→VK→Prop:=fun x vs H Q=>∃ (z y:Str),x = .str z∧vs = [.str y]∧(y.length == 0) = false∧z.length≤1000000∧(Builtin.Str.partsBetween z (Builtin.Str.occurrences z y 0 z.length (z.length + 1)) y.length).length≤sizeLine∧
 ∀ p,H p = none→Q (.ref p) (upd H p (.lst ((Txt.split z y).map V.str)))
def IV (te:TE) (y:Str):TE:=fun σ H Q=>te σ H fun x H1=>∃ n:Int,x = .int n∧n.natAbs.log2 < 1920∧((toString n:String):Str).length + y.length≤1000000∧Q (.str (((toString n:String):Str) ++ y)) H1
end
def MZ (x:Str):It:=⟨fun i _=>i < x.cps.size,fun i H v H'=>H' = H∧∃ c,x.cps[i]? = some c∧v = .str ⟨#[c]⟩,fun i _=>x.cps.size≤i⟩
section
variable {X:Cx} {tg:Expr}
def K4 (tl:TE):TI:=fun σ H R=>tl σ H fun x H1=>∃ z:Str,x = .str z∧z.cps.all (· < 128) = true∧R (MZ z) H1
end
section
variable {σ : St} {H:Hp} {Q:VK} {K:Frag}
theorem pI {R:Hp→Prop} {acc a:Addr} {xs:List V} {g:TG} {tt:TT} {te:TE} (Pv:Nat→St→List V→Hp→Prop) (h0:Pv 0 σ [] H) (hl:∀ i σ ys H,i≤xs.length→Pv i σ ys H→aB K H a xs)
  (hs:∀ i x p σ ys H,xs[i]? = some x→i < xs.length→Pv i σ ys H→H p = none→g (.ref p) σ (upd H p (.tup [.int i,x])) fun σ2 H4=>tt σ2 H4 fun b H5=>if b = true then te σ2 H5 fun y H6=>H6 acc = some (.lst ys)∧ys.length < sizeLine∧∃ m',m' < xs.length - i∧(m' = xs.length - (i + 1)∧i + 1≤xs.length∧Pv (i + 1) σ2 (ys ++ [y]) (upd H6 acc (.lst (ys ++ [y])))) else ∃ m',m' < xs.length - i∧(m' = xs.length - (i + 1)∧i + 1≤xs.length∧Pv (i + 1) σ2 ys H5))
  (hd:∀ σ ys H,Pv xs.length σ ys H→R H) :
  ∃ W:Nat→Nat→St→List V→Hp→Prop,(∃ m,W 0 m σ [] H)∧∀ i m σ' ys H2,W i m σ' ys H2→(((yi K a).stop i H2∧R H2)∨((yi K a).go i H2∧∀ v H3,(yi K a).pS i H2 v H3→g v σ' H3 fun σ2 H4=>tt σ2 H4 fun b H5=>
   if b = true then te σ2 H5 fun y H6=>H6 acc = some (.lst ys)∧ys.length < sizeLine∧∃ m',m' < m∧W (i + 1) m' σ2 (ys ++ [y]) (upd H6 acc (.lst (ys ++ [y]))) else ∃ m',m' < m∧W (i + 1) m' σ2 ys H5)):=by
 refine ⟨fun i m σ ys H=>m = xs.length - i∧i≤xs.length∧Pv i σ ys H,⟨xs.length,by simp,Nat.zero_le _,h0⟩,?_⟩
 rintro i m σ ys H ⟨rfl,hi,p⟩
 have q:=hl i σ ys H hi p
 by_cases dh:i < xs.length
 ·refine .inr ⟨⟨xs,xs[i],q,by simp [dh]⟩,fun v H' y=>?_⟩
  obtain ⟨r,y,hr,rfl,hy,rfl⟩:=y
  exact hs i y r σ ys H (hy xs q) dh p hr
 ·have e:i = xs.length:=by omega
  subst e
  exact .inl ⟨⟨xs,q,Nat.le_refl _⟩,hd σ ys H p⟩
end
end L2
end
section
namespace Gm
open PySem L2
def jl (s:List Nat):List (List Nat)→List Nat
 | []=>[]
 | [a]=>a
 | a :: b :: r=>a ++ s ++ jl s (b :: r)
abbrev num (n:Int):Str:=((toString n:String):Str)
structure Num (x:Str):Prop where
 l1:1≤x.length
 l2:x.length≤2
 dg:∀ c∈x.cps.toList,48≤c∧c≤57
 hd:x = ((("0" : String)):Str)∨∃ c,x.cps[0]? = some c∧c≠48
end Gm
end
section
namespace Gm
open PySem L2
def Od (L:List (List Int)):Prop:=∀ d,Dt L d→∃ c,d∈c∧Bt (nx L) c∧(c.map (·.1)).Nodup
def seg (r:List Int) (s m:Nat):List bF:=(List.range m).map fun t=>dj r (s + t)
end Gm
end
section
namespace Gm
open PySem L2
section
variable {L N:List (List Int)} {r:List Int}
def Nw (r:List Int) (n c1 cj:Nat) (d:bF):Prop:=(∃ i,cj≤i∧i < c1 + r.length∧d = dj r i)∨d = (cy r c1,(n:Int))∨d = ((n:Int),cy r cj)
def Og (L:List (List Int)) (r:List Int) (c1 cj:Nat) (M:List (List Int)):Prop:=∀ d,Dt M d→Nw r L.length c1 cj d∨∃ c,d∈c∧Bt (nx M) c∧(c.map (·.1)).Nodup
end
end Gm
end
section
namespace Gm
open PySem L2
def tetra:List (List Int):=[[1,3,2],[2,3,0],[0,3,1],[2,0,1]]
def tetraR:List (List bF):=[[(0,1),(1,3),(3,0)],[(0,3),(3,2),(2,0)],[(0,2),(2,1),(1,0)],[(1,2),(2,3),(3,1)]]
end Gm
end
section
namespace Gm
open PySem L2
abbrev Jc:Str:=((" " : String):Str)
abbrev Jb:Str:=((":" : String):Str)
abbrev Je:Str:=(("\n" : String):Str)
abbrev t0:Str:=(("" : String):Str)
def Cb (k:Int) (l:List Int):Str:=Str.join Jc ((num k ++ Jb) :: l.map num)
def yI (L:List (List Int)):List Str:=L.mapIdx fun i l=>Cb ((i:Nat):Int) l
def KH (L:List (List Int)):Str:=Str.join Je (yI L)
def M6 (l:List Int):Prop:=l.length≤14∧∀ x∈l,0≤x∧x < 14
structure Sm (L:List (List Int)):Prop where
 len:L.length≤14
 EU:∀ l∈L,M6 l
def mn (l:List Int):Int:=l.min?.getD 0
def lb (l:List Int):List Int:=AD l (l.idxOf (mn l))
end Gm
end
section
namespace L2
open PySem PySem.Spec PySem.W PySem.Calls PyProof.Rows Gm
theorem sA {x:V} {xs:List V}:fJ (x :: xs) (some (1:Int)) none = xs:=by
 unfold fJ HT.jD
 dsimp only
 rw [if_neg (by omega),show min ((1:Int).toNat) (x :: xs).length = 1 by rw [List.length_cons]; show min 1 _ = 1; omega,List.take_of_length_le (by rw [List.length_drop]; omega)]
 rfl
theorem K2 {c:Prop} [Decidable c] {ta tb:TS} {D:Ends} {σ : St} {H:Hp} (S:St→Hp→Prop) (key:∀ σ' H',S σ' H'→D.nx σ' H') (h1:c→(∀ σ' H',S σ' H'→D.nx σ' H')→ta D σ H) (h2:¬ c→(∀ σ' H',S σ' H'→D.nx σ' H')→tb D σ H) :
  if decide c = true then ta D σ H else tb D σ H:=if2 (fun z=>h1 z key) fun z=>h2 z key
section
variable {K:Frag} {σ : St} {H:Hp} {Q:VK}
theorem vY {a:Addr} {i:Nat} {x:V} {xs:List V} (h1 : σ[i]? = some (some (.ref a))) (hs:aB K H a (x :: xs)) (q:∀ p,H p = none→Q (.ref p) (upd H p (.lst xs))):vK (qW K) (iu i) (lR (tC (.int 1))) fU σ H Q:=
 ⟨_,h1,⟨_,rfl,⟨a,_,rfl,hs,fun p hp=>by rw [sA]; exact q p hp⟩⟩⟩
theorem tJ {ta:TA} {R:It→Hp→Prop} (h:ta σ H fun vs H1=>∃ a,vs = [.ref a]∧(∃ xs,aB K H1 a xs)∧R (yi K a) H1):vh K ta σ H R:=h
end
end L2
end
section
namespace L2
open PySem PySem.Spec PySem.W PySem.Calls PyProof.Rows Gm
def Oc (A:List (List Int)) (l:List Int):PyData:=.list [sv A,fD l]
end L2
end
section
namespace Gm
open PySem L2
structure Of (L:List (List Int)):Prop where
 map:oX L
 MB:∃ R S,Dec L R∧vC L S∧2 * (L.length + R.length + iso L) = (HZ L L.length).length + 4 * S.length
end Gm
end
section
namespace Gm
open PySem L2
def lp (v:Int) (p:List Int) (j:Nat):Int:=if j = 0 then v else p.getD (j - 1) v
def On (v:Int) (p:List Int) (d:bF):Prop:=∃ j,j≤p.length∧(d = (lp v p j,lp v p (j + 1))∨d = (lp v p (j + 1),lp v p j))
end Gm
end
section
namespace L2
open PySem PySem.Spec PySem.W PySem.Calls PyProof.Rows Gm
def M0 (d:Addr) (o:Obj) (bE:List (Key×V)):It:=
 ⟨fun i H=>H d = some (.lN o (.dK bE))∧i < bE.length,fun i H x H'=>H' = H∧∃ k v,bE[i]? = some (k,v)∧x = kV k,fun i H=>H d = some (.lN o (.dK bE))∧bE.length≤i⟩
section
variable {X:Cx} {tg:Expr}
def Hi (tl:TE):TI:=fun σ H R=>tl σ H fun x H1=>∃ a bE,x = .ref a∧H1 a = some (.dK bE)∧∀ o,R (M0 a o bE) (upd H1 a (.lN o (.dK bE)))
def Ck:List V→Hp→VK→Prop:=fun xs H Q=>∃ a bE,xs = [V.ref a]∧H a = some (.dK bE)∧∀ p,H p = none→Q (.ref p) (upd H p (.lst (bE.map fun kv=>kV kv.1)))
def MX (K:Frag) (a:Addr) (xs:List V):It:=
 ⟨fun i H=>aB K H a xs∧i < xs.length,fun i H x H'=>H' = H∧xs.reverse[i]? = some x,fun i H=>xs.length≤i⟩
def K5 (K:Frag) (tl:TE):TI:=fun σ H R=>tl σ H fun x H1=>∃ a xs,x = .ref a∧aB K H1 a xs∧R (MX K a xs) H1
end
end L2
end
section
namespace Gm
open PySem L2
def kF (ks:List Int) (f:Int→Int):List (Key×V):=ks.map fun x=>((Sum.inl x:Key),V.int (f x))
def LV (f:Int→Int) (x h:Int):Int→Int:=fun y=>if y = x then h else f y
structure Oq (L:List (List Int)) (ks:List Int) (f:Int→Int):Prop where
 nd:ks.Nodup
 rg:∀ x∈ks,0≤x∧x < L.length
 hu:∀ x∈ks,0≤f x∧f x < 5
 ap:∀ x∈ks,∀ y∈rowOf L x,y∈ks→f y≠f x
def near (L:List (List Int)) (ks:List Int) (v:Int):List Int:=(rowOf L v).filter fun z=>decide (z∈ks)
def HQ (ts:List Int):List Int:=(fj 5).filter fun h=>!decide (h∈ts)
section
variable {L:List (List Int)} {ks:List Int} {f:Int→Int} {v:Int}
structure MS (L:List (List Int)) (ks:List Int) (f:Int→Int) (a b:Int) (S:List Int):Prop where
 sh:∀ x,x∈S↔(0≤x∧x < L.length)∧¬ (x∈ks∧(f x = a∨f x = b))
def yF (L:List (List Int)) (ks:List Int) (f:Int→Int) (a b:Int):List Int:=(fj L.length).filter fun x=>!decide (x∈ks∧(f x = a∨f x = b))
def Ou (L:List (List Int)) (ks:List Int) (f:Int→Int) (one other x:Int):Prop:=uH L (yF L ks f (f one) (f other)) one x
def Gp (f:Int→Int) (a b:Int) (G:List Int):Int→Int:=fun y=>if y∈G then a + b - f y else f y
end
structure Off (L:List (List Int)) (os:List Int):Prop where
 nd:os.Nodup
 rg:∀ x∈os,0≤x∧x < L.length
 EU:∀ (i:Nat) (x:Int),os[i]? = some x→((rowOf L x).filter fun z=>!decide (z∈os.take i)).length≤5
end Gm
end
section
namespace Gm
open PySem L2
def ME:List (List Int):=[[1,2,3,4,5],[0,5,10,6,2],[0,1,6,7,3],[0,2,7,8,4],[0,3,8,9,5],[0,4,9,10,1],[1,10,11,7,2],[2,6,11,8,3],[3,7,11,9,4],[4,8,11,10,5],[5,9,11,6,1],[10,9,8,7,6]]
def Il:List (List bF):=[[(0,1),(1,2),(2,0)],[(0,2),(2,3),(3,0)],[(0,3),(3,4),(4,0)],[(0,4),(4,5),(5,0)],[(0,5),(5,1),(1,0)],[(1,5),(5,10),(10,1)],[(1,10),(10,6),(6,1)],[(1,6),(6,2),(2,1)],[(2,6),(6,7),(7,2)],[(2,7),(7,3),(3,2)],[(3,7),(7,8),(8,3)],[(3,8),(8,4),(4,3)],[(4,8),(8,9),(9,4)],[(4,9),(9,5),(5,4)],[(5,9),(9,10),(10,5)],[(6,10),(10,11),(11,6)],[(6,11),(11,7),(7,6)],[(7,11),(11,8),(8,7)],[(8,11),(11,9),(9,8)],[(9,11),(11,10),(10,9)]]
section
variable {A R:List (List Int)} {l:List Int}
def NN (l:List Int) (d:bF):bF:=(AM l d.1,AM l d.2)
end
end Gm
end
section
namespace L2
open PySem PySem.Spec PySem.W PySem.Calls PyProof.Rows Gm Fr
end L2
namespace Gm
open PySem L2
end Gm
end
section
namespace Dt
def sm:Nat→(Nat→Int)→Int
 | 0,_=>0
 | n + 1,f=>sm n f + f n
theorem aQ {f g:Nat→Int}:∀ {n:Nat},(∀ i,i < n→f i = g i)→sm n f = sm n g
 | 0,_=>rfl
 | n + 1,h=>by
  show sm n f + f n = sm n g + g n
  rw [aQ fun i hi=>h i (Nat.lt_succ_of_lt hi),h n (Nat.lt_succ_self n)]
theorem kE {f:Nat→Int}:∀ {n:Nat},(∀ i,i < n→f i = 0)→sm n f = 0
 | 0,_=>rfl
 | n + 1,h=>by
  show sm n f + f n = 0
  rw [kE fun i hi=>h i (Nat.lt_succ_of_lt hi),h n (Nat.lt_succ_self n)]
  rfl
theorem mY {f g:Nat→Int} (a b:Int):∀ (n:Nat),sm n (fun i=>a * f i + b * g i) = a * sm n f + b * sm n g
 | 0=>by simp [sm]
 | n + 1=>by
  show sm n (fun i=>a * f i + b * g i) + (a * f n + b * g n) = a * (sm n f + f n) + b * (sm n g + g n)
  rw [mY a b n]
  grind
theorem qr {f:Nat→Int} (a:Int):∀ (n:Nat),sm n (fun i=>a * f i) = a * sm n f
 | 0=>by simp [sm]
 | n + 1=>by
  show sm n (fun i=>a * f i) + a * f n = a * (sm n f + f n)
  rw [qr a n]
  grind
theorem mZ {f g:Nat→Int}:∀ (n:Nat),sm n (fun i=>f i + g i) = sm n f + sm n g
 | 0=>by simp [sm]
 | n + 1=>by
  show sm n (fun i=>f i + g i) + (f n + g n) = (sm n f + f n) + (sm n g + g n)
  rw [mZ n]
  omega
theorem qq {f g:Nat→Int}:∀ (n:Nat),sm n (fun i=>f i - g i) = sm n f - sm n g
 | 0=>by simp [sm]
 | n + 1=>by
  show sm n (fun i=>f i - g i) + (f n - g n) = (sm n f + f n) - (sm n g + g n)
  rw [qq n]
  omega
theorem fH {f:Nat→Int} {k:Nat}:∀ {n:Nat},k < n→(∀ i,i < n→i≠k→f i = 0)→sm n f = f k
 | n + 1,hk,h=>by
  show sm n f + f n = f k
  by_cases e:k = n
  ·subst e
   rw [kE fun i hi=>h i (Nat.lt_succ_of_lt hi) (Nat.ne_of_lt hi)]
   omega
  ·rw [fH (k:=k) (by omega) fun i hi=>h i (Nat.lt_succ_of_lt hi),h n (Nat.lt_succ_self n) (fun z=>e z.symm)]
   omega
theorem qp {f:Nat→Int} {k l:Nat}:∀ {n:Nat},k < l→l < n→(∀ i,i < n→i≠k→i≠l→f i = 0)→sm n f = f k + f l
 | n + 1,hk,hl,h=>by
  show sm n f + f n = f k + f l
  by_cases e:l = n
  ·subst e
   rw [fH (k:=k) hk fun i hi z=>h i (by omega) z (by omega)]
  ·rw [qp hk (by omega) fun i hi=>h i (Nat.lt_succ_of_lt hi),h n (Nat.lt_succ_self n) (by omega) (by omega)]
   omega
def sg:Nat→Int
 | 0=>1
 | n + 1=>- sg n
def sk (j l:Nat):Nat:=if l < j then l else l + 1
abbrev Mx:=Nat→Nat→Int
def mi (A:Mx) (j:Nat):Mx:=fun i l=>A (i + 1) (sk j l)
def det:Nat→Mx→Int
 | 0,_=>1
 | n + 1,A=>sm (n + 1) fun j=>sg j * A 0 j * det n (mi A j)
theorem aJ (n:Nat) (A:Mx):det (n + 1) A = sm (n + 1) fun j=>sg j * A 0 j * det n (mi A j):=rfl
theorem qu {j l n:Nat} (h:l < n):sk j l < n + 1:=by unfold sk; split <;> omega
theorem uS (j l:Nat):sk j l≠j:=by unfold sk; split <;> omega
theorem bK:∀ {n:Nat} {A B:Mx},(∀ i j,i < n→j < n→A i j = B i j)→det n A = det n B
 | 0,_,_,_=>rfl
 | n + 1,A,B,h=>by
  rw [aJ,aJ]
  refine aQ fun j hj=>?_
  rw [h 0 j (by omega) hj,bK (A:=mi A j) (B:=mi B j) fun i l hi hl=>h _ _ (by omega) (qu hl)]
def cl (A:Mx) (c:Nat) (v:Nat→Int):Mx:=fun i j=>if j = c then v i else A i j
theorem aZ (A:Mx) (c:Nat) (v:Nat→Int) (i:Nat):cl A c v i c = v i:=if_pos rfl
theorem b4 {A:Mx} {c j:Nat} (v:Nat→Int) (i:Nat) (h:j≠c):cl A c v i j = A i j:=if_neg h
theorem cI (A:Mx) (c:Nat) (v:Nat→Int):mi (cl A c v) c = mi A c:=by
 funext i l
 exact b4 _ _ (uS c l)
def dn (j c:Nat):Nat:=if c < j then c else c - 1
theorem kH {j c l:Nat} (h:j≠c):sk j l = c↔l = dn j c:=by unfold sk dn; split <;> split <;> omega
theorem vy {j c n:Nat} (h:j≠c) (hc:c < n + 1) (hj:j < n + 1):dn j c < n:=by unfold dn; split <;> omega
theorem iq {A:Mx} {c j:Nat} (v:Nat→Int) (h:j≠c):mi (cl A c v) j = cl (mi A j) (dn j c) fun i=>v (i + 1):=by
 funext i l
 unfold mi cl
 by_cases z:sk j l = c
 ·rw [if_pos z,if_pos ((kH h).mp z)]
 ·rw [if_neg z,if_neg (fun y=>z ((kH h).mpr y))]
theorem cg (a b:Int):∀ {n:Nat} (A:Mx) {c:Nat} (v w:Nat→Int),c < n→det n (cl A c fun i=>a * v i + b * w i) = a * det n (cl A c v) + b * det n (cl A c w)
 | n + 1,A,c,v,w,hc=>by
  rw [aJ,aJ,aJ,← mY]
  refine aQ fun j hj=>?_
  by_cases e:j = c
  ·subst e
   rw [cI,cI,cI,aZ,aZ,aZ]
   grind
  ·rw [iq _ e,iq _ e,iq _ e,b4 _ _ e,b4 _ _ e,b4 _ _ e,cg a b (mi A j) (fun i=>v (i + 1)) (fun i=>w (i + 1)) (vy e hc hj)]
   grind
theorem dA:∀ {n:Nat} {A:Mx} {c:Nat},c + 1 < n→(∀ i,i < n→A i c = A i (c + 1))→det n A = 0
 | n + 1,A,c,hc,h=>by
  rw [aJ,qp (k:=c) (l:=c + 1) (by omega) hc fun j hj h1 h2=>?_]
  ·have e:det n (mi A c) = det n (mi A (c + 1)):=bK fun i l hi hl=>by
    unfold mi
    by_cases z:l = c
    ·subst z
     have e1:sk l l = l + 1:=by unfold sk; rw [if_neg (by omega)]
     have e2:sk (l + 1) l = l:=by unfold sk; rw [if_pos (by omega)]
     rw [e1,e2]
     exact (h _ (by omega)).symm
    ·have:sk c l = sk (c + 1) l:=by unfold sk; split <;> split <;> omega
     rw [this]
   rw [e,← h 0 (by omega)]
   show sg c * A 0 c * det n (mi A (c + 1)) + (- sg c) * A 0 c * det n (mi A (c + 1)) = 0
   grind
  ·have e:det n (mi A j) = 0:=by
    by_cases z:j < c
    ·refine dA (c:=c - 1) (by omega) fun i hi=>?_
     unfold mi
     have e1:sk j (c - 1) = c:=by unfold sk; rw [if_neg (by omega)]; omega
     have e2:sk j (c - 1 + 1) = c + 1:=by unfold sk; rw [if_neg (by omega)]; omega
     rw [e1,e2]
     exact h _ (by omega)
    ·refine dA (c:=c) (by omega) fun i hi=>?_
     unfold mi
     have e1:sk j c = c:=by unfold sk; rw [if_pos (by omega)]
     have e2:sk j (c + 1) = c + 1:=by unfold sk; rw [if_pos (by omega)]
     rw [e1,e2]
     exact h _ (by omega)
   rw [e,Int.mul_zero]
theorem cw {A:Mx} {c d:Nat} (v w:Nat→Int) (h:c≠d):cl (cl A c v) d w = cl (cl A d w) c v:=by
 funext i j
 unfold cl
 by_cases z:j = d
 ·rw [if_pos z,if_neg (by omega),if_pos z]
 ·rw [if_neg z,if_neg z]
theorem dO (A:Mx) (c:Nat):cl A c (fun i=>A i c) = A:=by
 funext i j
 unfold cl
 split
 ·rename_i e; rw [e]
 ·rfl
theorem fV {n c d:Nat} (hc:c < n) (hd:d < n) (ed:c≠d) (h:∀ (A:Mx),(∀ i,i < n→A i c = A i d)→det n A = 0) (A:Mx) (u w:Nat→Int) :
  det n (cl (cl A c u) d w) = - det n (cl (cl A c w) d u):=by
 have z:∀ v:Nat→Int,det n (cl (cl A c v) d v) = 0:=fun v=>h _ fun i _=>by rw [aZ,b4 _ _ ed,aZ]
 have e:det n (cl (cl A c fun i=>1 * u i + 1 * w i) d fun i=>1 * u i + 1 * w i) = 0:=z _
 rw [cg 1 1 _ _ _ hd,cw _ _ ed,cw _ _ ed,cg 1 1 _ _ _ hc,cg 1 1 _ _ _ hc,← cw _ _ ed,← cw _ _ ed,← cw _ _ ed,← cw _ _ ed,z,z] at e
 omega
theorem eD:∀ (k:Nat) {n:Nat} {A:Mx} {c:Nat},c + 1 + k < n→(∀ i,i < n→A i c = A i (c + 1 + k))→det n A = 0
 | 0,n,A,c,hc,h=>dA hc h
 | k + 1,n,A,c,hc,h=>by
  have s:=fV (n:=n) (c:=c + 1 + k) (d:=c + 1 + (k + 1)) (by omega) hc (by omega) (fun B hB=>dA (c:=c + 1 + k) (by omega) hB) A (fun i=>A i (c + 1 + k)) (fun i=>A i (c + 1 + (k + 1)))
  rw [dO] at s
  have e1:cl A (c + 1 + (k + 1)) (fun i=>A i (c + 1 + (k + 1))) = A:=dO A _
  rw [e1] at s
  rw [s,eD k (c:=c) (by omega) fun i hi=>?_]
  ·rfl
  ·rw [b4 _ _ (by omega),b4 _ _ (by omega),b4 _ _ (by omega),aZ]
   exact h i hi
theorem cF {n c d:Nat} {A:Mx} (hc:c < n) (hd:d < n) (ed:c≠d) (h:∀ i,i < n→A i c = A i d):det n A = 0:=by
 by_cases z:c < d
 ·obtain ⟨k,rfl⟩:∃ k,d = c + 1 + k:=⟨d - (c + 1),by omega⟩
  exact eD k hd h
 ·obtain ⟨k,rfl⟩:∃ k,c = d + 1 + k:=⟨c - (d + 1),by omega⟩
  exact eD k hc fun i hi=>(h i hi).symm
theorem mC {n c d:Nat} (hc:c < n) (hd:d < n) (ed:c≠d) (A:Mx) (u w:Nat→Int):det n (cl (cl A c u) d w) = - det n (cl (cl A c w) d u):=
 fV hc hd ed (fun _ h=>cF hc hd ed h) A u w
theorem oJ {n c:Nat} {A:Mx} (hc:c < n):det n (cl A c fun _=>0) = 0:=by
 have:=cg 0 0 A (fun _=>0) (fun _=>0) hc
 simpa using this
theorem cX {n c:Nat} {A:Mx} (a:Int) (v:Nat→Int) (hc:c < n):det n (cl A c fun i=>a * v i) = a * det n (cl A c v):=by
 have:=cg a 0 A v v hc
 simpa using this
theorem iP {n c:Nat} (A:Mx) (V:Nat→Nat→Int) (hc:c < n):∀ m:Nat,det n (cl A c fun i=>sm m fun l=>V l i) = sm m fun l=>det n (cl A c (V l))
 | 0=>oJ hc
 | m + 1=>by
  have e:=cg 1 1 A (fun i=>sm m fun l=>V l i) (V m) hc
  rw [iP A V hc m] at e
  simp only [Int.one_mul] at e
  exact e
def un (k i:Nat):Int:=if i = k then 1 else 0
theorem fI:∀ (k:Nat) (A:Mx),det (k + 1) (cl A k (un k)) = det k A
 | 0,A=>by
  rw [aJ]
  show 0 + sg 0 * cl A 0 (un 0) 0 0 * 1 = 1
  rw [aZ]
  rfl
 | k + 1,A=>by
  rw [aJ,aJ]
  show sm (k + 1) _ + _ = _
  have e0:cl A (k + 1) (un (k + 1)) 0 (k + 1) = 0:=by rw [aZ]; rfl
  dsimp only
  rw [e0,Int.mul_zero,Int.zero_mul,Int.add_zero]
  refine aQ fun j hj=>?_
  have ne:j≠k + 1:=by omega
  rw [b4 _ _ ne,iq _ ne,← fI k (mi A j)]
  have e1:dn j (k + 1) = k:=by unfold dn; rw [if_neg (by omega)]; omega
  have e2:(fun i=>un (k + 1) (i + 1)) = un k:=by
   funext i
   unfold un
   by_cases z:i = k
   ·rw [if_pos z,if_pos (by omega)]
   ·rw [if_neg z,if_neg (by omega)]
  rw [e1,e2]
end Dt
end
section
namespace Dt
theorem yg {d a b:Int} (h:d≠0) (e:d * a = d * b):a = b:=Int.eq_of_mul_eq_mul_left h e
structure Ba (k:Nat) (A W:Mx) (d:Int):Prop where
 ne:d≠0
 dt:d = det k A
 up:∀ i j,i < k→d * A i j = sm k fun l=>A i l * W l j
 lo:∀ i j,k≤i→W i j = d * A i j - sm k fun l=>A i l * W l j
theorem Ba.start (A:Mx):Ba 0 A A 1:=⟨by decide,rfl,fun i j h=>absurd h (Nat.not_lt_zero _),fun i j _=>by show _ = 1 * A i j - 0; omega⟩
def rl (A:Mx) (k:Nat) (v:Nat→Int):Mx:=fun i j=>if i = k then v j else A i j
theorem dm (A:Mx) (k:Nat) (v:Nat→Int) (j:Nat):rl A k v k j = v j:=if_pos rfl
theorem eH {A:Mx} {k i:Nat} (v:Nat→Int) (j:Nat) (h:i≠k):rl A k v i j = A i j:=if_neg h
variable {k:Nat} {A W:Mx} {d:Int}
theorem Ba.led (b:Ba k A W d) {r:Nat} (hr:k < r):Ba k (rl A k fun j=>A k j + A r j) (rl W k fun j=>W k j + W r j) d:=by
 have hs:∀ (v:Nat→Int) (j:Nat),sm k (fun l=>v l * rl W k (fun j=>W k j + W r j) l j) = sm k fun l=>v l * W l j:=fun v j=>aQ fun l hl=>by rw [eH _ _ (by omega)]
 refine ⟨b.ne,b.dt.trans (bK fun i j hi hj=>(eH _ _ (by omega)).symm),fun i j hi=>?_,fun i j hi=>?_⟩
 ·have e:∀ l,rl A k (fun j=>A k j + A r j) i l = A i l:=fun l=>eH _ _ (by omega)
  rw [e,hs,b.up i j hi]
  exact aQ fun l _=>by rw [e]
 ·rw [hs]
  by_cases z:i = k
  ·subst z
   rw [dm,dm,b.lo i j (Nat.le_refl _),b.lo r j (by omega)]
   have e:sm i (fun l=>rl A i (fun j=>A i j + A r j) i l * W l j) = sm i (fun l=>A i l * W l j) + sm i (fun l=>A r l * W l j):=by
    rw [← mZ]
    exact aQ fun l _=>by rw [dm]; exact Int.add_mul _ _ _
   rw [e]
   grind
  ·rw [eH _ _ z,eH _ _ z,b.lo i j hi]
   have e:sm k (fun l=>rl A k (fun j=>A k j + A r j) i l * W l j) = sm k (fun l=>A i l * W l j):=aQ fun l _=>by rw [eH _ _ z]
   rw [e]
theorem Ba.vec (b:Ba k A W d) {i:Nat} (hi:i < k + 1) (j:Nat):d * A i j = sm k (fun l=>W l j * A i l) + W k j * un k i:=by
 have e:sm k (fun l=>W l j * A i l) = sm k fun l=>A i l * W l j:=aQ fun l _=>Int.mul_comm _ _
 rw [e]
 unfold un
 by_cases z:i = k
 ·subst z
  rw [if_pos rfl,b.lo i j (Nat.le_refl _)]
  omega
 ·rw [if_neg z,b.up i j (by omega)]
  omega
theorem Ba.col (b:Ba k A W d) (B:Mx) {c:Nat} (hc:c < k + 1) (j:Nat) :
  d * det (k + 1) (cl B c fun i=>A i j) = sm k (fun l=>W l j * det (k + 1) (cl B c fun i=>A i l)) + W k j * det (k + 1) (cl B c (un k)):=by
 rw [← cX d _ hc]
 have e:det (k + 1) (cl B c fun i=>d * A i j) = det (k + 1) (cl B c fun i=>1 * sm k (fun l=>W l j * A i l) + W k j * un k i):=bK fun i l hi _=>by
  unfold cl
  split
  ·dsimp only; rw [b.vec hi j]; omega
  ·rfl
 rw [e,cg 1 (W k j) _ _ _ hc,Int.one_mul,iP B (fun l i=>W l j * A i l) hc]
 congr 1
 exact aQ fun l _=>cX _ _ hc
theorem Ba.last (b:Ba k A W d) (j:Nat):det (k + 1) (cl A k fun i=>A i j) = W k j:=by
 refine yg b.ne ?_
 rw [b.col A (Nat.lt_succ_self k) j,fI,← b.dt,kE fun l hl=>?_]
 ·rw [Int.zero_add]; exact Int.mul_comm _ _
 ·rw [cF (c:=l) (d:=k) (by omega) (by omega) (by omega) fun i _=>by rw [aZ,b4 _ _ (by omega)]]
  exact Int.mul_zero _
theorem Ba.AK (b:Ba k A W d):det (k + 1) A = W k k:=by
 have:=b.last k
 rw [dO] at this
 exact this
theorem Ba.unit (b:Ba k A W d) {i:Nat} (hi:i < k):det (k + 1) (cl A i (un k)) = - W i k:=by
 refine yg b.ne ?_
 have hk:k < k + 1:=Nat.lt_succ_self k
 have e:=b.col (cl A i (un k)) hk k
 have e1:cl (cl A i (un k)) k (fun j=>A j k) = cl A i (un k):=by
  have:=dO (cl A i (un k)) k
  have e2:(fun j=>cl A i (un k) j k) = fun j=>A j k:=by funext j; exact b4 _ _ (by omega)
  rw [e2] at this
  exact this
 have e3:det (k + 1) (cl (cl A i (un k)) k (un k)) = 0:=cF (c:=i) (d:=k) (by omega) hk (by omega) fun j _=>by rw [aZ,b4 _ _ (by omega),aZ]
 have e4:det (k + 1) (cl (cl A i (un k)) k fun j=>A j i) = - d:=by
  rw [mC (by omega) hk (by omega),dO,fI,← b.dt]
 rw [e1,e3,fH hi fun l hl z=>?_,e4] at e
 ·rw [e]
  grind
 ·rw [cF (c:=l) (d:=k) (by omega) hk (by omega) fun j _=>by rw [aZ,b4 _ _ (by omega),b4 _ _ z]]
  exact Int.mul_zero _
theorem Ba.FH (b:Ba k A W d) {i:Nat} (hi:i < k) (j:Nat):d * det (k + 1) (cl A i fun l=>A l j) = W k k * W i j - W i k * W k j:=by
 rw [b.col A (by omega) j,b.unit hi,fH hi fun l hl z=>?_]
 ·rw [dO,b.AK]
  grind
 ·rw [cF (c:=l) (d:=i) (by omega) (by omega) z fun j _=>by rw [aZ,b4 _ _ z]]
  exact Int.mul_zero _
theorem Ba.step (b:Ba k A W d) (hk:W k k≠0):∃ W':Mx,(∀ i j,i≠k→d * W' i j = W k k * W i j - W i k * W k j)∧(∀ j,W' k j = W k j)∧Ba (k + 1) A W' (W k k):=by
 let X:Mx:=fun i j=>if i < k then det (k + 1) (cl A i fun l=>A l j) else W k j
 have X1:∀ i j,i < k→d * X i j = W k k * W i j - W i k * W k j:=fun i j hi=>by
  show d * (if i < k then _ else _) = _
  rw [if_pos hi]
  exact b.FH hi j
 have X2:∀ j,X k j = W k j:=fun j=>if_neg (Nat.lt_irrefl k)
 have S:∀ i j,d * sm (k + 1) (fun l=>A i l * X l j) = W k k * sm k (fun l=>A i l * W l j) + (- W k j) * sm k (fun l=>A i l * W l k) + d * A i k * W k j:=fun i j=>by
  rw [← qr]
  show sm k (fun l=>d * (A i l * X l j)) + d * (A i k * X k j) = _
  rw [X2,← mY,Int.mul_assoc d]
  congr 1
  refine aQ fun l hl=>?_
  have:=X1 l j hl
  grind
 refine ⟨fun i j=>if i < k + 1 then X i j else W k k * A i j - sm (k + 1) (fun l=>A i l * X l j),fun i j zm=>?_,fun j=>?_,hk,b.AK.symm,fun i j hi=>?_,fun i j hi=>?_⟩
 ·dsimp only
  by_cases z:i < k + 1
  ·rw [if_pos z]
   exact X1 i j (by omega)
  ·rw [if_neg z,Int.mul_sub,S]
   have h1:=b.lo i j (by omega)
   have h2:=b.lo i k (by omega)
   grind
 ·dsimp only
  rw [if_pos (Nat.lt_succ_self k)]
  exact X2 j
 ·have e:sm (k + 1) (fun l=>A i l * (if l < k + 1 then X l j else W k k * A l j - sm (k + 1) (fun m=>A l m * X m j))) = sm (k + 1) (fun l=>A i l * X l j):=aQ fun l hl=>by rw [if_pos hl]
  rw [e]
  refine yg b.ne ?_
  rw [S]
  by_cases z:i = k
  ·subst z
   have h1:=b.lo i j (Nat.le_refl _)
   have h2:=b.lo i i (Nat.le_refl _)
   grind
  ·have h1:=b.up i j (by omega)
   have h2:=b.up i k (by omega)
   grind
 ·have e:sm (k + 1) (fun l=>A i l * (if l < k + 1 then X l j else W k k * A l j - sm (k + 1) (fun m=>A l m * X m j))) = sm (k + 1) (fun l=>A i l * X l j):=aQ fun l hl=>by rw [if_pos hl]
  rw [e,if_neg (by omega)]
theorem oM {n:Nat} {A:Mx} {v:Nat→Int} (h:∀ i,i < n→sm n (fun l=>v l * A i l) = 0) {c:Nat} (hc:c < n):v c * det n A = 0:=by
 have e:det n (cl A c fun i=>sm n fun l=>v l * A i l) = 0:=by
  rw [← oJ (A:=A) hc]
  refine bK fun i j hi _=>?_
  unfold cl
  split
  ·exact h i hi
  ·rfl
 rw [iP A (fun l i=>v l * A i l) hc,fH hc fun l hl z=>?_,cX _ _ hc,dO] at e
 ·exact e
 ·rw [cX _ _ hc,cF (c:=l) (d:=c) (by omega) hc z fun j _=>by rw [aZ,b4 _ _ z]]
  exact Int.mul_zero _
theorem uu {n:Nat} {A:Mx} (h0:det n A≠0) {v:Nat→Int} (h:∀ i,i < n→sm n (fun l=>v l * A i l) = 0) {c:Nat} (hc:c < n):v c = 0:=
 (Int.mul_eq_zero.mp (oM h hc)).resolve_right h0
theorem Ba.stuck (b:Ba k A W d) {n m:Nat} (hk:k < m) (h:∀ i,k≤i→i < n→W i k = 0):∀ i,i < n→sm m (fun l=>(if l < k then W l k else if l = k then - d else 0) * A i l) = 0:=by
 intro i hi
 have key:∀ m,k < m→sm m (fun l=>(if l < k then W l k else if l = k then - d else 0) * A i l) = sm k (fun l=>A i l * W l k) - d * A i k:=fun m=>by
  induction m with
  | zero=>intro z; omega
  | succ m ih=>
   intro z
   show sm m _ + _ = _
   dsimp only
   by_cases e:m = k
   ·subst e
    rw [if_neg (by omega),if_pos rfl,aQ (g:=fun l=>A i l * W l m) fun l hl=>by rw [if_pos hl]; exact Int.mul_comm _ _]
    grind
   ·rw [ih (by omega),if_neg (by omega),if_neg e]
    omega
 rw [key m hk]
 by_cases z:i < k
 ·rw [b.up i k z]; omega
 ·have:=b.lo i k (by omega)
  rw [h i (by omega) hi] at this
  omega
theorem Ba.done {n:Nat} (b:Ba n A W d) {c j:Nat} (hc:c < n) (hj:j < n):W c j = if c = j then d else 0:=by
 have h0:det n A≠0:=fun z=>b.ne (b.dt.trans z)
 have:=uu h0 (v:=fun l=>W l j - if l = j then d else 0) (fun i hi=>?_) hc
 ·omega
 ·have e:sm n (fun l=>(W l j - if l = j then d else 0) * A i l) = sm n (fun l=>A i l * W l j) - sm n (fun l=>(if l = j then d else 0) * A i l):=by
   rw [← qq]
   exact aQ fun l _=>by rw [Int.sub_mul,Int.mul_comm (W l j)]
  rw [e,← b.up i j hi,fH hj fun l _ z=>by rw [if_neg z]; exact Int.zero_mul _,if_pos rfl]
  omega
end Dt
end
section
namespace Dt
theorem m7 {B:Nat} {f:Nat→Int}:∀ {n:Nat},(∀ i,i < n→(f i).natAbs≤B)→(sm n f).natAbs≤n * B
 | 0,_=>by simp [sm]
 | n + 1,h=>by
  have h1:=m7 fun i hi=>h i (Nat.lt_succ_of_lt hi)
  have h2:=h n (Nat.lt_succ_self n)
  have h3:=Int.natAbs_add_le (sm n f) (f n)
  show (sm n f + f n).natAbs≤_
  rw [Nat.succ_mul]
  omega
theorem qw:∀ j,(sg j).natAbs = 1
 | 0=>rfl
 | j + 1=>by show (- sg j).natAbs = 1; rw [Int.natAbs_neg]; exact qw j
theorem ee {M:Nat}:∀ {n:Nat} {A:Mx},(∀ i j,i < n→j < n→(A i j).natAbs≤M)→(det n A).natAbs≤(n * M) ^ n
 | 0,_,_=>by simp [det]
 | n + 1,A,h=>by
  rw [aJ]
  have:=m7 (n:=n + 1) (B:=M * (n * M) ^ n) (f:=fun j=>sg j * A 0 j * det n (mi A j)) fun j hj=>by
   rw [Int.natAbs_mul,Int.natAbs_mul,qw,Nat.one_mul]
   exact Nat.mul_le_mul (h 0 j (by omega) hj) (ee fun i l hi hl=>h _ _ (by omega) (qu hl))
  refine Nat.le_trans this ?_
  rw [← Nat.mul_assoc,Nat.pow_succ,Nat.mul_comm]
  exact Nat.mul_le_mul_right _ (Nat.pow_le_pow_left (Nat.mul_le_mul_right _ (Nat.le_succ n)) n)
variable {k:Nat} {A W:Mx} {d:Int}
theorem Ba.cr (b:Ba k A W d) {i:Nat} (hi:i < k) (j:Nat):W i j = det k (cl A i fun l=>A l j):=by
 refine yg b.ne ?_
 rw [← cX d _ hi]
 have e:det k (cl A i fun l=>d * A l j) = det k (cl A i fun l=>sm k fun m=>W m j * A l m):=bK fun a c ha _=>by
  unfold cl
  split
  ·dsimp only
   rw [b.up a j ha]
   exact aQ fun l _=>Int.mul_comm _ _
  ·rfl
 rw [e,iP A (fun m l=>W m j * A l m) hi,fH hi fun l hl z=>?_,cX _ _ hi,dO,← b.dt]
 ·exact Int.mul_comm _ _
 ·rw [cX _ _ hi,cF (c:=l) (d:=i) hl hi z fun j _=>by rw [aZ,b4 _ _ z]]
  exact Int.mul_zero _
theorem Ba.bound (b:Ba k A W d) {M:Nat} (hM:1≤M) (h:∀ i j,(A i j).natAbs≤M) (i j:Nat):(W i j).natAbs≤((k + 1) * M) ^ (k + 1):=by
 have h1:∀ l j,l < k→(W l j).natAbs≤(k * M) ^ k:=fun l j hl=>by
  rw [b.cr hl j]
  refine ee fun a c _ _=>?_
  unfold cl
  split
  ·exact h _ _
  ·exact h _ _
 have h2:(k * M) ^ k≤((k + 1) * M) ^ k:=Nat.pow_le_pow_left (Nat.mul_le_mul_right _ (Nat.le_succ k)) k
 have h3:1≤(k + 1) * M:=Nat.le_trans hM (Nat.le_mul_of_pos_left _ (Nat.succ_pos k))
 by_cases z:i < k
 ·refine Nat.le_trans (h1 i j z) (Nat.le_trans h2 ?_)
  rw [Nat.pow_succ]
  exact Nat.le_mul_of_pos_right _ h3
 ·rw [b.lo i j (by omega)]
  have e1:(d * A i j).natAbs≤(k * M) ^ k * M:=by
   rw [Int.natAbs_mul]
   refine Nat.mul_le_mul ?_ (h i j)
   rw [b.dt]
   exact ee fun a c _ _=>h a c
  have e2:=m7 (n:=k) (B:=M * (k * M) ^ k) (f:=fun l=>A i l * W l j) fun l hl=>by
   rw [Int.natAbs_mul]
   exact Nat.mul_le_mul (h i l) (h1 l j hl)
  have e3:(d * A i j - sm k fun l=>A i l * W l j).natAbs≤(d * A i j).natAbs + (sm k fun l=>A i l * W l j).natAbs:=by omega
  have e4:(k * M) ^ k * M + k * (M * (k * M) ^ k) = (k + 1) * M * (k * M) ^ k:=by
   rw [Nat.mul_comm ((k * M) ^ k) M,Nat.add_mul,Nat.add_mul,Nat.one_mul,Nat.mul_assoc k M]
   omega
  rw [Nat.pow_succ,Nat.mul_comm (((k + 1) * M) ^ k)]
  refine Nat.le_trans e3 (Nat.le_trans (Nat.add_le_add e1 e2) ?_)
  rw [e4]
  exact Nat.mul_le_mul_left _ h2
theorem Ba.xD (b:Ba k A W d) {M:Nat} (h:∀ i j,(A i j).natAbs≤M):d.natAbs≤(k * M) ^ k:=by
 rw [b.dt]
 exact ee fun a c _ _=>h a c
def sn:Nat→(Nat→Nat)→Nat
 | 0,_=>0
 | n + 1,f=>sn n f + f n
theorem great (u:Nat→Int):∀ {n:Nat},0 < n→∃ m,m < n∧∀ l,l < n→(u l).natAbs≤(u m).natAbs
 | 1,_=>⟨0,by omega,fun l hl=>by rw [show l = 0 by omega]; exact Nat.le_refl _⟩
 | n + 2,_=>by
  obtain ⟨m,hm,h⟩:=great u (n:=n + 1) (by omega)
  by_cases z:(u m).natAbs≤(u (n + 1)).natAbs
  ·exact ⟨n + 1,by omega,fun l hl=>by
    by_cases y:l = n + 1
    ·rw [y]; exact Nat.le_refl _
    ·exact Nat.le_trans (h l (by omega)) z⟩
  ·exact ⟨m,by omega,fun l hl=>by
    by_cases y:l = n + 1
    ·rw [y]; omega
    ·exact h l (by omega)⟩
def Ox (n:Nat) (A:Mx):Prop:=∀ k,k < n→sn n (fun j=>if j = k then 0 else (A k j).natAbs) < (A k k).natAbs
end Dt
end
section
namespace Dt
def mx (L:List (List Int)):Mx:=fun i j=>(L.getD i []).getD j 0
structure fw (L:List (List Int)) (n m:Nat):Prop where
 len:L.length = n
 row:∀ l∈L,l.length = m
theorem eT {L:List (List Int)} {i:Nat} {l:List Int} (h:L[i]? = some l) (j:Nat):mx L i j = l.getD j 0:=by
 unfold mx
 have e:L.getD i [] = l:=by rw [List.getD_eq_getElem?_getD,h]; rfl
 rw [e]
theorem tW {L:List (List Int)} {i:Nat} (h:L.length≤i) (j:Nat):mx L i j = 0:=by
 unfold mx
 have e:L.getD i [] = []:=by rw [List.getD_eq_getElem?_getD,List.getElem?_eq_none h]; rfl
 rw [e]
 rfl
theorem getD_none {l:List Int} {j:Nat} (h:l.length≤j):l.getD j 0 = 0:=by
 rw [List.getD_eq_getElem?_getD,List.getElem?_eq_none h]
 rfl
variable {L:List (List Int)} {n m:Nat}
theorem fw.at (r:fw L n m) {i:Nat} (hi:i < n):∃ l,L[i]? = some l∧l.length = m:=by
 have h:i < L.length:=by rw [r.len]; exact hi
 exact ⟨L[i],by simp [h],r.row _ (List.getElem_mem h)⟩
theorem fw.out (r:fw L n m) {i j:Nat} (h:n≤i∨m≤j):mx L i j = 0:=by
 by_cases z:i < n
 ·obtain ⟨l,hl,e⟩:=r.at z
  rw [eT hl]
  exact getD_none (by omega)
 ·exact tW (by rw [r.len]; omega) j
theorem eI {L:List (List Int)} {i j:Nat} {l:List Int} {x:Int} (h:L[i]? = some l) (h2:l[j]? = some x):mx L i j = x:=by
 rw [eT h,List.getD_eq_getElem?_getD,h2]
 rfl
def vE (n m:Nat) (A:Mx) (u:Nat→Int):Prop:=∀ i,i < n→sm m (fun l=>u l * A i l) = 0
theorem tZ {A:Mx} {k r:Nat} (hk:k < r) (hr:r < n) (u:Nat→Int):vE n m (rl A k fun j=>A k j + A r j) u↔vE n m A u:=by
 have e1:∀ i,i≠k→sm m (fun l=>u l * rl A k (fun j=>A k j + A r j) i l) = sm m (fun l=>u l * A i l):=fun i z=>aQ fun l _=>by rw [eH _ _ z]
 have e2:sm m (fun l=>u l * rl A k (fun j=>A k j + A r j) k l) = sm m (fun l=>u l * A k l) + sm m (fun l=>u l * A r l):=by
  rw [← mZ]
  exact aQ fun l _=>by rw [dm]; exact Int.mul_add _ _ _
 constructor
 ·intro h i hi
  by_cases z:i = k
  ·subst z
   have h1:=h i hi
   have h2:=h r hr
   rw [e2] at h1
   rw [e1 r (by omega)] at h2
   omega
  ·rw [← e1 i z]; exact h i hi
 ·intro h i hi
  by_cases z:i = k
  ·subst z
   rw [e2,h i hi,h r hr]
   rfl
  ·rw [e1 i z]; exact h i hi
structure Cd (n m M k t:Nat) (A0 W:Mx) (d:Int) (A:Mx):Prop where
 ba:Ba k A W d
 b2:∀ i j,(A i j).natAbs≤2 * M
 b1:∀ i j,t≤i→(A i j).natAbs≤M
 vg:∀ u,vE n m A u↔vE n m A0 u
 dt:∀ f:(Mx→Int),(∀ (B:Mx) (c r:Nat),c < r→r < n→f (rl B c fun j=>B c j + B r j) = f B)→f A = f A0
theorem Cd.start {M:Nat} {A:Mx} (h:∀ i j,(A i j).natAbs≤M):Cd n m M 0 0 A A 1 A:=⟨Ba.start A,fun i j=>by have:=h i j; omega,fun i j _=>h i j,fun _=>Iff.rfl,fun _ _=>rfl⟩
variable {M k:Nat} {A0 W A:Mx} {d:Int}
theorem Cd.weak (c:Cd n m M k k A0 W d A):Cd n m M k (k + 1) A0 W d A:=⟨c.ba,c.b2,fun i j hi=>c.b1 i j (by omega),c.vg,c.dt⟩
theorem Cd.led (c:Cd n m M k k A0 W d A) {r:Nat} (hr:k < r) (hn:r < n):Cd n m M k (k + 1) A0 (rl W k fun j=>W k j + W r j) d (rl A k fun j=>A k j + A r j) where
 ba:=c.ba.led hr
 b2:=fun i j=>by
  by_cases z:i = k
  ·subst z
   rw [dm]
   have h1:=c.b1 i j (Nat.le_refl _)
   have h2:=c.b1 r j (by omega)
   omega
  ·rw [eH _ _ z]; exact c.b2 i j
 b1:=fun i j hi=>by rw [eH _ _ (by omega)]; exact c.b1 i j (by omega)
 vg:=fun u=>(tZ hr hn u).trans (c.vg u)
 dt:=fun f hf=>(hf A k r hr hn).trans (c.dt f hf)
theorem Cd.same {W':Mx} (c:Cd n m M k t A0 W d A) (h:W = W'):Cd n m M k t A0 W' d A:=h▸c
structure Gg (L L':List (List Int)) (n m k:Nat) (d:Int):Prop where
 qB:fw L' n m
 own:∀ j,j < m→mx L' k j = mx L k j
 row:∀ i j,i < n→i≠k→j < m→mx L' i j = (mx L k k * mx L i j - mx L i k * mx L k j).fdiv d
theorem Cd.next {L L':List (List Int)} (c:Cd n m M k (k + 1) A0 (mx L) d A) (r:fw L n m) (hk:k < n) (h0:mx L k k≠0) (h:Gg L L' n m k d):Cd n m M (k + 1) (k + 1) A0 (mx L') (mx L k k) A:=by
 obtain ⟨W',h1,h2,b⟩:=c.ba.step h0
 have e:W' = mx L':=by
  funext i j
  by_cases zj:j < m
  ·by_cases zi:i = k
   ·subst zi
    rw [h2,h.own j zj]
   ·by_cases zn:i < n
    ·rw [h.row i j zn zi zj,← h1 i j zi,Int.mul_fdiv_cancel_left _ c.ba.ne]
    ·have:=h1 i j zi
     rw [r.out (i:=i) (j:=j) (.inl (by omega)),r.out (i:=i) (j:=k) (.inl (by omega))] at this
     rw [h.qB.out (.inl (by omega))]
     refine yg c.ba.ne ?_
     rw [this]
     omega
  ·rw [h.qB.out (.inr (by omega))]
   by_cases zi:i = k
   ·subst zi
    rw [h2]
    exact r.out (.inr (by omega))
   ·have:=h1 i j zi
    rw [r.out (i:=i) (j:=j) (.inr (by omega)),r.out (i:=k) (j:=j) (.inr (by omega))] at this
    refine yg c.ba.ne ?_
    rw [this]
    omega
 rw [← e]
 exact ⟨b,c.b2,c.b1,c.vg,c.dt⟩
theorem Cd.bound {t:Nat} (c:Cd n m M k t A0 W d A) (hM:1≤M) (i j:Nat):(W i j).natAbs≤((k + 1) * (2 * M)) ^ (k + 1):=c.ba.bound (by omega) c.b2 i j
theorem Cd.xM {t:Nat} (c:Cd n m M k t A0 W d A) (hM:1≤M) (hk:k≤n) (i j:Nat):(W i j).natAbs≤((n + 1) * (2 * M)) ^ (n + 1):=by
 refine Nat.le_trans (c.bound hM i j) ?_
 refine Nat.le_trans (Nat.pow_le_pow_left (Nat.mul_le_mul_right _ (Nat.succ_le_succ hk)) _) ?_
 exact Nat.pow_le_pow_right (Nat.mul_pos (by omega) (by omega)) (by omega)
theorem Cd.zO {t:Nat} (c:Cd n m M k t A0 W d A) (hM:1≤M) (hk:k≤n):d.natAbs≤((n + 1) * (2 * M)) ^ (n + 1):=by
 refine Nat.le_trans (c.ba.xD c.b2) ?_
 refine Nat.le_trans (Nat.pow_le_pow_left (Nat.mul_le_mul_right _ (Nat.le_succ_of_le hk)) _) ?_
 exact Nat.pow_le_pow_right (Nat.mul_pos (by omega) (by omega)) (by omega)
def Inj (n m:Nat) (A:Mx):Prop:=∀ u:Nat→Int,(∀ l,n≤l→u l = 0)→vE n m A u→∀ l,l < n→u l = 0
theorem nD {L:List (List Int)} {k:Nat} {v:List Int} (hk:k < L.length):mx (L.set k v) = rl (mx L) k fun j=>v.getD j 0:=by
 funext i j
 unfold rl
 by_cases z:i = k
 ·subst z
  rw [if_pos rfl,eT (List.getElem?_set_self hk)]
 ·rw [if_neg z]
  unfold mx
  have e:(L.set k v).getD i [] = L.getD i []:=by rw [List.getD_eq_getElem?_getD,List.getD_eq_getElem?_getD,List.getElem?_set_ne (fun w=>z w.symm)]
  rw [e]
theorem tu {a b:List Int} (h:a.length = b.length) (j:Nat):(List.zipWith (· + ·) a b).getD j 0 = a.getD j 0 + b.getD j 0:=by
 rw [List.getD_eq_getElem?_getD,List.getD_eq_getElem?_getD,List.getD_eq_getElem?_getD,List.getElem?_zipWith]
 by_cases z:j < a.length
 ·have:j < b.length:=by omega
  simp [z,this]
 ·rw [List.getElem?_eq_none (by omega),List.getElem?_eq_none (by omega)]
  rfl
def Led (L L':List (List Int)) (n k:Nat):Prop:=(L' = L∧mx L k k≠0)∨(mx L k k = 0∧∃ (r:Nat) (a b:List Int),k < r∧r < n∧L[k]? = some a∧L[r]? = some b∧mx L r k≠0∧L' = L.set k (List.zipWith (· + ·) a b))
theorem Cd.DE {L L':List (List Int)} (c:Cd n m M k k A0 (mx L) d A) (r:fw L n m) (hk:k < n) (h:Led L L' n k):fw L' n m∧mx L' k k≠0∧∃ A',Cd n m M k (k + 1) A0 (mx L') d A':=by
 rcases h with ⟨rfl,h0⟩ | ⟨h0,q,a,b,h1,h2,ha,hb,h3,rfl⟩
 ·exact ⟨r,h0,A,c.weak⟩
 ·have la:=r.row a (List.mem_of_getElem? ha)
  have lb:=r.row b (List.mem_of_getElem? hb)
  have e:mx (L.set k (List.zipWith (· + ·) a b)) = rl (mx L) k fun j=>mx L k j + mx L q j:=by
   rw [nD (by rw [r.len]; exact hk)]
   congr 1
   funext j
   rw [tu (by omega),eT ha,eT hb]
  refine ⟨⟨by rw [List.length_set]; exact r.len,fun l hl=>?_⟩,?_,_,(c.led h1 h2).same e.symm⟩
  ·rcases List.mem_or_eq_of_mem_set hl with z | rfl
   ·exact r.row l z
   ·rw [List.length_zipWith]; omega
  ·rw [e,dm,h0]
   omega
end Dt
end
section
namespace Gm
open PySem L2
theorem pH {xs:List V} {k:Nat} (h:k≤xs.length):fJ xs (some (k:Int)) none = xs.drop k:=by
 unfold fJ HT.jD
 dsimp only
 rw [if_neg (by omega),show min ((k:Int).toNat) xs.length = k by omega,List.take_of_length_le (by rw [List.length_drop]; omega)]
theorem pG {xs:List V} {k:Nat} (h:k≤xs.length):fJ xs none (some (k:Int)) = xs.take k:=by
 unfold fJ HT.jD
 dsimp only
 rw [if_neg (by omega),show min ((k:Int).toNat) xs.length = k by omega,List.drop_zero,Nat.sub_zero]
theorem b9.dropped {H:Hp} {p q:Addr} {as:List Addr} {L:List (List Int)} (g:b9 H p as L) (k:Nat) (hq:H q = none):b9 (upd H q (.lst ((as.drop k).map V.ref))) q (as.drop k) (L.drop k):=
 ⟨ah,by rw [List.length_drop,List.length_drop,g.len],fun i a l h1 h2=>by
  rw [List.getElem?_drop] at h1 h2
  have:=g.row _ a l h1 h2
  rw [av (fun z=>by rw [z,hq] at this; cases this)]
  exact this⟩
theorem b9.taken {H:Hp} {p q:Addr} {as:List Addr} {L:List (List Int)} (g:b9 H p as L) (k:Nat) (hq:H q = none):b9 (upd H q (.lst ((as.take k).map V.ref))) q (as.take k) (L.take k):=
 ⟨ah,by rw [List.length_take,List.length_take,g.len],fun i a l h1 h2=>by
  rw [List.getElem?_take] at h1 h2
  split at h1
  ·rename_i z
   rw [if_pos z] at h2
   have:=g.row _ a l h1 h2
   rw [av (fun z=>by rw [z,hq] at this; cases this)]
   exact this
  ·cases h1⟩
theorem b9.one {H:Hp} {a q:Addr} {l:List Int} (h:H a = some (.lst (l.map V.int))) (hq:H q = none):b9 (upd H q (.lst [.ref a])) q [a] [l]:=
 ⟨ah,rfl,fun i b k h1 h2=>by
  have i0:i = 0:=by
   have:=(List.getElem?_eq_some_iff.mp h1).1
   rw [List.length_singleton] at this
   omega
  subst i0
  cases h1
  cases h2
  rw [av (fun z=>by rw [z,hq] at h; cases h)]
  exact h⟩
section
variable {σ : St} {H:Hp} {Q:VK} {K:PySem.W.Frag}
theorem kT {a:Addr} {i k n:Nat} {xs:List V} (h1 : σ[i]? = some (some (.ref a))) (h2 : σ[k]? = some (some (.int (n:Int)))) (hs:aB K H a xs) (hn:n + 1≤xs.length) (q:∀ p,H p = none→Q (.ref p) (upd H p (.lst (xs.drop (n + 1))))) :
  vK (qW K) (iu i) (lR (xU (uZ fun i j=>V.int (i + j)) (iu k) (tC (.int 1)))) fU σ H Q:=
 ⟨_,h1,⟨_,h2,⟨_,_,rfl,rfl,⟨_,rfl,⟨a,_,rfl,hs,fun p hp=>by rw [show (n:Int) + 1 = ((n + 1:Nat):Int) from rfl,pH hn]; exact q p hp⟩⟩⟩⟩⟩
theorem oj {a:Addr} {i k n:Nat} {xs:List V} (h1 : σ[i]? = some (some (.ref a))) (h2 : σ[k]? = some (some (.int (n:Int)))) (hs:aB K H a xs) (hn:n≤xs.length) (q:∀ p,H p = none→Q (.ref p) (upd H p (.lst (xs.take n)))) :
  vK (qW K) (iu i) fU (lR (iu k)) σ H Q:=⟨_,h1,⟨_,h2,⟨_,rfl,⟨a,_,rfl,hs,fun p hp=>by rw [pG hn]; exact q p hp⟩⟩⟩⟩
end
theorem int_at {l:List Int} {i:Nat} {x:V} (h:(l.map V.int)[i]? = some x):∃ y,l[i]? = some y∧x = V.int y:=by
 rw [List.getElem?_map] at h
 cases e:l[i]? with
 | none=>rw [e] at h; cases h
 | some z=>rw [e] at h; exact ⟨z,rfl,(Option.some.inj h).symm⟩
theorem cz {l:List Addr} {i:Nat} {x:V} (h:(l.map V.ref)[i]? = some x):∃ y,l[i]? = some y∧x = V.ref y:=by
 rw [List.getElem?_map] at h
 cases e:l[i]? with
 | none=>rw [e] at h; cases h
 | some z=>rw [e] at h; exact ⟨z,rfl,(Option.some.inj h).symm⟩
theorem lP {f:Int→Int→Int} {a b:List Int} {i:Nat} {x y:Int} (hx:a[i]? = some x) (hy:b[i]? = some y):(List.zipWith f a b).take (i + 1) = (List.zipWith f a b).take i ++ [f x y]:=by
 rw [List.take_succ,List.getElem?_zipWith,hx,hy]
 rfl
theorem j5 {L:List (List Int)} {c:Nat} {v:List Int} (h:c < L.length):L.take c ++ [v] ++ L.drop (c + 1) = L.set c v:=by
 rw [List.set_eq_take_append_cons_drop,if_pos h]
 simp
structure Fq (z:Nat) (fs:List (Int×Int)):Prop where
 pos:∀ f∈fs,0 < f.2
 top:∀ f∈fs,Sz z f.1
 bot:∀ f∈fs,Sz z f.2
structure Wh (fs:List (Int×Int)) (b:Int) (l:List Int):Prop where
 pos:0 < b
 len:l.length = fs.length
 eq:∀ (i:Nat) (f:Int×Int) (x:Int),fs[i]? = some f→l[i]? = some x→x * f.2 = f.1 * b
theorem rN {b u:Int} (hb:0 < b) (hu:0 < u):0 < b / ((Int.gcd b u:Nat):Int) * u∧b ∣ b / ((Int.gcd b u:Nat):Int) * u∧u ∣ b / ((Int.gcd b u:Nat):Int) * u∧(b / ((Int.gcd b u:Nat):Int) * u).natAbs≤b.natAbs * u.natAbs:=by
 have g0:=Fr.iO b (show u≠0 by omega)
 obtain ⟨x,hx⟩:=Fr.kb b u
 obtain ⟨y,hy⟩:=Fr.ka b u
 have g1:0 < ((Int.gcd b u:Nat):Int):=by omega
 generalize ((Int.gcd b u:Nat):Int) = g at *
 have e:b / g = x:=by rw [hx]; exact Int.mul_ediv_cancel_left _ (by omega)
 have x0:0 < x:=by
  by_cases z:0 < x
  ·exact z
  ·have:=Int.mul_nonpos_of_nonneg_of_nonpos (show 0≤g by omega) (show x≤0 by omega)
   omega
 rw [e]
 refine ⟨Int.mul_pos x0 hu,⟨y,?_⟩,⟨x,Int.mul_comm _ _⟩,?_⟩
 ·rw [hy]
  have:g * x * y = x * (g * y):=by grind
  rw [hx,this]
 ·rw [Int.natAbs_mul]
  refine Nat.mul_le_mul_right _ ?_
  have:b.natAbs = g.natAbs * x.natAbs:=by rw [← Int.natAbs_mul,← hx]
  rw [this]
  exact Nat.le_mul_of_pos_left _ (by omega)
end Gm
end
section
namespace Dt
open Fr Gm
def qt (f:Int×Int):Rat:=(f.1:Rat) / (f.2:Rat)
theorem d3 {u:Int} (h:u≠0):(u:Rat)≠0:=fun z=>h (Rat.intCast_inj.mp z)
theorem kU {a b t u:Int} (hb:b≠0) (h:vD a b t u):qt (t,u) = (a:Rat) / (b:Rat):=by
 have e:=congrArg (fun x:Int=>(x:Rat)) h.eq
 simp only [Rat.intCast_mul] at e
 have h1:=d3 hb
 have h2:=d3 (show u≠0 by have:=h.pos; omega)
 show (t:Rat) / (u:Rat) = _
 grind
theorem ow {f g:Int×Int} {t u:Int} (hf:f.2≠0) (hg:g.2≠0) (h:vD (f.1 * g.2 + g.1 * f.2) (f.2 * g.2) t u):qt (t,u) = qt f + qt g:=by
 rw [kU (fun z=>(Int.mul_eq_zero.mp z).elim hf hg) h]
 simp only [Rat.intCast_mul,Rat.intCast_add]
 have h1:=d3 hf
 have h2:=d3 hg
 unfold qt
 grind
theorem lZ {f g:Int×Int} {t u:Int} (hf:f.2≠0) (hg:g.2≠0) (h:vD (f.1 * g.1) (f.2 * g.2) t u):qt (t,u) = qt f * qt g:=by
 rw [kU (fun z=>(Int.mul_eq_zero.mp z).elim hf hg) h]
 simp only [Rat.intCast_mul]
 have h1:=d3 hf
 have h2:=d3 hg
 unfold qt
 grind
theorem rJ {t u o e:Int} (he:0 < e) (hg:Int.gcd o e = 1) (hu:0 < u) (hc:Int.gcd t u = 1) (h1:t * e = o * u):t = o∧u = e:=by
 have d1:u.natAbs ∣ e.natAbs:=by
  have:u ∣ t * e:=⟨o,by rw [h1,Int.mul_comm]⟩
  have:=Int.natAbs_dvd_natAbs.mpr this
  rw [Int.natAbs_mul] at this
  exact Nat.Coprime.dvd_of_dvd_mul_left (show Nat.gcd u.natAbs t.natAbs = 1 by rw [Nat.gcd_comm]; exact hc) this
 have d2:e.natAbs ∣ u.natAbs:=by
  have:e ∣ o * u:=⟨t,by rw [← h1,Int.mul_comm]⟩
  have:=Int.natAbs_dvd_natAbs.mpr this
  rw [Int.natAbs_mul] at this
  exact Nat.Coprime.dvd_of_dvd_mul_left (show Nat.gcd e.natAbs o.natAbs = 1 by rw [Nat.gcd_comm]; exact hg) this
 have e1:=Nat.dvd_antisymm d1 d2
 have e2:u = e:=by omega
 subst e2
 exact ⟨Int.eq_of_mul_eq_mul_right (by omega) h1,rfl⟩
def Lw (f:Int×Int):Prop:=0 < f.2∧Int.gcd f.1 f.2 = 1
theorem nv {f g:Int×Int} (hf:Lw f) (hg:Lw g) (h:qt f = qt g):f = g:=by
 obtain ⟨t,u⟩:=f
 obtain ⟨o,e⟩:=g
 have h1:=d3 (show u≠0 by have:0 < u:=hf.1; omega)
 have h2:=d3 (show e≠0 by have:0 < e:=hg.1; omega)
 have h3:(t:Rat) / (u:Rat) = (o:Rat) / (e:Rat):=h
 have h4:((t * e:Int):Rat) = ((o * u:Int):Rat):=by
  rw [Rat.intCast_mul,Rat.intCast_mul]
  grind
 obtain ⟨rfl,rfl⟩:=rJ hg.1 hg.2 hf.1 hf.2 (Rat.intCast_inj.mp h4)
 rfl
def sq:Nat→(Nat→Rat)→Rat
 | 0,_=>0
 | n + 1,f=>sq n f + f n
theorem ck {f g:Nat→Rat}:∀ {n:Nat},(∀ i,i < n→f i = g i)→sq n f = sq n g
 | 0,_=>rfl
 | n + 1,h=>by
  show sq n f + f n = sq n g + g n
  rw [ck fun i hi=>h i (Nat.lt_succ_of_lt hi),h n (Nat.lt_succ_self n)]
theorem iW {f:Nat→Rat} (a:Rat):∀ (n:Nat),sq n (fun i=>a * f i) = a * sq n f
 | 0=>by show (0:Rat) = a * 0; grind
 | n + 1=>by
  show sq n (fun i=>a * f i) + a * f n = a * (sq n f + f n)
  rw [iW a n]
  grind
theorem kz {f:Nat→Int}:∀ (n:Nat),((sm n f:Int):Rat) = sq n fun i=>(f i:Rat)
 | 0=>rfl
 | n + 1=>by
  show ((sm n f + f n:Int):Rat) = _ + _
  rw [Rat.intCast_add,kz n]
end Dt
end
section
namespace Dt
open Fr Gm
def fa (fs:List (Int×Int)) (j:Nat):Rat:=qt (fs.getD j (0,1))
theorem kd {fs:List (Int×Int)} {j:Nat} {f:Int×Int} (h:fs[j]? = some f):fa fs j = qt f:=by
 unfold fa
 rw [List.getD_eq_getElem?_getD,h]
 rfl
def NS (n:Nat) (R:List (List (Int×Int))):Prop:=∀ u:Nat→Int,(∀ fs∈R,sq n (fun j=>fa fs j * (u j:Rat)) = 0)→∀ j,j < n→u j = 0
def jw (n:Nat) (R:List (List (Int×Int))) (gs:List (Int×Int)) (L:List (List Int)):Prop:=
 L.length = R.length∧∀ (i:Nat) (fs:List (Int×Int)) (g:Int×Int) (l:List Int),R[i]? = some fs→gs[i]? = some g→L[i]? = some l→∃ b,Wh (fs ++ [g]) b l
structure sV (n:Nat) (R:List (List (Int×Int))) (gs:List (Int×Int)):Prop where
 rl:R.length = n
 gl:gs.length = n
 row:∀ fs∈R,fs.length = n∧∀ f∈fs,0 < f.2
 goal:∀ g∈gs,0 < g.2
variable {n:Nat} {R:List (List (Int×Int))} {gs:List (Int×Int)} {L:List (List Int)}
theorem pY {fs:List (Int×Int)} {b:Int} {l:List Int} (w:Wh fs b l) {i:Nat} {f:Int×Int} {x:Int} (hf:fs[i]? = some f) (hx:l[i]? = some x) (h0:0 < f.2):(x:Rat) = qt f * (b:Rat):=by
 have e:=congrArg (fun x:Int=>(x:Rat)) (w.eq i f x hf hx)
 simp only [Rat.intCast_mul] at e
 have h1:=d3 (show f.2≠0 by omega)
 unfold qt
 grind
theorem jw.row (F:sV n R gs) (w:jw n R gs L) {i:Nat} {fs:List (Int×Int)} {g:Int×Int} (hf:R[i]? = some fs) (hg:gs[i]? = some g):∃ b:Int,b≠0∧(∀ j,j < n→(mx L i j:Rat) = fa fs j * (b:Rat))∧(mx L i n:Rat) = qt g * (b:Rat):=by
 have hi:=(List.getElem?_eq_some_iff.mp hf).1
 have hl:i < L.length:=by rw [w.1]; exact hi
 obtain ⟨l,el⟩:∃ l,L[i]? = some l:=⟨L[i],by simp [hl]⟩
 obtain ⟨b,wb⟩:=w.2 i fs g l hf hg el
 obtain ⟨fl,fp⟩:=F.row fs (List.mem_of_getElem? hf)
 have len:=wb.len
 rw [List.length_append,fl,List.length_singleton] at len
 refine ⟨b,by have:=wb.pos; omega,fun j hj=>?_,?_⟩
 ·obtain ⟨f,ef⟩:∃ f,fs[j]? = some f:=⟨fs[j],by simp [show j < fs.length by omega]⟩
  obtain ⟨x,ex⟩:∃ x,l[j]? = some x:=⟨l[j],by simp [show j < l.length by omega]⟩
  rw [eI el ex,kd ef]
  exact pY wb (by rw [List.getElem?_append_left (by omega)]; exact ef) ex (fp f (List.mem_of_getElem? ef))
 ·obtain ⟨x,ex⟩:∃ x,l[n]? = some x:=⟨l[n],by simp [show n < l.length by omega]⟩
  rw [eI el ex]
  exact pY wb (by rw [List.getElem?_append_right (by omega),fl,Nat.sub_self]; rfl) ex (F.goal g (List.mem_of_getElem? hg))
def F7 (n:Nat) (R:List (List (Int×Int))) (gs xs:List (Int×Int)):Prop:=∀ (i:Nat) (fs:List (Int×Int)) (g:Int×Int),R[i]? = some fs→gs[i]? = some g→sq n (fun j=>fa fs j * fa xs j) = qt g
theorem jw.sol (F:sV n R gs) (w:jw n R gs L) {M:Nat} {W A:Mx} {d:Int} (c:Cd n (n + 1) M n n (mx L) W d A) {xs:List (Int×Int)} (hx:∀ j,j < n→fa xs j = (W j n:Rat) / (d:Rat)):F7 n R gs xs:=by
 intro i fs g hf hg
 have il:=(List.getElem?_eq_some_iff.mp hf).1
 rw [F.rl] at il
 obtain ⟨b,b0,h1,h2⟩:=w.row F hf hg
 have vg:vE n (n + 1) A fun l=>if l < n then W l n else - d:=fun a ha=>by
  show sm n _ + _ = 0
  dsimp only
  rw [if_neg (Nat.lt_irrefl n),aQ (g:=fun l=>A a l * W l n) fun l hl=>by rw [if_pos hl]; exact Int.mul_comm _ _,← c.ba.up a n ha]
  grind
 have k:=(c.vg _).mp vg i il
 have k2:sm n (fun l=>(if l < n then W l n else - d) * mx L i l) + (if n < n then W n n else - d) * mx L i n = 0:=k
 rw [if_neg (Nat.lt_irrefl n),aQ (g:=fun l=>W l n * mx L i l) fun l hl=>by rw [if_pos hl]] at k2
 have k3:((sm n fun l=>W l n * mx L i l:Int):Rat) = ((d * mx L i n:Int):Rat):=Rat.intCast_inj.mpr (by grind)
 rw [kz,Rat.intCast_mul,h2] at k3
 have e:sq n (fun l=>((W l n * mx L i l:Int):Rat)) = ((b:Rat) * (d:Rat)) * sq n (fun j=>fa fs j * fa xs j):=by
  rw [← iW]
  refine ck fun j hj=>?_
  rw [Rat.intCast_mul,h1 j hj,hx j hj]
  have:=d3 c.ba.ne
  grind
 rw [e] at k3
 have h3:=d3 b0
 have h4:=d3 c.ba.ne
 grind
def ab (f:Int×Int):Int×Int:=((f.1.natAbs:Int),f.2)
def HV (n k:Nat) (fs:List (Int×Int)):Prop:=∃ (xs:List (Int×Int)) (T T':Int×Int),xs.length = n∧(∀ f∈xs,0 < f.2)∧0 < T.2∧qt T = 1 + sq n (fun j=>qt (ab (xs.getD j (0,1))))∧(T' = T∨T' = (0 - T.1,T.2))∧fs = xs.set k T'
end Dt
end
section
namespace Dt
open PySem L2 Fr Gm
def pd:List (Int×Int)→Nat
 | []=>1
 | f :: r=>f.2.natAbs * pd r
theorem gY:∀ (a b:List (Int×Int)),pd (a ++ b) = pd a * pd b
 | [],b=>by show pd b = 1 * pd b; omega
 | f :: a,b=>by
  show f.2.natAbs * pd (a ++ b) = f.2.natAbs * pd a * pd b
  rw [gY a b,Nat.mul_assoc]
theorem rC (f:Int×Int):pd [f] = f.2.natAbs:=by show f.2.natAbs * 1 = _; omega
structure FG (H:Hp) (p:Addr) (as:List Addr) (R:List (List (Int×Int))):Prop where
 top:H p = some (.lst (as.map V.ref))
 len:as.length = R.length
 row:∀ (i:Nat) (a:Addr) (fs:List (Int×Int)),as[i]? = some a→R[i]? = some fs→∃ ps:List Addr,H a = some (.lst (ps.map V.ref))∧PR H ps fs
variable {H H':Hp} {p:Addr} {as:List Addr} {R:List (List (Int×Int))}
theorem FG.same (g:FG H p as R) (e:ao H H'):FG H' p as R:=⟨e _ _ g.top,g.len,fun i a fs h1 h2=>by
 obtain ⟨ps,h3,h4⟩:=g.row i a fs h1 h2
 exact ⟨ps,e _ _ h3,h4.same e⟩⟩
theorem FG.at (g:FG H p as R) {i:Nat} (hi:i < R.length):∃ a fs ps,as[i]? = some a∧R[i]? = some fs∧H a = some (.lst (ps.map V.ref))∧PR H ps fs:=by
 have h2:i < as.length:=by rw [g.len]; exact hi
 obtain ⟨ps,h3,h4⟩:=g.row i as[i] R[i] (by simp [h2]) (by simp [hi])
 exact ⟨as[i],R[i],ps,by simp [h2],by simp [hi],h3,h4⟩
theorem FG.ix (g:FG H p as R) {i:Nat} {a:Addr} (hi:as[i]? = some a):gE (as.map V.ref) (i:Int) = some (V.ref a):=bG (by rw [List.getElem?_map,hi]; rfl)
theorem PR.off {ps:List Addr} {fs:List (Int×Int)} {b:Addr} {o:HO} {vs:List V} (h:PR H ps fs) (hb:H b = none∨H b = some (.lst vs)):PR (upd H b o) ps fs:=Paired.tX h fun a x q=>by
 rw [av (fun z=>by
  rw [z] at q
  rcases hb with hb | hb
  ·rw [hb] at q; cases q
  ·rw [hb] at q; cases q)]
 exact q
theorem FG.snoc {b:Addr} {fs:List (Int×Int)} {ps:List Addr} (g:FG H p as R) (nt:p∉as) (nb:b≠p) (hb:H b = some (.lst (ps.map V.ref))) (pr:PR H ps fs):FG (upd H p (.lst (as.map V.ref ++ [.ref b]))) p (as ++ [b]) (R ++ [fs]):=by
 refine ⟨by rw [List.map_append]; exact ah,by rw [List.length_append,List.length_append,g.len]; rfl,fun i a pD h1 h2=>?_⟩
 by_cases z:i < as.length
 ·rw [List.getElem?_append_left z] at h1
  rw [List.getElem?_append_left (by rw [← g.len]; exact z)] at h2
  obtain ⟨qs,h3,h4⟩:=g.row i a pD h1 h2
  exact ⟨qs,by rw [av (fun y=>by rw [y] at h1; exact nt (List.mem_of_getElem? h1))]; exact h3,PR.off h4 (.inr g.top)⟩
 ·have il:=(List.getElem?_eq_some_iff.mp h1).1
  rw [List.length_append,List.length_singleton] at il
  have e:i = as.length:=by omega
  subst e
  rw [List.getElem?_append_right (Nat.le_refl _),Nat.sub_self] at h1
  rw [List.getElem?_append_right (by rw [g.len]; exact Nat.le_refl _),g.len,Nat.sub_self] at h2
  cases h1
  cases h2
  exact ⟨ps,by rw [av nb]; exact hb,PR.off pr (.inr g.top)⟩
theorem FG.dropped {q:Addr} (g:FG H p as R) (k:Nat) (hq:H q = none):FG (upd H q (.lst ((as.drop k).map V.ref))) q (as.drop k) (R.drop k):=
 ⟨ah,by rw [List.length_drop,List.length_drop,g.len],fun i a l h1 h2=>by
  rw [List.getElem?_drop] at h1 h2
  obtain ⟨ps,h3,h4⟩:=g.row _ a l h1 h2
  exact ⟨ps,by rw [av (fun z=>by rw [z,hq] at h3; cases h3)]; exact h3,PR.off (vs:=[]) h4 (.inl hq)⟩⟩
theorem uE {l:List Int} {n:Nat} {y:Int} (hl:l.length = n + 1) (h:l[n]? = some y):gE (l.map V.int) (-1) = some (V.int y):=by
 have e:l = l.take n ++ [y]:=by
  have:=List.take_succ (l:=l) (i:=n)
  rw [h,List.take_of_length_le (by omega)] at this
  exact this
 rw [e,List.map_append]
 exact sO _ _
theorem lQ {fs:List (Int×Int)} {b:Int} {l:List Int} (w:Wh fs b l) (hp:∀ f∈fs,0 < f.2) {i:Nat} {f:Int×Int} {x:Int} (hf:fs[i]? = some f) (hx:l[i]? = some x):x.natAbs≤f.1.natAbs * b.natAbs:=by
 have e:=congrArg Int.natAbs (w.eq i f x hf hx)
 rw [Int.natAbs_mul,Int.natAbs_mul] at e
 rw [← e]
 exact Nat.le_mul_of_pos_right _ (by have:=hp f (List.mem_of_getElem? hf); omega)
def dF (R:List (List (Int×Int))) (gs:List (Int×Int)):PyData:=.list [.list (R.map cB),cB gs]
theorem oy:∀ R:List (List (Int×Int)),PyData.canLayAll0 (R.map cB) = true∧PyData.depthAll (R.map cB)≤2
 | []=>⟨by simp [PyData.canLayAll0],by simp [PyData.depthAll]⟩
 | g :: R=>by
  obtain ⟨h1,h2⟩:=oy R
  obtain ⟨h3,h4⟩:=hJ g
  simp [PyData.canLayAll0,PyData.depthAll,PyData.canLay0,PyData.depth,cB,h1,h3]
  omega
theorem fX (R:List (List (Int×Int))) (gs:List (Int×Int)):SeqAt.shaped (dF R gs) = true:=by
 obtain ⟨h1,h2⟩:=oy R
 obtain ⟨h3,h4⟩:=hJ gs
 unfold SeqAt.shaped dF cB
 simp [PyData.canLay0,PyData.canLayAll0,PyData.depth,PyData.depthAll,h3]
 refine ⟨?_,by have:=h2; unfold cB at this; omega⟩
 have:=h1
 unfold cB at this
 exact this
theorem si:∀ (R:List (List (Int×Int))),PyData.eqvAll (R.map cB) (R.map cB) = true
 | []=>by simp [PyData.eqvAll]
 | g :: R=>by
  rw [List.map_cons,PyData.eqvAll,hW,si R]
  simp
theorem vx (R:List (List (Int×Int))) (gs:List (Int×Int)):PyData.eqv (dF R gs) (dF R gs) = true:=by
 unfold dF
 simp [PyData.eqv,PyData.eqvAll,hW,si]
theorem FG.qC:∀ {as:List Addr} {R:List (List (Int×Int))},as.length = R.length→(∀ (i:Nat) (a:Addr) (fs:List (Int×Int)),as[i]? = some a→R[i]? = some fs→∃ ps:List Addr,H a = some (.lst (ps.map V.ref))∧PR H ps fs)→cY H (as.map V.ref) (R.map cB)
 | [],[],_,_=>.nil
 | [],_ :: _,h,_=>by simp at h
 | _ :: _,[],h,_=>by simp at h
 | a :: as,fs :: R,h,k=>by
  obtain ⟨ps,h1,h2⟩:=k 0 a fs rfl rfl
  exact .cons (.lst h1 h2.yK) (FG.qC (by simpa using h) fun i b gs e1 e2=>k (i + 1) b gs e1 e2)
theorem FG.yK (g:FG H p as R):mP H (.ref p) (.list (R.map cB)):=.lst g.top (FG.qC g.len g.row)
theorem oi {t o:Addr} {ps:List Addr} {gs:List (Int×Int)} (h:H t = some (.lst [.ref p,.ref o])) (g:FG H p as R) (ho:H o = some (.lst (ps.map V.ref))) (pr:PR H ps gs):mP H (.ref t) (dF R gs):=
 .lst h (.cons g.yK (.cons (.lst ho pr.yK) .nil))
end Dt
end
section
namespace Dq
open Dt
theorem kr {f:Nat→Rat}:∀ {n:Nat},(∀ i,i < n→f i = 0)→sq n f = 0
 | 0,_=>rfl
 | n + 1,h=>by
  show sq n f + f n = 0
  rw [kr fun i hi=>h i (Nat.lt_succ_of_lt hi),h n (Nat.lt_succ_self n)]
  grind
theorem qk {f g:Nat→Rat} (a b:Rat):∀ (n:Nat),sq n (fun i=>a * f i + b * g i) = a * sq n f + b * sq n g
 | 0=>by show (0:Rat) = a * 0 + b * 0; grind
 | n + 1=>by
  show sq n (fun i=>a * f i + b * g i) + (a * f n + b * g n) = a * (sq n f + f n) + b * (sq n g + g n)
  rw [qk a b n]
  grind
theorem ql {f g:Nat→Rat}:∀ (n:Nat),sq n (fun i=>f i + g i) = sq n f + sq n g
 | 0=>by show (0:Rat) = 0 + 0; grind
 | n + 1=>by
  show sq n (fun i=>f i + g i) + (f n + g n) = (sq n f + f n) + (sq n g + g n)
  rw [ql n]
  grind
theorem qj {f:Nat→Rat} {k:Nat}:∀ {n:Nat},k < n→(∀ i,i < n→i≠k→f i = 0)→sq n f = f k
 | n + 1,hk,h=>by
  show sq n f + f n = f k
  by_cases e:k = n
  ·subst e
   rw [kr fun i hi=>h i (Nat.lt_succ_of_lt hi) (Nat.ne_of_lt hi)]
   grind
  ·rw [qj (k:=k) (by omega) fun i hi=>h i (Nat.lt_succ_of_lt hi),h n (Nat.lt_succ_self n) (fun z=>e z.symm)]
   grind
theorem qi {f:Nat→Rat} {k l:Nat}:∀ {n:Nat},k < l→l < n→(∀ i,i < n→i≠k→i≠l→f i = 0)→sq n f = f k + f l
 | n + 1,hk,hl,h=>by
  show sq n f + f n = f k + f l
  by_cases e:l = n
  ·subst e
   rw [qj (k:=k) hk fun i hi z=>h i (by omega) z (by omega)]
  ·rw [qi hk (by omega) fun i hi=>h i (Nat.lt_succ_of_lt hi),h n (Nat.lt_succ_self n) (by omega) (by omega)]
   grind
theorem ky (f:Nat→Rat):∀ (n:Nat),sq (n + 1) f = f 0 + sq n (fun i=>f (i + 1))
 | 0=>by show (0:Rat) + f 0 = f 0 + 0; grind
 | n + 1=>by
  show sq (n + 1) f + f (n + 1) = f 0 + (sq n (fun i=>f (i + 1)) + f (n + 1))
  rw [ky f n]
  grind
theorem nZ (f:Nat→Nat→Rat) (m:Nat):∀ (n:Nat),sq n (fun i=>sq m (f i)) = sq m fun j=>sq n fun i=>f i j
 | 0=>by rw [show sq 0 (fun i=>sq m (f i)) = 0 from rfl,kr]; intro i _; rfl
 | n + 1=>by
  show sq n (fun i=>sq m (f i)) + sq m (f n) = sq m fun j=>sq n (fun i=>f i j) + f n j
  rw [nZ f m n,ql]
def sg:Nat→Rat
 | 0=>1
 | n + 1=>- sg n
abbrev Mx:=Nat→Nat→Rat
def mi (A:Mx) (j:Nat):Mx:=fun i l=>A (i + 1) (sk j l)
def det:Nat→Mx→Rat
 | 0,_=>1
 | n + 1,A=>sq (n + 1) fun j=>sg j * A 0 j * det n (mi A j)
theorem aJ (n:Nat) (A:Mx):det (n + 1) A = sq (n + 1) fun j=>sg j * A 0 j * det n (mi A j):=rfl
theorem bK:∀ {n:Nat} {A B:Mx},(∀ i j,i < n→j < n→A i j = B i j)→det n A = det n B
 | 0,_,_,_=>rfl
 | n + 1,A,B,h=>by
  rw [aJ,aJ]
  refine ck fun j hj=>?_
  rw [h 0 j (by omega) hj,bK (A:=mi A j) (B:=mi B j) fun i l hi hl=>h _ _ (by omega) (qu hl)]
def cl (A:Mx) (c:Nat) (v:Nat→Rat):Mx:=fun i j=>if j = c then v i else A i j
theorem aZ (A:Mx) (c:Nat) (v:Nat→Rat) (i:Nat):cl A c v i c = v i:=if_pos rfl
theorem b4 {A:Mx} {c j:Nat} (v:Nat→Rat) (i:Nat) (h:j≠c):cl A c v i j = A i j:=if_neg h
theorem cI (A:Mx) (c:Nat) (v:Nat→Rat):mi (cl A c v) c = mi A c:=by
 funext i l
 exact b4 _ _ (uS c l)
theorem iq {A:Mx} {c j:Nat} (v:Nat→Rat) (h:j≠c):mi (cl A c v) j = cl (mi A j) (dn j c) fun i=>v (i + 1):=by
 funext i l
 unfold mi cl
 by_cases z:sk j l = c
 ·rw [if_pos z,if_pos ((kH h).mp z)]
 ·rw [if_neg z,if_neg (fun y=>z ((kH h).mpr y))]
theorem cg (a b:Rat):∀ {n:Nat} (A:Mx) {c:Nat} (v w:Nat→Rat),c < n→det n (cl A c fun i=>a * v i + b * w i) = a * det n (cl A c v) + b * det n (cl A c w)
 | n + 1,A,c,v,w,hc=>by
  rw [aJ,aJ,aJ,← qk]
  refine ck fun j hj=>?_
  by_cases e:j = c
  ·subst e
   rw [cI,cI,cI,aZ,aZ,aZ]
   grind
  ·rw [iq _ e,iq _ e,iq _ e,b4 _ _ e,b4 _ _ e,b4 _ _ e,cg a b (mi A j) (fun i=>v (i + 1)) (fun i=>w (i + 1)) (vy e hc hj)]
   grind
theorem dA:∀ {n:Nat} {A:Mx} {c:Nat},c + 1 < n→(∀ i,i < n→A i c = A i (c + 1))→det n A = 0
 | n + 1,A,c,hc,h=>by
  rw [aJ,qi (k:=c) (l:=c + 1) (by omega) hc fun j hj h1 h2=>?_]
  ·have e:det n (mi A c) = det n (mi A (c + 1)):=bK fun i l hi hl=>by
    unfold mi
    by_cases z:l = c
    ·subst z
     have e1:sk l l = l + 1:=by unfold sk; rw [if_neg (by omega)]
     have e2:sk (l + 1) l = l:=by unfold sk; rw [if_pos (by omega)]
     rw [e1,e2]
     exact (h _ (by omega)).symm
    ·have:sk c l = sk (c + 1) l:=by unfold sk; split <;> split <;> omega
     rw [this]
   rw [e,← h 0 (by omega)]
   show sg c * A 0 c * det n (mi A (c + 1)) + (- sg c) * A 0 c * det n (mi A (c + 1)) = 0
   grind
  ·have e:det n (mi A j) = 0:=by
    by_cases z:j < c
    ·refine dA (c:=c - 1) (by omega) fun i hi=>?_
     unfold mi
     have e1:sk j (c - 1) = c:=by unfold sk; rw [if_neg (by omega)]; omega
     have e2:sk j (c - 1 + 1) = c + 1:=by unfold sk; rw [if_neg (by omega)]; omega
     rw [e1,e2]
     exact h _ (by omega)
    ·refine dA (c:=c) (by omega) fun i hi=>?_
     unfold mi
     have e1:sk j c = c:=by unfold sk; rw [if_pos (by omega)]
     have e2:sk j (c + 1) = c + 1:=by unfold sk; rw [if_pos (by omega)]
     rw [e1,e2]
     exact h _ (by omega)
   rw [e]; grind
theorem cw {A:Mx} {c d:Nat} (v w:Nat→Rat) (h:c≠d):cl (cl A c v) d w = cl (cl A d w) c v:=by
 funext i j
 unfold cl
 by_cases z:j = d
 ·rw [if_pos z,if_neg (by omega),if_pos z]
 ·rw [if_neg z,if_neg z]
theorem dO (A:Mx) (c:Nat):cl A c (fun i=>A i c) = A:=by
 funext i j
 unfold cl
 split
 ·rename_i e; rw [e]
 ·rfl
theorem fV {n c d:Nat} (hc:c < n) (hd:d < n) (ed:c≠d) (h:∀ (A:Mx),(∀ i,i < n→A i c = A i d)→det n A = 0) (A:Mx) (u w:Nat→Rat) :
  det n (cl (cl A c u) d w) = - det n (cl (cl A c w) d u):=by
 have z:∀ v:Nat→Rat,det n (cl (cl A c v) d v) = 0:=fun v=>h _ fun i _=>by rw [aZ,b4 _ _ ed,aZ]
 have e:det n (cl (cl A c fun i=>1 * u i + 1 * w i) d fun i=>1 * u i + 1 * w i) = 0:=z _
 rw [cg 1 1 _ _ _ hd,cw _ _ ed,cw _ _ ed,cg 1 1 _ _ _ hc,cg 1 1 _ _ _ hc,← cw _ _ ed,← cw _ _ ed,← cw _ _ ed,← cw _ _ ed,z,z] at e
 grind
theorem eD:∀ (k:Nat) {n:Nat} {A:Mx} {c:Nat},c + 1 + k < n→(∀ i,i < n→A i c = A i (c + 1 + k))→det n A = 0
 | 0,n,A,c,hc,h=>dA hc h
 | k + 1,n,A,c,hc,h=>by
  have s:=fV (n:=n) (c:=c + 1 + k) (d:=c + 1 + (k + 1)) (by omega) hc (by omega) (fun B hB=>dA (c:=c + 1 + k) (by omega) hB) A (fun i=>A i (c + 1 + k)) (fun i=>A i (c + 1 + (k + 1)))
  rw [dO] at s
  have e1:cl A (c + 1 + (k + 1)) (fun i=>A i (c + 1 + (k + 1))) = A:=dO A _
  rw [e1] at s
  rw [s,eD k (c:=c) (by omega) fun i hi=>?_]
  ·grind
  ·rw [b4 _ _ (by omega),b4 _ _ (by omega),b4 _ _ (by omega),aZ]
   exact h i hi
theorem cF {n c d:Nat} {A:Mx} (hc:c < n) (hd:d < n) (ed:c≠d) (h:∀ i,i < n→A i c = A i d):det n A = 0:=by
 by_cases z:c < d
 ·obtain ⟨k,rfl⟩:∃ k,d = c + 1 + k:=⟨d - (c + 1),by omega⟩
  exact eD k hd h
 ·obtain ⟨k,rfl⟩:∃ k,c = d + 1 + k:=⟨c - (d + 1),by omega⟩
  exact eD k hc fun i hi=>(h i hi).symm
theorem mC {n c d:Nat} (hc:c < n) (hd:d < n) (ed:c≠d) (A:Mx) (u w:Nat→Rat):det n (cl (cl A c u) d w) = - det n (cl (cl A c w) d u):=
 fV hc hd ed (fun _ h=>cF hc hd ed h) A u w
theorem oN:∀ (n:Nat) (A:Mx),det (n + 1) A = sq (n + 1) fun i=>sg i * A i 0 * det n (fun a b=>A (sk i a) (b + 1))
 | 0,A=>rfl
 | n + 1,A=>by
  rw [aJ,ky,ky (fun i=>sg i * A i 0 * det (n + 1) (fun a b=>A (sk i a) (b + 1)))]
  have e0:mi A 0 = fun a b=>A (sk 0 a) (b + 1):=by
   funext a b
   rfl
  rw [e0]
  congr 1
  have l:∀ j,j < n + 1→sg (j + 1) * A 0 (j + 1) * det (n + 1) (mi A (j + 1)) = sq (n + 1) fun i=>- (sg i * sg j * A 0 (j + 1) * A (i + 1) 0 * det n (fun a b=>A (sk i a + 1) (sk j b + 1))):=fun j hj=>by
   rw [oN n (mi A (j + 1)),← iW]
   refine ck fun i hi=>?_
   have m1:mi A (j + 1) i 0 = A (i + 1) 0:=rfl
   have m2:(fun a b=>mi A (j + 1) (sk i a) (b + 1)) = fun a b=>A (sk i a + 1) (sk j b + 1):=by
    funext a b
    show A (sk i a + 1) (sk (j + 1) (b + 1)) = _
    congr 1
    unfold sk
    split <;> split <;> omega
   rw [m1,m2]
   show (- sg j) * A 0 (j + 1) * (sg i * A (i + 1) 0 * _) = _
   grind
  have r:∀ i,i < n + 1→sg (i + 1) * A (i + 1) 0 * det (n + 1) (fun a b=>A (sk (i + 1) a) (b + 1)) = sq (n + 1) fun j=>- (sg i * sg j * A 0 (j + 1) * A (i + 1) 0 * det n (fun a b=>A (sk i a + 1) (sk j b + 1))):=fun i hi=>by
   rw [aJ,← iW]
   refine ck fun j hj=>?_
   have m1:A (sk (i + 1) 0) (j + 1) = A 0 (j + 1):=rfl
   have m2:mi (fun a b=>A (sk (i + 1) a) (b + 1)) j = fun a b=>A (sk i a + 1) (sk j b + 1):=by
    funext a b
    show A (sk (i + 1) (a + 1)) (sk j b + 1) = _
    congr 1
    unfold sk
    split <;> split <;> omega
   rw [m1,m2]
   show (- sg i) * A (i + 1) 0 * (sg j * A 0 (j + 1) * _) = _
   grind
  rw [ck l,nZ]
  exact (ck r).symm
def tr (A:Mx):Mx:=fun i j=>A j i
theorem jr:∀ (n:Nat) (A:Mx),det n (tr A) = det n A
 | 0,_=>rfl
 | n + 1,A=>by
  rw [oN n A,aJ]
  refine ck fun j hj=>?_
  have e:mi (tr A) j = tr (fun a b=>A (sk j a) (b + 1)):=rfl
  rw [e,jr n]
  rfl
def rl (A:Mx) (k:Nat) (v:Nat→Rat):Mx:=fun i j=>if i = k then v j else A i j
theorem qA (A:Mx) (k:Nat) (v:Nat→Rat):tr (rl A k v) = cl (tr A) k v:=rfl
theorem dm (A:Mx) (k:Nat) (v:Nat→Rat) (j:Nat):rl A k v k j = v j:=if_pos rfl
theorem eH {A:Mx} {k i:Nat} (v:Nat→Rat) (j:Nat) (h:i≠k):rl A k v i j = A i j:=if_neg h
theorem vV (A:Mx) (c:Nat):rl A c (A c) = A:=by
 funext i j
 unfold rl
 split
 ·rename_i e; rw [e]
 ·rfl
theorem tG (a b:Rat) {n:Nat} (A:Mx) {c:Nat} (v w:Nat→Rat) (hc:c < n):det n (rl A c fun j=>a * v j + b * w j) = a * det n (rl A c v) + b * det n (rl A c w):=by
 rw [← jr n (rl A c fun j=>a * v j + b * w j),← jr n (rl A c v),← jr n (rl A c w),qA,qA,qA]
 exact cg a b (tr A) v w hc
theorem qz {n c d:Nat} {A:Mx} (hc:c < n) (hd:d < n) (ed:c≠d) (h:∀ j,j < n→A c j = A d j):det n A = 0:=by
 rw [← jr]
 exact cF hc hd ed h
theorem tH {n c r:Nat} (A:Mx) (b:Rat) (hc:c < n) (hr:r < n) (h:c≠r):det n (rl A c fun j=>A c j + b * A r j) = det n A:=by
 have e:=tG 1 b A (A c) (A r) hc
 have e2:(fun j=>1 * A c j + b * A r j) = fun j=>A c j + b * A r j:=by funext j; grind
 rw [e2,vV,qz (c:=c) (d:=r) (A:=rl A c (A r)) hc hr h fun j _=>by rw [dm,eH _ _ (fun z=>h z.symm)]] at e
 rw [e]
 grind
def pr:Nat→(Nat→Rat)→Rat
 | 0,_=>1
 | n + 1,f=>f 0 * pr n fun i=>f (i + 1)
theorem mE (b:Nat→Rat):∀ (n:Nat) (A:Mx),det n (fun i j=>b i * A i j) = pr n b * det n A
 | 0,_=>by show (1:Rat) = 1 * 1; grind
 | n + 1,A=>by
  rw [aJ,aJ,← iW]
  refine ck fun j hj=>?_
  have e:mi (fun i j=>b i * A i j) j = fun i l=>b (i + 1) * mi A j i l:=rfl
  rw [e,mE (fun i=>b (i + 1)) n (mi A j)]
  show sg j * (b 0 * A 0 j) * (pr n (fun i=>b (i + 1)) * det n (mi A j)) = b 0 * pr n (fun i=>b (i + 1)) * (sg j * A 0 j * det n (mi A j))
  grind
theorem og:∀ j,((Dt.sg j:Int):Rat) = sg j
 | 0=>rfl
 | j + 1=>by show ((- Dt.sg j:Int):Rat) = - sg j; rw [Rat.intCast_neg,og j]
theorem gv:∀ (n:Nat) (A:Dt.Mx),((Dt.det n A:Int):Rat) = det n fun i j=>(A i j:Rat)
 | 0,_=>rfl
 | n + 1,A=>by
  rw [Dt.aJ,kz,aJ]
  refine ck fun j hj=>?_
  rw [Rat.intCast_mul,Rat.intCast_mul,og,gv n (Dt.mi A j)]
  rfl
theorem oK {n c r:Nat} (A:Dt.Mx) (hc:c < r) (hr:r < n):Dt.det n (Dt.rl A c fun j=>A c j + A r j) = Dt.det n A:=by
 refine Rat.intCast_inj.mp ?_
 rw [gv,gv,← tH (fun i j=>(A i j:Rat)) 1 (show c < n by omega) hr (by omega)]
 refine congrArg (det n) ?_
 funext i j
 unfold Dt.rl rl
 split
 ·rw [Rat.intCast_add]; grind
 ·rfl
end Dq
end
section
namespace L2
open PySem PySem.Spec PySem.W PySem.Calls PyProof.Rows
def EK (K:Frag) (M:Addr) (ts:TS) (D:Ends) (σ : St):XK:=fun cls _ H'=>∃ C,cls = .ref C∧exmOne K (.ref C) (.ref M) = some true∧ts D σ H'
theorem sD {X:Cx} {x:Str} {M:Addr} {b₀ : Stmt} {eN:List Stmt} {ts:TS} {np pos:Pos} (hb:Body X) (hm:X.mg x = some (.ref M))
  (hs:∀ a,lJ (X.marked a) (b₀ :: eN) ts) (hg:Gl X x:=by rfl) (lu:(x == ("__debug__" : Str)) = false:=by decide)
  {pins:List (Addr×Obj)} {σ : St} {D:Ends} {e:Value} {s':Shared} (h:EX X pins σ (EK X.K M ts D σ) e s') :
  wpAny (model X.prog X.w) X.A (noteFrame e X.env) (fun _ s2=>wpAny (model X.prog X.w) X.A (setFlight e none) (fun _ s3=>
   wpAny (model X.prog X.w) X.A (handleBy e X.env [.ExceptHandler (some (.Name x np)) none (b₀ :: eN) pos]) (SP X pins D) X.xe s3) X.xe s2) X.xe s':=by
 obtain ⟨a,cls,H',s0,H0,rfl,I0,F,C,rfl,hx,q⟩:=h
 obtain ⟨B,a0,lB,xE,ct⟩:=F.lB
 have I':=F.inv I0
 have mq:X.A.frames = some (X.env :: X.outer):=by rw [← hb.lT]; exact I0.ok.frames
 have c0:ko B (eC X.stack) X.s₀.heap:=fun b o e n=>by
  obtain ⟨o',z⟩:=I0.base.there b o e (by rw [hb.ex]; simp)
  exact xE b o' z n
 have cp:∀ p∈X.pn ++ pins,∃ ob,B.get? p.1 = some ob:=fun p hp=>by
  obtain ⟨e,nn,ne,nf,d⟩:=I0.pin p hp
  refine xE _ _ e fun z=>?_
  rcases List.mem_cons.mp (I0.dD _ z) with r | r
  ·exact ne r
  ·exact nf r
 rw [hb.lT] at lB
 refine wpAny_looks_onW mq hb.fr lB fun h4 rW yn=>?_
 refine wpAny_landsW rW fun h5 nO ym=>?_
 have J5:Inv X pins σ H' { s' with heap:=h5,toks:=s'.toks }:=Inv.kc I' hb.ex lB.1 nO.1 c0 ct cp (yn.trans ym)
 obtain ⟨ob,zl,xi⟩:=nO.there
 have ty:Looks (model X.prog X.w) h5 (typeOf (.ref a)) (.ref C):=xi▸(Looks.ld zl).andThen .now
 refine wpAny_handleBy_cons (codeAny_handlers_test (fe (X:=X.marked a) J5.mark hg hm ?_ lu)) (by intro z; cases z)
 refine (exm_one J5.jO ty hx).at ?_
 refine codeAny_handlers_suite ?_
 refine lands_againW (s:={ s' with heap:=h5 }) nO fun h6 ug By=>?_
 have J6:Inv X pins σ H' { s' with heap:=h6,toks:=s'.toks }:=Inv.kc I' hb.ex lB.1 ug.1 c0 ct cp ((yn.trans ym).trans By)
 refine wpAny_mono (hs a pins _ _ _ _ J6.mark q) (fun f s9 z=>?_) fun _ _ z=>False.elim z
 cases f with
 | next=>
  obtain ⟨σ',H2,J9,r⟩:=z
  exact ⟨_,H2,J9.unmark J6.ok,r⟩
 | brk=>
  obtain ⟨σ',H2,J9,r⟩:=z
  exact ⟨_,H2,J9.unmark J6.ok,r⟩
 | cont=>
  obtain ⟨σ',H2,J9,r⟩:=z
  exact ⟨_,H2,J9.unmark J6.ok,r⟩
 | ret u=>
  obtain ⟨v,σ',H2,J9,rv,r⟩:=z
  exact ⟨v,_,H2,J9.unmark J6.ok,rv,r⟩
def p9 (K:Frag) (sp:Sp) (ta:TA) (i:Nat) (M:Addr) (ts:TS):TS:=fun D σ H=>ta σ H fun vs H1=>sp (vs ++ []) H1 (fun v H2=>D.nx (σ.set i (some v)) H2) (EK K M ts D σ)
theorem qZ {X:Cx} {k j i:Nat} {ps:List Str} {sp:Sp} {f x y:Str} {p1 p2 p3 py:Pos} {e:Expr} {es:List Expr} {ta:TA} {M:Addr} {b₀ : Stmt} {eN:List Stmt} {ts:TS} {np jh pos:Pos}
  (h:b6 X.prog X.w X.K X.mg X.base (bH X.prog X.w) f k ps sp) (hr:dQ j X.A) (ha:PA X.sW (e :: es) ta) (hb:Body X) (hm:X.mg x = some (.ref M)) (hN:X.N.Nodup) (hi:X.N[i]? = some y) (hl:X.env.scope.names.lookup y = some .local)
  (hs:∀ a,lJ (X.marked a) (b₀ :: eN) ts) (hk:k≤j:=by decide) (Ew:Gl X f:=by rfl) (uf:(f == ("__debug__" : Str)) = false:=by decide)
  (he:starEach (e :: es) X.env = (false,eval e X.env) :: starEach es X.env:=by rfl) (jF:(backTo p2 (starEach es X.env)).any (·.1) = false:=by rfl)
  (hg:Gl X x:=by rfl) (lu:(x == ("__debug__" : Str)) = false:=by decide) (zc:swapsWith (.Call (.Name f p1) (e :: es) [] p2) (some (.Name y py)) p3.line X.env = pure false:=by rfl) :
  PS X (.Try [.Assign [.Name y py] (.Call (.Name f p1) (e :: es) [] p2) p3] [.ExceptHandler (some (.Name x np)) none (b₀ :: eN) jh] [] [] pos) (p9 X.K sp ta i M ts):=by
 intro pins s σ H D I hw
 refine wpAny_Try_except ?_
 refine wpAny_execs_cons (wpAny_Assign_Name (wpAny_mono (vz h hr ha hk Ew uf he jF I hw) (fun v s1 z=>?_) fun ev s1 z=>?_) zc)
 ·obtain ⟨u,H1,I1,r1,q1⟩:=z
  exact d9 I1 hN hi (.inl hl) r1 (fun s2 I2=>wpAny_execs_nil (wpAny_execs_nil ⟨_,H1,I2,q1⟩)) (.inr hl)
 ·exact sD hb hm hs hg lu z
end L2
end
section
namespace L2
open PySem
theorem kM {K:PySem.W.Frag} {sp:Sp} {ta:TA} {i:Nat} {M:Addr} {ts:TS} {D:Ends} {σ : St} {H:Hp} (h:ta σ H fun vs H1=>sp (vs ++ []) H1 (fun v H2=>D.nx (σ.set i (some v)) H2) (EK K M ts D σ)):p9 K sp ta i M ts D σ H:=h
end L2
namespace Dt
open PySem L2 Fr Gm
def jE (fs:List (Int×Int)):Int:=fs.foldl (fun b f=>b / ((Int.gcd b f.2:Nat):Int) * f.2) 1
theorem rO (fs:List (Int×Int)) (f:Int×Int):jE (fs ++ [f]) = jE fs / ((Int.gcd (jE fs) f.2:Nat):Int) * f.2:=by
 unfold jE
 rw [List.foldl_append]
 rfl
def pz:Nat→(Nat→Int)→Int
 | 0,_=>1
 | n + 1,f=>f 0 * pz n fun i=>f (i + 1)
theorem ox:∀ (n:Nat) (f:Nat→Int),((pz n f:Int):Rat) = Dq.pr n fun i=>(f i:Rat)
 | 0,_=>rfl
 | n + 1,f=>by
  show ((f 0 * pz n (fun i=>f (i + 1)):Int):Rat) = (f 0:Rat) * Dq.pr n fun i=>(f (i + 1):Rat)
  rw [Rat.intCast_mul,ox n]
theorem gb:∀ (n:Nat) (f:Nat→Int),pz (n + 1) f = pz n f * f n
 | 0,f=>by show f 0 * 1 = 1 * f 0; omega
 | n + 1,f=>by
  show f 0 * pz (n + 1) (fun i=>f (i + 1)) = f 0 * pz n (fun i=>f (i + 1)) * f (n + 1)
  rw [gb n (fun i=>f (i + 1))]
  grind
def dq (n:Nat) (R:List (List (Int×Int))):Rat:=Dq.det n fun i j=>fa (R.getD i []) j
theorem mB {n:Nat} {R:List (List (Int×Int))} {L:List (List Int)} {b:Nat→Int} (h:∀ i j,i < n→j < n→(mx L i j:Rat) = fa (R.getD i []) j * (b i:Rat)):((det n (mx L):Int):Rat) = ((pz n b:Int):Rat) * dq n R:=by
 rw [Dq.gv,ox]
 unfold dq
 rw [← Dq.mE]
 exact Dq.bK fun i j hi hj=>by rw [h i j hi hj]; grind
theorem Cd.value {n M:Nat} {A0 W A:Mx} {d:Int} (c:Cd n n M n n A0 W d A) (h0:0 < n):W 0 0 = det n A0:=by
 rw [c.ba.done h0 h0,if_pos rfl,c.ba.dt]
 exact c.dt (det n) fun B k r hk hr=>Dq.oK B hk hr
theorem mD {n:Nat} {A:Mx} {u:Nat→Int} (k:vE n n A u) {l:Nat} (hl:l < n) (h:u l≠0):det n A = 0:=
 (Int.mul_eq_zero.mp (oM k hl)).resolve_left h
def uG (n m:Nat) (A:Mx):Prop:=∃ u:Nat→Int,(∀ l,n≤l→u l = 0)∧vE n m A u∧∃ l,l < n∧u l≠0
theorem Cd.qv {n m M k t:Nat} {A0 W A:Mx} {d:Int} (c:Cd n m M k t A0 W d A) (hk:k < n) (hm:n≤m) (h:∀ r,k≤r→r < n→W r k = 0):uG n m A0:=by
 have s:=c.ba.stuck (n:=n) (m:=m) (by omega) h
 refine ⟨_,fun l hl=>by rw [if_neg (by omega),if_neg (by omega)],(c.vg _).mp s,k,hk,?_⟩
 rw [if_neg (by omega),if_pos rfl]
 have:=c.ba.ne
 omega
end Dt
end
section
namespace L2
open PySem PySem.Spec PySem.W PySem.Calls PyProof.Rows
def Cx.cS (X:Cx) (scope:Scope) (x:Str) (cl:List (Str×Addr)) (C:Addr) (N:List Str) (fp:List Addr) (pins:List (Addr×Obj)) (s:Shared) (H:Hp):Cx:=
 { X with N:=N,s₀:=s,H₀:=H,env:=compEnvC scope ((x,C + 1) :: cl) C X.env,outer:=X.stack,ex:=fp,fn:=fun y=>y == x,pn:=X.pn ++ pins,xe:=fun _ _=>False }
structure jC (X:Cx) (scope:Scope) (x:Str) (cl:List (Str×Addr)) (tg:List Str) (fr:List (Str×Nat)):Prop where
 kind:scope.kind = .function
 laid:∀ n,cellsFrom n scope.names cl = (x,n) :: cl
 push:∀ h:Heap,pushCells h scope.names = h.push { cls:=.type "cell",data:=.cell none }
 names:∀ y∈scope.names,y.2 = .local→scope.names.lookup y.1 = some .local
 uw:closureFor scope X.env = pure cl
 mO:AllIn X.env.cells cl
 has:((relabel scope X.env).names.all fun p=>!(p.2 == .cell || p.2 == .free) || (p.1 == x || (cl.lookup p.1).isSome)) = true
 ES:∀ p∈fr,X.N[p.2]? = some p.1∧Aj X.env.scope p.1∧((p.1 == x) = false∧(cl.lookup p.1).isSome = true)∧(relabel scope X.env).names.lookup p.1 = some .cell
 A5:∀ p∈fr,X.env.kindOf p.1 = some .cell
theorem je {x y:Str} {C c:Addr} {cl:List (Str×Addr)} (e:((x,C + 1) :: cl).lookup y = some c):(y = x∧c = C + 1)∨cl.lookup y = some c:=by
 rw [List.lookup_cons] at e
 cases q:y == x with
 | true=>
  rw [q] at e; cases e
  exact .inl ⟨by simpa using q,rfl⟩
 | false=>rw [q] at e; exact .inr e
section
variable {X:Cx} {pins:List (Addr×Obj)} {σ : St} {H:Hp} {s:Shared} {scope:Scope} {x:Str} {cl:List (Str×Addr)} {tg:List Str} {fr:List (Str×Nat)}
theorem lI {C:Addr} {fp:List Addr} {h':Heap} {t':Nat} {m:Str→Option Value} (B:jC X scope x cl tg fr) (I:Inv X pins σ H s) (hf:∀ b∈fp,iH X pins H b∧b < s.heap.objs.size) (hC:s.heap.objs.size≤C) (hn:h'.Ns C m) (k:∀ b o,s.heap.get? b = some o→h'.get? b = some o)
  {H2:Hp} (hu:Un (eC X.stack) fp H H2 s.heap h') (bJ:fT X.prog X.w H2 h') (j9:H2 C = none) (EF:h'.IsCell (C + 1) none) (LG:H2 (C + 1) = none) :
  Inv (X.cS scope x cl C (tg ++ fr.map (·.1)) fp pins s H) [] (cZ tg.length (fr.map (·.2)) σ) H2 { s with heap:=h',toks:=t' }:=by
 have cells:∀ {x c},cl.lookup x = some c→X.env.cells.lookup x = some c:=fun e=>B.mO.get e
 have cC:∀ x c,X.env.cells.lookup x = some c→c≠C:=fun x c e z=>by
  obtain ⟨v,o,ho,_⟩:=I.cell x c e
  exact absurd (Nat.lt_of_lt_of_le (Heap.lt_size ho) hC) (by rw [z]; exact Nat.lt_irrefl _)
 have cellK:∀ {c v},s.heap.IsCell c v→h'.IsCell c v:=fun {c v} ⟨o,e,d⟩=>⟨o,k c o e,d⟩
 have mI:∀ x c,X.env.cells.lookup x = some c→c∉fp∧H2 c = none:=fun x c e=>by
  have nf:c∉fp:=fun z=>(hf c z).1.2.2.2.2.1 x c e rfl
  obtain ⟨v,o,ho,_⟩:=I.cell x c e
  exact ⟨nf,hu.free c o ho (I.dk x c e) nf⟩
 have wt:∀ p∈X.pn ++ pins,p.1∉fp∧H2 p.1 = none:=fun p hp=>by
  have nf:p.1∉fp:=fun z=>(hf p.1 z).1.2.2.2.2.2 p hp rfl
  obtain ⟨e,n,_⟩:=I.pin p hp
  exact ⟨nf,hu.free p.1 _ e n nf⟩
 have Ha:∀ y c,cl.lookup y = some c→c≠C + 1:=fun y c e z=>by
  obtain ⟨v,o,ho,_⟩:=I.cell y c (cells e)
  exact absurd (Nat.lt_of_lt_of_le (Heap.lt_size ho) (Nat.le_succ_of_le hC)) (by rw [z]; exact Nat.lt_irrefl _)
 have BN:∀ b∈eC X.stack,b < s.heap.objs.size:=fun b hb=>by
  obtain ⟨_,o,ho,_⟩:=I.stack.mem hb
  exact Heap.lt_size ho
 refine ⟨⟨I.ok.mod,B.kind,I.ok.glob,I.ok.blt,hC,fun y z c h1 h2=>?_,fun y hx=>?_,fun y c hz h1=>?_,I.ok.hd,I.ok.frames,.inl rfl,fun b hb=>?_,fun b o e=>⟨?_,?_⟩,?_,fun b o e z=>?_,fun b hb z=>?_,I.stack,I.iJ⟩,
  rfl,I.bare,hu,⟨m,hn,fun i y v h1 h2 h3=>?_⟩,fun y c e=>?_,j9,fun y c e=>?_,fun p hp=>?_,bJ,?_⟩
 ·rcases je h1 with ⟨e1,e2⟩ | e1
  ·rcases je h2 with ⟨e3,e4⟩ | e3
   ·rw [e1,e3]
   ·exact absurd e2 (Ha z c e3)
  ·rcases je h2 with ⟨e3,e4⟩ | e3
   ·exact absurd e4 (Ha y c e1)
   ·exact I.ok.inj y z c (cells e1) (cells e3)
 ·have e:(relabel scope X.env).names.lookup y = some .cell∨(relabel scope X.env).names.lookup y = some .free:=hx
  have mem:∃ kk,(y,kk)∈(relabel scope X.env).names∧(kk == NameKind.cell || kk == NameKind.free) = true:=by
   rcases e with e | e
   ·exact ⟨_,lookup_mem e,rfl⟩
   ·exact ⟨_,lookup_mem e,rfl⟩
  obtain ⟨kk,mm,hk⟩:=mem
  have z:=List.all_eq_true.mp B.has _ mm
  simp only [hk,Bool.not_true,Bool.false_or] at z
  show ∃ c,((x,C + 1) :: cl).lookup y = some c
  rw [List.lookup_cons]
  cases q:y == x with
  | true=>exact ⟨_,rfl⟩
  | false=>
   rw [q,Bool.false_or] at z
   exact Option.isSome_iff_exists.mp z
 ·have hy:y = x:=by simpa using (show (y == x) = true from hz)
  subst hy
  have oD:((y,C + 1) :: cl).lookup y = some c:=h1
  rw [List.lookup_cons,beq_self_eq_true] at oD
  cases oD
  exact Nat.le_succ_of_le hC
 ·exact ⟨fun z=>absurd (Nat.lt_of_lt_of_le (hf b hb).2 hC) (by rw [z]; exact Nat.lt_irrefl _),fun y c e=>by
   rcases je e with ⟨_,e2⟩ | e2
   ·rw [e2]; exact Nat.ne_of_gt (Nat.lt_succ_of_lt (Nat.lt_of_lt_of_le (hf b hb).2 hC))
   ·exact fun z=>(mI y c (cells e2)).1 (z▸hb)⟩
 ·exact (I.bs b o e).1
 ·exact (I.bs b o e).2
 ·exact Nat.le_trans I.ok.uD I.sz
 ·rcases (hf b z).1.2.2.2.1 with q | q
  ·exact I.ok.nC b o e q
  ·exact absurd (Nat.lt_of_lt_of_le (Heap.lt_size (I.ok.bs b o e).1) q) (Nat.lt_irrefl _)
 ·have z':b∈eC X.stack:=z
  rcases List.mem_cons.mp (I.dD b z') with q | q
  ·exact (hf b hb).1.2.1 q
  ·exact (hf b hb).1.2.2.1 q
 ·have hi:tg.length≤i:=by
   refine Nat.le_of_not_lt fun z=>?_
   unfold cZ at h2
   rw [List.getElem?_append_left (by simpa using z),List.getElem?_replicate,if_pos z] at h2
   cases h2
  have oD:(fr.map (·.1))[i - tg.length]? = some y:=by
   have z:(tg ++ fr.map (·.1))[i]? = some y:=h1
   rw [List.getElem?_append_right hi] at z
   exact z
  have rX:((fr.map (·.2)).map fun i=>(σ[i]?).join)[i - tg.length]? = some (some v):=by
   unfold cZ at h2
   rw [List.getElem?_append_right (by simpa using hi)] at h2
   simpa using h2
  rw [List.getElem?_map] at oD
  rw [List.getElem?_map,List.getElem?_map] at rX
  cases q:fr[i - tg.length]? with
  | none=>rw [q] at oD; cases oD
  | some p=>
   rw [q] at oD rX
   have ex:p.1 = y:=Option.some.inj oD
   have ev:(σ[p.2]?).join = some v:=Option.some.inj rX
   subst ex
   obtain ⟨f1,f2,⟨f0,f3⟩,f4⟩:=B.ES p (List.mem_of_getElem? q)
   have eσ : σ[p.2]? = some (some v):=by
    cases z : σ[p.2]? with
    | none=>rw [z] at ev; cases ev
    | some w'=>rw [z] at ev; exact congrArg some ev
   obtain ⟨m0,zo,Ep⟩:=I.loc
   obtain ⟨u,r,l⟩:=Ep p.2 p.1 v f1 eσ f2
   refine ⟨u,r,?_⟩
   obtain ⟨c,hc⟩:=Option.isSome_iff_exists.mp f3
   have hk:=B.A5 p (List.mem_of_getElem? q)
   rcases l with ⟨kl,_⟩ | ⟨_,c',yd,z⟩
   ·rw [hk] at kl; cases kl
   ·have e':=cells hc
    rw [yd] at e'
    cases e'
    exact .inr ⟨.inl f4,c,by show ((x,C + 1) :: cl).lookup p.1 = some c; rw [List.lookup_cons,f0]; exact hc,cellK z⟩
 ·rcases je e with ⟨_,e2⟩ | e2
  ·rw [e2]; exact ⟨_,EF⟩
  ·obtain ⟨v,z⟩:=I.cell y c (cells e2)
   exact ⟨v,cellK z⟩
 ·rcases je e with ⟨_,e2⟩ | e2
  ·rw [e2]; exact LG
  ·exact (mI y c (cells e2)).2
 ·rw [List.append_nil] at hp
  obtain ⟨e,n,ne,nf,d⟩:=I.pin p hp
  refine ⟨k _ _ e,(wt p hp).2,fun z=>absurd (Nat.lt_of_lt_of_le (Heap.lt_size e) hC) (by rw [z]; exact Nat.lt_irrefl _),fun z=>?_,d⟩
  rcases List.mem_cons.mp (I.dD _ z) with q | q
  ·exact ne q
  ·exact nf q
 ·unfold cZ
  show _ = (tg ++ fr.map (·.1)).length
  simp
end
theorem tV {M:Model} {A:Around} {E:Value→Shared→Prop} {s:Shared} {scope:Scope} {globals:Addr} {x:Str} {cl:List (Str×Addr)} {qual:Str} {env:Env} {Q:Env→Shared→Prop}
  (laid:∀ n,cellsFrom n scope.names cl = (x,n) :: cl) (push:∀ h:Heap,pushCells h scope.names = h.push { cls:=.type "cell",data:=.cell none })
  (hQ:Q (newEnv scope s.heap.objs.size globals ((x,s.heap.objs.size + 1) :: cl) qual none .none (some env) builtinsNs) { s with heap:=(s.heap.push { cls:=.type "dict",data:=.dict #[] }).push { cls:=.type "cell",data:=.cell none } }) :
  wpAny M A (newFunctionEnv scope globals cl [] qual none .none (some env)) Q E s:=by
 simp only [newFunctionEnv,Option.isSome_some,if_true]
 refine wpAny_bind (wpAny_alloc ?_)
 refine wpAny_bind (wpAny_layCells _ (fun name kind cells=>by cases Ls:kind == NameKind.cell <;> simp [Ls]) _ _ _ _ ?_)
 rw [push,laid]
 rw [show ({ s with heap:=s.heap.push { cls:=.type "dict",data:=.dict #[] } }:Shared).heap.objs.size = s.heap.objs.size + 1 from Heap.size_push ..]
 refine wpAny_bind ?_
 rw [List.forIn_nil]
 exact wpAny_pure (wpAny_pure hQ)
section
variable {X:Cx} {scope:Scope} {x0:Str} {cl:List (Str×Addr)} {tg:List Str} {fr:List (Str×Nat)} {elt target iter:Expr} {ifs:List Expr} {wi:TI} {g:TG} {tt:TT} {te:TE} {pos:Pos}
theorem nQ (B:jC X scope x0 cl tg fr) (hc:X.calm = true) (hi:PI X target iter wi)
  (hg:∀ C fp pins s H,PG (X.cS scope x0 cl C (tg ++ fr.map (·.1)) fp pins s H) target g) (ht:∀ C fp pins s H,pQ (X.cS scope x0 cl C (tg ++ fr.map (·.1)) fp pins s H) ifs tt) (he:∀ C fp pins s H,PE (X.cS scope x0 cl C (tg ++ fr.map (·.1)) fp pins s H) elt te)
  {pins:List (Addr×Obj)} {σ : St} {H:Hp} {s:Shared} {Q:VK} (I:Inv X pins σ H s) (hw:iV wi g tt te tg.length (fr.map (·.2)) σ H Q) {RR:Value→Addr→Result→Shared→Prop}
  (EJ:∀ D C s1 H5 m,Inv X pins σ H5 s1→s1.heap.Ns C m→H5 C = none→C≠X.env.locals→X.s₀.heap.objs.size≤C→(∀ x c,X.env.cells.lookup x = some c→c≠C)→(∀ p∈X.pn ++ pins,p.1≠C)→Q (.ref D) H5→RR (.ref D) C (.ok .next) s1) :
  wpAny (model X.prog X.w) X.A (eval iter X.env) (fun xv s1=>wpAny (model X.prog X.w) X.A (pyIter xv) (fun it s2=>wpAny (model X.prog X.w) X.A (newList []) (fun acc s3=>
   wpAny (model X.prog X.w) X.A (newFunctionEnv scope X.env.globals cl [] X.env.qual none .none (some X.env)) (fun sF s4=>
    codeAny (model X.prog X.w) X.A (.compStart (.ListComp elt [⟨target,iter,ifs,0⟩] scope pos) 0 it acc { sF with scope:=relabel scope X.env }) (RR acc sF.locals) s4) X.xe s3) X.xe s2) X.xe s1) X.xe s:=by
 refine wpAny_mono (hi pins s σ H _ I hw) (fun xv s1 h1=>wpAny_mono h1 (fun AR s2 h2=>?_) fun _ _ z=>z) fun _ _ z=>z
 obtain ⟨it,fp,tn,J,H1,rfl,I2,T,vJ,f2,y8⟩:=h2
 have nP:∀ b∈fp,b < s2.heap.objs.size:=fun b hb=>by
  obtain ⟨o,e,_⟩:=T.obj _ _ vJ b hb
  exact Heap.lt_size e
 refine wpAny_newObj_type (tV B.laid B.push ?_)
 dsimp only
 generalize hP:s2.heap.push { cls:=.type "list",dict:=none,data:=.seq ([]:List Value).toArray } = hp
 have hC:hp.objs.size = s2.heap.objs.size + 1:=by rw [← hP,Heap.size_push]
 have dh:s2.heap.objs.size < hp.objs.size:=by rw [hC]; exact Nat.lt_succ_self _
 generalize A4:(hp.push { cls:=.type "dict",data:=.dict #[] }).push { cls:=.type "cell",data:=.cell none } = h3
 have k3:∀ b o,s2.heap.get? b = some o→h3.get? b = some o:=fun b o e=>by
  rw [← A4]
  exact Heap.get?_push_of_some _ (Heap.get?_push_of_some _ (hP▸Heap.get?_push_of_some _ e))
 have vp:h3.Ns hp.objs.size (fun _=>none):=by
  rw [← A4]
  exact (Heap.Ns.new hp (.type "dict")).keeps fun b o e=>Heap.get?_push_of_some _ e
 have EF:h3.IsCell (hp.objs.size + 1) none:=by
  rw [← A4]
  have e:(hp.push { cls:=.type "dict",data:=.dict #[] }).objs.size = hp.objs.size + 1:=Heap.size_push ..
  exact ⟨{ cls:=.type "cell",data:=.cell none },by rw [← e]; exact Heap.get?_push_size _ rfl,rfl⟩
 have hD:H1 s2.heap.objs.size = none:=I2.bJ.fresh (Nat.le_refl _)
 have cJ:h3.get? s2.heap.objs.size = some { cls:=.type "list",dict:=none,data:=.seq ([]:List Value).toArray }:=by
  rw [← A4]
  exact Heap.get?_push_of_some _ (Heap.get?_push_of_some _ (hP▸Heap.get?_push_size _ rfl))
 obtain ⟨W,⟨m0,w0⟩,turn⟩:=y8 _ hD
 have Bz:Un (eC X.stack) fp H1 (upd H1 s2.heap.objs.size (.lst [])) s2.heap h3:=Un.laid k3 (Nat.le_refl _) hD
 have CP:fT X.prog X.w (upd H1 s2.heap.objs.size (.lst [])) h3:=I2.bJ.laid k3 (Nat.le_refl _) ⟨Nat.zero_le _,[],0,.nil,cJ⟩
 have fC:upd H1 s2.heap.objs.size (.lst []) hp.objs.size = none:=by rw [av (Nat.ne_of_gt dh)]; exact I2.bJ.fresh (Nat.le_of_lt dh)
 have L5:upd H1 s2.heap.objs.size (.lst []) (hp.objs.size + 1) = none:=by rw [av (Nat.ne_of_gt (Nat.lt_succ_of_lt dh))]; exact I2.bJ.fresh (Nat.le_succ_of_le (Nat.le_of_lt dh))
 have DB:=I2.lt
 have nL:hp.objs.size≠X.env.locals:=Nat.ne_of_gt (Nat.lt_trans DB dh)
 have B8:X.s₀.heap.objs.size≤hp.objs.size:=Nat.le_trans I2.sz (Nat.le_of_lt dh)
 have cC:∀ x c,X.env.cells.lookup x = some c→c≠hp.objs.size:=fun x c e z=>by
  obtain ⟨v,o,ho,_⟩:=I2.cell x c e
  exact absurd (Nat.lt_trans (Heap.lt_size ho) dh) (by rw [z]; exact Nat.lt_irrefl _)
 have pC:∀ p∈X.pn ++ pins,p.1≠hp.objs.size:=fun p xf z=>by
  exact absurd (Nat.lt_trans (Heap.lt_size (I2.pin p xf).1) dh) (by rw [z]; exact Nat.lt_irrefl _)
 have J0:=lI (t':=s2.toks) B I2 (fun b hb=>⟨f2 b hb,nP b hb⟩) (Nat.le_of_lt dh) vp k3 Bz CP fC EF L5
 have xA:∀ {H':Hp} {pl:List (Addr×Obj)},(∀ b∈fp,H' b = none)→(∀ p∈pl,p.1∉fp)→∀ b∈fp,iH (X.cS scope x0 cl hp.objs.size (tg ++ fr.map (·.1)) fp pins s2 H1) pl H' b:=fun hn jF b hb=>by
  obtain ⟨g0,g1,g2,g3,g4,g5⟩:=f2 b hb
  refine ⟨hn b hb,fun z=>?_,fun z=>?_,.inl hb,fun y c e=>?_,fun p xf z=>?_⟩
  ·have z':b = hp.objs.size:=z
   exact absurd (Nat.lt_trans (nP b hb) dh) (by rw [z']; exact Nat.lt_irrefl _)
  ·rcases List.mem_cons.mp (I2.dD b z) with q | q
   ·exact g1 q
   ·exact g2 q
  ·rcases je e with ⟨_,e2⟩ | e2
   ·rw [e2]; exact Nat.ne_of_gt (Nat.lt_trans (nP b hb) (Nat.lt_succ_of_lt dh))
   ·exact g4 y c (B.mO.get e2)
  ·rcases List.mem_append.mp xf with q | q
   ·exact g5 p q z
   ·exact jF p q (z▸hb)
 have loop:∀ s3:Shared,s3 = { s2 with heap:=h3,toks:=s2.toks }→
   codeAny (model X.prog X.w) X.A (.compLoop (.ListComp elt [⟨target,iter,ifs,0⟩] scope pos) 0 (.ref it) (.ref s2.heap.objs.size) (compEnvC scope ((x0,hp.objs.size + 1) :: cl) hp.objs.size X.env)) (RR (.ref s2.heap.objs.size) hp.objs.size) s3:=by
  rintro s3 rfl
  refine ke (fun n s'=>∃ i σ' ys H5,Inv (X.cS scope x0 cl hp.objs.size (tg ++ fr.map (·.1)) fp pins s2 H1) [] σ' H5 s'∧tn i s'.heap∧(∀ b∈fp,H5 b = none)∧W i n σ' ys H5) ?_ m0
   ⟨0,_,[],_,J0,T.keep _ _ _ vJ fun b hb o e=>k3 b o e,fun b hb=>?_,w0⟩
  ·rintro n s' ⟨i,σ',ys,H5,J5,t5,f5,w5⟩
   rcases turn i n σ' ys H5 w5 with ⟨stop,q⟩ | ⟨go,step⟩
   ·refine wpAny_mono (T.done (X.cS scope x0 cl hp.objs.size (tg ++ fr.map (·.1)) fp pins s2 H1) rfl rfl rfl hc i [] s' σ' H5 (fun _ _=>False) J5 (xA f5 (by simp)) t5 stop) (fun r s6 ⟨hr,J6⟩=>?_) fun _ _ z=>z
    subst hr
    obtain ⟨m6,Ej,_⟩:=J6.loc
    exact EJ _ _ _ H5 m6 (I2.sH (ch:=fp) J6.os J6.base J6.bJ J6.bare fun b hb=>by obtain ⟨g0,g1,g2,g3,g4,g5⟩:=f2 b hb; exact ⟨g3,g1,g4,g5⟩) Ej J6.free nL B8 cC pC q
   ·refine wpAny_mono (T.item (X.cS scope x0 cl hp.objs.size (tg ++ fr.map (·.1)) fp pins s2 H1) rfl rfl rfl hc i [] s' σ' H5 (fun _ _=>False) J5 (xA f5 (by simp)) t5 go) (fun r s6 ⟨u,hr,h6⟩=>?_) fun _ _ z=>z
    subst hr
    refine wpAny_mono h6 (fun _ s7 ⟨x,H7,J7,r7,y7,t7,f7⟩=>?_) fun _ _ z=>z
    have Gd:=J7.pinned (xA f7 (by simp)) (T.obj _ _ t7)
    have again:∀ {σ8:St} {H8:Hp} {s8:Shared} {tw:List V},Inv (X.cS scope x0 cl hp.objs.size (tg ++ fr.map (·.1)) fp pins s2 H1) ([] ++ gW fp s7.heap) σ8 H8 s8→(∃ m',m' < n∧W (i + 1) m' σ8 tw H8)→
      ∃ m',m' < n∧∃ i σ' ys H5,Inv (X.cS scope x0 cl hp.objs.size (tg ++ fr.map (·.1)) fp pins s2 H1) [] σ' H5 s8∧tn i s8.heap∧(∀ b∈fp,H5 b = none)∧W i m' σ' ys H5:=fun {σ8 H8 s8 tw} J8 ⟨m',hm,w8⟩=>by
     refine ⟨m',hm,i + 1,σ8,tw,H8,J8.eM,T.keep _ _ _ t7 fun b hb o e=>(J8.pin (b,o) (List.mem_append_right _ (List.mem_append_right _ (cV hb e)))).1,fun b hb=>?_,w8⟩
     obtain ⟨o,e,d⟩:=T.obj _ _ t7 b hb
     exact (J8.pin (b,o) (List.mem_append_right _ (List.mem_append_right _ (cV hb e)))).2.1
    refine wpAny_mono (hg _ _ _ _ _ _ s7 σ' H7 x u _ Gd r7 (step x H7 y7)) (fun _ s8 ⟨σ8,H8,J8,q8⟩=>?_) fun _ _ z=>z
    refine wpAny_mono (ht _ _ _ _ _ _ s8 σ8 H8 _ J8 q8) (fun b s9 ⟨H9,J9,q9⟩=>?_) fun _ _ z=>z
    cases b with
    | false=>
     rw [if_neg Bool.false_ne_true] at q9 ⊢
     exact again J9 q9
    | true=>
     rw [if_pos rfl] at q9 ⊢
     refine wpAny_mono (he _ _ _ _ _ _ s9 σ8 H9 _ J9 q9) (fun y vS ⟨v,vF,sT,Cq,xt,xj,Cs⟩=>?_) fun _ _ z=>z
     refine wpAny_mono (j8 (X:=X.cS scope x0 cl hp.objs.size (tg ++ fr.map (·.1)) fp pins s2 H1) _ vS σ8 vF (.ref s2.heap.objs.size) [v] (.ref s2.heap.objs.size) [y] (fun _ tm=>∃ m',m' < n∧W (i + 1) m' σ8 (ys ++ [v]) tm) sT rfl (.cons Cq .nil) ⟨_,ys,v,rfl,rfl,xt,xj,Cs⟩) (fun _ Jq ⟨_,tm,Ge,_,Cr⟩=>?_) fun _ _ z=>z
     exact again Ge Cr
  ·have l:=nP b hb
   rw [av (Nat.ne_of_lt l)]; exact (f2 b hb).1
 exact codeAny_compStart_list (loop _ rfl) (T.self X.A 0 _ _ _ (T.keep _ _ _ vJ fun b hb o e=>k3 b o e) (loop _ rfl))
theorem rB (B:jC X scope x0 cl tg fr) (hc:X.calm = true) (hi:PI X target iter wi)
  (hg:∀ C fp pins s H,PG (X.cS scope x0 cl C (tg ++ fr.map (·.1)) fp pins s H) target g) (ht:∀ C fp pins s H,pQ (X.cS scope x0 cl C (tg ++ fr.map (·.1)) fp pins s H) ifs tt) (he:∀ C fp pins s H,PE (X.cS scope x0 cl C (tg ++ fr.map (·.1)) fp pins s H) elt te)
  (hs:∀ x,foldedSetIterable iter X.env x = pure x:=by intro _; rfl):PE X (.ListComp elt [⟨target,iter,ifs,0⟩] scope pos) (iV wi g tt te tg.length (fr.map (·.2))):=by
 intro pins s σ H Q I hw
 rw [eval_ListComp]
 refine wpAny_comprehension_free (use:=none) rfl hs B.uw B.kind B.names (nQ B hc hi hg ht he I hw (RR:=fun acc C=>compPost (model X.prog X.w) X.A X.xe none (EP X pins σ Q) acc C) fun D C s1 H5 m J hn f0 f1 f2 f3 f4 q=>?_)
 refine ⟨m,hn,fun h' sb=>⟨.ref D,H5,?_,rfl,q⟩⟩
 exact J.turned (t':=s1.toks) (fun b o hb e=>(sb.2 b hb).trans e) f0 f1 (.inr f2) f3 f4
end
end L2
end
section
namespace Dt
open PySem L2 Fr Gm
theorem FG.vR {H:Hp} {p b:Addr} {as ps:List Addr} {R:List (List (Int×Int))} {fs:List (Int×Int)} {k:Nat} (g:FG H p as R) (np:p∉as) (nb:b≠p) (hb:H b = some (.lst (ps.map V.ref))) (pr:PR H ps fs):FG (upd H p (.lst ((as.map V.ref).set k (.ref b)))) p (as.set k b) (R.set k fs):=by
 refine ⟨by rw [ah,List.map_set],by rw [List.length_set,List.length_set,g.len],fun i a pD h1 h2=>?_⟩
 by_cases z:i = k
 ·subst z
  have il:=(List.getElem?_eq_some_iff.mp h1).1
  rw [List.length_set] at il
  rw [List.getElem?_set_self il] at h1
  rw [List.getElem?_set_self (by rw [← g.len]; exact il)] at h2
  cases h1
  cases h2
  exact ⟨ps,by rw [av nb]; exact hb,PR.off pr (.inr g.top)⟩
 ·rw [List.getElem?_set_ne (fun w=>z w.symm)] at h1 h2
  obtain ⟨qs,h3,h4⟩:=g.row i a pD h1 h2
  exact ⟨qs,by rw [av (fun y=>by rw [y] at h1; exact np (List.mem_of_getElem? h1))]; exact h3,PR.off h4 (.inr g.top)⟩
def A5 (L:List (List Int)):List (List (Int×Int)):=L.map fun l=>l.map fun x=>(x,1)
theorem gT (x:Int):qt (x,1) = (x:Rat):=by
 show (x:Rat) / ((1:Int):Rat) = (x:Rat)
 have:((1:Int):Rat) = 1:=rfl
 rw [this]
 grind
end Dt
end
section
namespace Dt
open PySem L2 Fr Gm
theorem n9 {f:Nat→Int} {n:Nat}:∀ (k:Nat),(∀ l,n≤l→f l = 0)→sm (n + k) f = sm n f
 | 0,_=>rfl
 | k + 1,h=>by
  show sm (n + k) f + f (n + k) = _
  rw [h (n + k) (by omega),n9 k h]
  omega
theorem uG.E3 {n m:Nat} {A:Mx} (hm:n≤m) (s:uG n m A):det n A = 0:=by
 obtain ⟨u,uz,k,l,hl,ne⟩:=s
 refine mD (u:=u) (fun i hi=>?_) hl ne
 have:=k i hi
 obtain ⟨e,rfl⟩:∃ e,m = n + e:=⟨m - n,by omega⟩
 rwa [n9 e fun l hl=>by rw [uz l hl]; simp] at this
theorem Cd.vI {n m M:Nat} {A0 W A:Mx} {d:Int} (c:Cd n m M n n A0 W d A):det n A0 = d:=by
 rw [c.ba.dt]
 exact (c.dt (det n) fun B k r hk hr=>Dq.oK B hk hr).symm
theorem jw.det {n:Nat} {R:List (List (Int×Int))} {gs:List (Int×Int)} {L:List (List Int)} (F:sV n R gs) (w:jw n R gs L):Dt.det n (mx L) = 0↔dq n R = 0:=by
 have each:∀ i,∃ b:Int,i < n→b≠0∧∀ j,j < n→(mx L i j:Rat) = fa (R.getD i []) j * (b:Rat):=fun i=>by
  by_cases hi:i < n
  ·have hr:=List.getElem?_eq_getElem (l:=R) (i:=i) (by rw [F.rl]; exact hi)
   have hg:=List.getElem?_eq_getElem (l:=gs) (i:=i) (by rw [F.gl]; exact hi)
   obtain ⟨b,b0,h1,_⟩:=w.row F hr hg
   refine ⟨b,fun _=>⟨b0,fun j hj=>?_⟩⟩
   rw [h1 j hj,List.getD_eq_getElem?_getD,hr]
   rfl
  ·exact ⟨1,fun z=>absurd z hi⟩
 obtain ⟨b,hb⟩:∃ b:Nat→Int,∀ i,i < n→b i≠0∧∀ j,j < n→(mx L i j:Rat) = fa (R.getD i []) j * (b i:Rat):=⟨fun i=>(each i).choose,fun i hi=>(each i).choose_spec hi⟩
 have e:=mB (fun i j hi hj=>(hb i hi).2 j hj)
 have pn:∀ k,k≤n→pz k b≠0:=fun k=>by
  induction k with
  | zero=>intro _; show (1:Int)≠0; decide
  | succ k ih=>
   intro hk
   rw [gb]
   exact Int.mul_ne_zero (ih (by omega)) (hb k (by omega)).1
 have p0:=d3 (pn n (Nat.le_refl _))
 constructor
 ·intro z
  rw [z] at e
  have e:(0:Rat) = (pz n b:Rat) * dq n R:=e
  grind
 ·intro z
  rw [z] at e
  have e2:((Dt.det n (mx L):Int):Rat) = 0:=by rw [e]; grind
  exact Rat.intCast_eq_zero_iff.mp e2
def iR:Nat→Nat×Nat
 | 0=>(1,1)
 | k + 1=>(70 + (iR k).1 + 1 + (k + 1) * (6 + (iR k).2 + 1),1 + (k + 1) * (6 + (iR k).2))
theorem vH {k:Nat} (h:k≤4):(iR k).1≤900∧(iR k).2≤450:=by
 have hk:k = 0∨k = 1∨k = 2∨k = 3∨k = 4:=by omega
 rcases hk with rfl | rfl | rfl | rfl | rfl <;> decide
def Nc (f:Int×Int):Prop:=Lw f∧f.2≤36∧Sz 70 f.1
theorem Nc.sz {f:Int×Int} (h:Nc f):Sz 70 f.1∧Sz 6 f.2:=⟨h.2.2,by have:=h.1.1; have:=h.2.1; show f.2.natAbs < 64; omega⟩
theorem sP {a b j:Nat} {f g:Int×Int} {t u:Int} (h:vD (f.1 * g.2 + g.1 * f.2) (f.2 * g.2) t u) (f1:Sz (a + 1 + j * (b + 1)) f.1) (f2:Sz (1 + j * b) f.2) (g1:Sz a g.1) (g2:Sz b g.2):Sz (a + 1 + (j + 1) * (b + 1)) t∧Sz (1 + (j + 1) * b) u:=by
 have e1:(j + 1) * (b + 1) = j * (b + 1) + b + 1:=by rw [Nat.succ_mul]; omega
 have e2:(j + 1) * b = j * b + b:=Nat.succ_mul _ _
 have e3:j * (b + 1) = j * b + j:=Nat.mul_succ _ _
 constructor
 ·refine Sz.le ?_ h.ta
  have h1:Sz (a + 1 + j * (b + 1) + b) (f.1 * g.2):=f1.mul g2
  have h2:Sz (a + 1 + j * (b + 1) + b) (g.1 * f.2):=(g1.mul f2).mono (by omega)
  exact (h1.add h2).mono (by omega)
 ·refine Sz.le ?_ h.ub
  exact (f2.mul g2).mono (by omega)
end Dt
namespace Dq
theorem m8:∀ k:Nat,sg k = if k % 2 = 1 then -1 else 1
 | 0=>rfl
 | k + 1=>by
  show - sg k = _
  rw [m8 k]
  by_cases h:k % 2 = 1
  ·rw [if_pos h,if_neg (by omega)]; grind
  ·rw [if_neg h,if_pos (by omega)]
end Dq
namespace Dt
open PySem L2 Fr Gm
theorem wj {t u:Int}:qt (0 - t,u) = - qt (t,u):=by
 unfold qt
 show ((0 - t:Int):Rat) / (u:Rat) = - ((t:Rat) / (u:Rat))
 rw [Rat.intCast_sub]
 grind
theorem pB {cs:List Nat} {k l:Nat} (hk:k < cs.length):(cs.take k ++ cs.drop (k + 1)).getD l 0 = cs.getD (sk k l) 0:=by
 unfold sk
 rw [List.getD_eq_getElem?_getD,List.getD_eq_getElem?_getD]
 by_cases h:l < k
 ·rw [if_pos h,List.getElem?_append_left (by rw [List.length_take]; omega),List.getElem?_take,if_pos h]
 ·rw [if_neg h,List.getElem?_append_right (by rw [List.length_take]; omega),List.getElem?_drop,List.length_take,show k + 1 + (l - min k cs.length) = l + 1 by omega]
end Dt
end
section
namespace xO
open PySem L2 Fr Gm Dt
local macro_rules | `(tactic| walk_at "rd1")=>`(tactic| first
 | with_reducible refine r_seq ?_ | with_reducible refine r_asg ?_ | with_reducible refine r_gname ?_ | with_reducible refine r_op ?_ | with_reducible refine r_c ?_
 | ((with_reducible refine' r_var ?hv ?_); case' hv=>exact rfl)
 | with_reducible refine om ?_ | with_reducible refine vX ?_ | with_reducible refine v8 ?_ | with_reducible refine qS ?_ | with_reducible refine qN ?_
 | with_reducible refine qI ?_ | with_reducible refine qH ?_ | with_reducible refine qT ?_ | with_reducible refine qQ ?_ | with_reducible refine nh ?_ | with_reducible refine Cg ?_ | with_reducible refine we ?_
 | with_reducible refine qL ?_ | with_reducible refine qV ?_ | with_reducible refine wa ?_ | with_reducible refine nu ?_ | with_reducible refine uT ?_ | with_reducible refine ni ?_ | with_reducible refine uV ?_
 | with_reducible refine qM ?_ | with_reducible refine nq ?_ | with_reducible refine nr ?_ | with_reducible refine wd ?_ | with_reducible refine qG ?_ | with_reducible refine qO ?_ | with_reducible refine kQ ?_
 | with_reducible refine kS ?_ | with_reducible refine nj ?_ | with_reducible refine qJ ?_ | with_reducible refine DW ?_ | with_reducible refine DX ?_ | with_reducible refine wW ?_ | with_reducible refine y0 ?_
 | ((with_reducible refine v9 ?hc ?_); case' hc=>walk_at "side")
 | ((with_reducible refine' qP ?hp ?hi ?_); (case' hp=>walk_at "seq"); (case' hi=>exact rfl))
 | ((with_reducible refine' bI ?hp ?hi ?_); (case' hp=>walk_at "seq"); (case' hi=>exact rfl))
 | ((with_reducible refine' d4 ?hp ?hi ?_); (case' hp=>walk_at "seq"); (case' hi=>exact rfl))
 | ((with_reducible refine And.intro ?hl ?_); case' hl=>(first | exact uR | exact yE))
 | with_reducible refine yL ?_ | with_reducible refine uX ?_ | with_reducible refine m9 ?_ | with_reducible refine uU ?_ | with_reducible refine qK ?_ | with_reducible refine kP ?_ | with_reducible refine kO ?_ | with_reducible refine lY ?_ | with_reducible refine uW ?_ | with_reducible refine qU ?_ | with_reducible refine ou ?_ | with_reducible refine kM ?_
 | dsimp only)
local macro_rules | `(tactic| walk_at "rd")=>`(tactic| repeat walk_at "rd1")
local macro_rules | `(tactic| walk_at "blk_vis")=>`(tactic| first | exact Or.inl rfl | exact Or.inr (Or.inl rfl) | exact Or.inr (Or.inr rfl))
local macro_rules | `(tactic| walk_at "blk_ok")=>`(tactic| exact ⟨rfl,by decide +kernel,by decide +kernel,rfl,by (first | exact trivial | exact ⟨rfl,trivial⟩ | exact ⟨rfl,rfl,trivial⟩ | exact ⟨rfl,rfl,rfl,trivial⟩ | exact ⟨rfl,rfl,rfl,rfl,trivial⟩),rfl,
 by (first | exact ay | exact aj ⟨rfl,by walk_at "blk_vis",rfl,rfl⟩ ay | exact aj ⟨rfl,by walk_at "blk_vis",rfl,rfl⟩ (aj ⟨rfl,by walk_at "blk_vis",rfl,rfl⟩ ay) | exact aj ⟨rfl,by walk_at "blk_vis",rfl,rfl⟩ (aj ⟨rfl,by walk_at "blk_vis",rfl,rfl⟩ (aj ⟨rfl,by walk_at "blk_vis",rfl,rfl⟩ ay))),
 by (first | exact ay | exact aj rfl ay | exact aj rfl (aj rfl ay) | exact aj rfl (aj rfl (aj rfl ay)))⟩)
local macro_rules | `(tactic| walk_at "blk_ok1")=>`(tactic| exact ⟨rfl,fun _=>rfl,fun _=>rfl,by decide +kernel,rfl,by (first | exact trivial | exact ⟨rfl,trivial⟩ | exact ⟨rfl,rfl,trivial⟩ | exact ⟨rfl,rfl,rfl,trivial⟩ | exact ⟨rfl,rfl,rfl,rfl,trivial⟩),rfl,
 by (first | exact ay | exact aj ⟨rfl,by walk_at "blk_vis",⟨rfl,rfl⟩,rfl⟩ ay | exact aj ⟨rfl,by walk_at "blk_vis",⟨rfl,rfl⟩,rfl⟩ (aj ⟨rfl,by walk_at "blk_vis",⟨rfl,rfl⟩,rfl⟩ ay) | exact aj ⟨rfl,by walk_at "blk_vis",⟨rfl,rfl⟩,rfl⟩ (aj ⟨rfl,by walk_at "blk_vis",⟨rfl,rfl⟩,rfl⟩ (aj ⟨rfl,by walk_at "blk_vis",⟨rfl,rfl⟩,rfl⟩ ay))),
 by (first | exact ay | exact aj rfl ay | exact aj rfl (aj rfl ay) | exact aj rfl (aj rfl (aj rfl ay)))⟩)
local macro_rules | `(tactic| walk_at "side")=>`(tactic| first | assumption | exact (show (0:Int) < _ by decide) | exact lD (by decide) (by decide) | exact lE (by decide) (by decide) | exact mulL (by decide) (by decide))
local macro_rules | `(tactic| walk_at "seq")=>`(tactic| first | assumption | exact SqT.of (by assumption))
def top (i:Nat):Stmt:=PySem.Challenge.pw_standup_k04_one_answer_or_none.main.body.getD i (.Pass ⟨0,0,0,0⟩)
abbrev aR:Stmt:=top 18
abbrev dW:Stmt:=top 19
abbrev aW:Stmt:=top 21
abbrev bL:Stmt:=top 22
abbrev ij:Stmt:=top 23
abbrev bw:Stmt:=top 24
abbrev aS:Stmt:=top 25
abbrev cN:Stmt:=top 26
abbrev dc:Stmt:=top 27
abbrev bx:Stmt:=top 28
abbrev bo:Stmt:=top 30
abbrev bM:Stmt:=top 31
abbrev bP:Stmt:=top 32
abbrev bO:Stmt:=top 33
abbrev bh:Stmt:=top 34
abbrev bB:Stmt:=top 35
abbrev aL:Stmt:=top 36
abbrev bA:Stmt:=top 37
abbrev bX:Stmt:=top 38
abbrev bY:Stmt:=top 39
abbrev bN:Stmt:=top 40
abbrev aC:Stmt:=top 41
abbrev bC:Stmt:=top 42
abbrev bg:Stmt:=top 43
abbrev aX:Stmt:=top 44
abbrev fY:Stmt:=top 45
structure IC where
 mS:Addr
 eX:Addr
 cx:Addr
 mQ:Addr
 gI:Addr
 gJ:Addr
 jA:Addr
 gK:Addr
 gG:Addr
 Flat:Addr
 eh:Addr
 jz:Addr
 jy:Addr
 mR:Addr
 gH:Addr
 jx:Addr
structure Txt (K:PySem.W.Frag) (mg:Str→Option Value) (Z:IC):Prop where
 abs:mg "abs" = none
 len:mg "len" = none
 isinstance:mg "isinstance" = none
 int:mg "int" = none
 bool:mg "bool" = none
 tuple:mg "tuple" = none
 enumerate:mg "enumerate" = none
 range:mg "range" = none
 min:mg "min" = none
 list:mg "list" = none
 zip:mg "zip" = none
 ValueError:mg "ValueError" = none
 nS:mg "MapError" = some (.ref Z.mS)
 nR:mg "NoNumber" = some (.ref Z.eX)
 lF:mg "NoOne" = some (.ref Z.cx)
 uy:mg "NoTie" = some (.ref Z.mQ)
 pM:mg "NoOther" = some (.ref Z.gI)
 pN:mg "NoNames" = some (.ref Z.gJ)
 sM:mg "NoLand" = some (.ref Z.jA)
 pO:mg "NoFrame" = some (.ref Z.gK)
 pK:mg "NoThree" = some (.ref Z.gG)
 xI:mg "Flat" = some (.ref Z.Flat)
 mJ:mg "NotInside" = some (.ref Z.eh)
 sL:mg "NoStep" = some (.ref Z.jz)
 sJ:mg "NoText" = some (.ref Z.jy)
 uA:mg "NoMap" = some (.ref Z.mR)
 pL:mg "NoSheet" = some (.ref Z.gH)
 sI:mg "Parted" = some (.ref Z.jx)
 x_NoOne:PySem.W.excIn K Z.cx [.type "ValueError",.type "Exception",.type "BaseException",.type "object"] "ValueError.__new__" = true
 iI:ir K Z.cx
 m1:PySem.W.exmOne K (.ref Z.cx) (.ref Z.cx) = some true
 m6:PySem.W.exmOne K (.ref Z.cx) (.ref Z.mS) = some true
 m2:PySem.W.kitOne K (.ref Z.cx) (.ref Z.cx) = some true
 m3:PySem.W.kitAny K (.ref Z.cx) [.ref Z.Flat,.ref Z.gK,.ref Z.jA,.ref Z.mR,.ref Z.gJ,.ref Z.eX,.ref Z.gI,.ref Z.gH] = some false
 m4:PySem.W.kitAny K (.ref Z.cx) [.ref Z.jz,.ref Z.jy,.ref Z.gG,.ref Z.mQ,.ref Z.eh,.ref Z.jx] = some false
 m5:PySem.W.kitOne K (.ref Z.cx) (.type "ValueError") = some true
def gR:Sp:=fun vs H Q _=>∃ a b:Int,vs = [.int a,.int b]∧Q (.int (Int.gcd a b:Nat)) H
def dG:Sp:=fun vs H Q _=>∃ a b:Int,vs = [.int a,.int b]∧b≠0∧Sz 9000 b∧∀ t u p H',vD a b t u→ao H H'→H' p = some (.tup [.int t,.int u])→Q (.ref p) H'
def kC (K:PySem.W.Frag):Sp:=fun vs H Q _=>∃ (a:Addr) (ns:List Int) (k:Int),vs = [.ref a,.int k]∧aB K H a (ns.map V.int)∧0≤k∧∀ n,Q (.int n) H
def lU:Sp:=fun vs H Q _=>∃ n:Int,vs = [.int n]∧Q (.bl true) H
def gQ (K:PySem.W.Frag):Sp:=fun vs H Q _=>∃ (p:Addr) (t u:Int),vs = [.ref p]∧H p = some (.tup [.int t,.int u])∧0 < u∧Int.gcd t u = 1∧Q (.bl true) H
def eP (K:PySem.W.Frag):Sp:=fun vs H Q _=>∃ (a:Addr) (ns:List Int) (k:Int),vs = [.ref a,.int k]∧aB K H a (ns.map V.int)∧0≤k∧k≤100000∧∀ n,0≤n→n < 2147483587→Q (.int n) H
theorem oR {a b x:Int} (hb:b≠0) (hz:Sz 9000 b):oZ x ((Int.gcd a b:Nat):Int):=by
 have h0:=iO a hb
 refine ⟨by omega,Sz.le hz ?_⟩
 have:=Int.gcd_le_natAbs_right a hb
 simpa using this
theorem oQ {x d:Int} (h:oZ x d):oZ x (-d):=⟨fun e=>h.1 (by omega),h.2.neg⟩
def gS:Sp:=fun vs H Q _=>∃ (a:Addr) (ps:List Addr) (fs:List (Int×Int)) (z:Nat),vs = [.ref a]∧H a = some (.lst (ps.map V.ref))∧PR H ps fs∧Fq z fs∧z≤9000∧fs.length≤1000∧
 (0 < jE fs→(∀ f∈fs,f.2 ∣ jE fs)→(jE fs).natAbs≤pd fs→Q (.int (jE fs)) H)
def kA:Sp:=fun vs H Q _=>∃ (a:Addr) (ps:List Addr) (fs:List (Int×Int)) (z:Nat),vs = [.ref a]∧H a = some (.lst (ps.map V.ref))∧PR H ps fs∧Fq z fs∧z≤9000∧fs.length≤1000∧
 ∀ (t:Addr) (l:List Int) H',ao H H'→H t = none→H' t = some (.lst (l.map V.int))→Wh fs (jE fs) l→(jE fs).natAbs≤pd fs→Q (.ref t) H'
def qm (CN:Addr):Sp:=fun vs H Q E=>∃ (p:Addr) (as:List Addr) (L:List (List Int)) (n m c:Nat),vs = [.ref p,.int (c:Int)]∧b9 H p as L∧fw L n m∧c < n∧c < m∧n≤1000∧m≤1000∧
 (∀ (q:Addr) (bs:List Addr) (L':List (List Int)) H',ao H H'→b9 H' q bs L'→Led L L' n c→Q (.ref q) H')∧((∀ r,c≤r→r < n→mx L r c = 0)→∀ H',ao H H'→E (.ref CN) none H')
def qD (r l:List Int) (c:Nat) (d:Int):List Int:=List.zipWith (fun x y=>(l.getD c 0 * x - r.getD c 0 * y).fdiv d) r l
def lV:Sp:=fun vs H Q _=>∃ (a b:Addr) (r l:List Int) (c m:Nat) (d:Int),vs = [.ref a,.ref b,.int (c:Int),.int d]∧H a = some (.lst (r.map V.int))∧H b = some (.lst (l.map V.int))∧r.length = m∧l.length = m∧c < m∧m≤1000∧d≠0∧Sz 9000 d∧(∀ x∈r,Sz 9000 x)∧(∀ x∈l,Sz 9000 x)∧
 ∀ (t:Addr) H',ao H H'→H t = none→H' t = some (.lst ((qD r l c d).map V.int))→Q (.ref t) H'
def lW:Sp:=fun vs H Q _=>∃ (p:Addr) (as:List Addr) (L:List (List Int)) (n m c:Nat) (d:Int),vs = [.ref p,.int (c:Int),.int d]∧b9 H p as L∧fw L n m∧c < n∧c < m∧n≤1000∧m≤1000∧d≠0∧Sz 9000 d∧(∀ l∈L,∀ x∈l,Sz 9000 x)∧
 ∀ (q:Addr) (bs:List Addr) (L':List (List Int)) H',ao H H'→b9 H' q bs L'→Gg L L' n m c d→Q (.ref q) H'
def fG (CN:Addr):Sp:=fun vs H Q E=>∃ (p:Addr) (as:List Addr) (L:List (List Int)) (n m M:Nat),vs = [.ref p]∧b9 H p as L∧fw L n m∧n≤m∧n≤1000∧m≤1000∧1≤M∧(∀ i j,(mx L i j).natAbs≤M)∧((n + 1) * (2 * M)) ^ (n + 1) < 2 ^ 9000∧
 (∀ (q:Addr) (bs:List Addr) (L':List (List Int)) (A:Mx) (d:Int) H',ao H H'→b9 H' q bs L'→fw L' n m→Cd n m M n n (mx L) (mx L') d A→Q (.ref q) H')∧(uG n m (mx L)→∀ H',ao H H'→E (.ref CN) none H')
structure Io (n:Nat) (R:List (List (Int×Int))) (M PB:Nat):Prop where
 m1:1≤M
 en:∀ fs∈R,∀ f∈fs,f.1.natAbs * pd fs≤M
 big:((n + 1) * (2 * M)) ^ (n + 1) < 2 ^ 9000
 p1:1≤PB
 pb:∀ fs∈R,pd fs≤PB
 wB:PB ^ n < 2 ^ 9000
 fq:∀ fs∈R,Fq 9000 fs
def qo:Sp:=fun vs H Q _=>∃ (p:Addr) (as:List Addr) (R:List (List (Int×Int))) (n M PB:Nat),vs = [.ref p]∧FG H p as R∧R.length = n∧n≤1000∧(∀ fs∈R,fs.length = n)∧Io n R M PB∧
 ∀ (t u:Int) (r:Addr) H',Lw (t,u)→qt (t,u) = dq n R→t.natAbs≤(n * M) ^ n→u.natAbs≤PB ^ n→ao H H'→H' r = some (.tup [.int t,.int u])→Q (.ref r) H'
def fW:Sp:=fun vs H Q _=>∃ (p q:Addr) (f g:Int×Int),vs = [.ref p,.ref q]∧H p = some (.tup [.int f.1,.int f.2])∧H q = some (.tup [.int g.1,.int g.2])∧0 < f.2∧0 < g.2∧(Sz 4000 f.1∧Sz 4000 f.2∧Sz 4000 g.1∧Sz 4000 g.2)∧∀ (t u:Int) (r:Addr) H',vD (f.1 * g.2 + g.1 * f.2) (f.2 * g.2) t u→ao H H'→H' r = some (.tup [.int t,.int u])→Q (.ref r) H'
def eO:Sp:=fun vs H Q _=>∃ (p q:Addr) (f g:Int×Int),vs = [.ref p,.ref q]∧H p = some (.tup [.int f.1,.int f.2])∧H q = some (.tup [.int g.1,.int g.2])∧0 < f.2∧0 < g.2∧(Sz 4000 f.1∧Sz 4000 f.2∧Sz 4000 g.1∧Sz 4000 g.2)∧∀ (t u:Int) (r:Addr) H',vD (f.1 * g.1) (f.2 * g.2) t u→ao H H'→H' r = some (.tup [.int t,.int u])→Q (.ref r) H'
def Nb (f:Int×Int):Prop:=Lw f∧f.2≤6∧Sz 61 f.1
def gP (K:PySem.W.Frag):Sp:=fun vs H Q _=>∃ (a:Addr) (ns:List Int) (k:Int),vs = [.ref a,.int k]∧aB K H a (ns.map V.int)∧0≤k∧k≤1000∧∀ (t u:Int) (p:Addr) H',Nb (t,u)→ao H H'→H' p = some (.tup [.int t,.int u])→Q (.ref p) H'
def n5 (K:PySem.W.Frag):Sp:=fun vs H Q _=>∃ (a:Addr) (ns:List Int) (n:Nat),vs = [.ref a,.int (n:Int)]∧aB K H a (ns.map V.int)∧n≤8∧∀ (p:Addr) (as:List Addr) (R:List (List (Int×Int))) H',ao H H'→H p = none→FG H' p as R→p∉as→R.length = n→(∀ fs∈R,fs.length = n∧∀ f∈fs,Nb f)→Q (.ref p) H'
structure Md (f:Int×Int):Prop where
 pos:0 < f.2
 bot:Sz 30 f.2
 top:Sz 400 f.1
theorem va:∀ (fs:List (Int×Int)),(∀ f∈fs,Md f)→pd fs≤(2 ^ 30) ^ fs.length
 | [],_=>Nat.le_refl _
 | f :: fs,h=>by
  rw [List.length_cons,Nat.pow_succ,Nat.mul_comm]
  exact Nat.mul_le_mul (Nat.le_of_lt (h f List.mem_cons_self).bot) (va fs fun g hg=>h g (List.mem_cons_of_mem _ hg))
theorem vO {n:Nat} {R:List (List (Int×Int))} (hn:n≤6) (h:∀ fs∈R,fs.length = n∧∀ f∈fs,Md f):Io n R (2 ^ 600) (2 ^ 200):=by
 have GZ:∀ fs∈R,pd fs≤2 ^ 200:=fun fs fS=>by
  obtain ⟨h1,h2⟩:=h fs fS
  refine Nat.le_trans (va fs h2) ?_
  rw [← Nat.pow_mul]
  exact Nat.pow_le_pow_right (by decide) (by omega)
 refine ⟨Nat.one_le_two_pow,fun fs fS f hf=>?_,?_,Nat.one_le_two_pow,GZ,?_,fun fs fS=>⟨fun f hf=>((h fs fS).2 f hf).pos,fun f hf=>((h fs fS).2 f hf).top.mono (by decide),fun f hf=>((h fs fS).2 f hf).bot.mono (by decide)⟩⟩
 ·rw [show (600:Nat) = 400 + 200 from rfl,Nat.pow_add]
  exact Nat.mul_le_mul (Nat.le_of_lt ((h fs fS).2 f hf).top) (GZ fs fS)
 ·have h1:(n + 1) * (2 * 2 ^ 600)≤2 ^ 3 * (2 * 2 ^ 600):=Nat.mul_le_mul_right _ (by omega)
  have h2:2 ^ 3 * (2 * 2 ^ 600) = 2 ^ 604:=by rw [show 2 * 2 ^ 600 = 2 ^ 601 by rw [Nat.pow_succ]; omega,← Nat.pow_add]
  rw [h2] at h1
  refine Nat.lt_of_le_of_lt (Nat.pow_le_pow_left h1 _) ?_
  rw [← Nat.pow_mul]
  exact Nat.pow_lt_pow_right (by decide) (by omega)
 ·rw [← Nat.pow_mul]
  exact Nat.pow_lt_pow_right (by decide) (by omega)
theorem cM (f:Int×Int):SeqAt.shaped (cG f) = true:=by
 unfold SeqAt.shaped cG
 simp [PyData.canLay0,PyData.canLayAll0,PyData.depth,PyData.depthAll]
theorem jq (f g:Int×Int):PyData.eqv (cG f) (cG g) = decide (f = g):=by
 have:=hW [f] [g]
 unfold cB at this
 simp [PyData.eqv,PyData.eqvAll] at this
 rw [this]
theorem ec {H:Hp} {r:Addr} {f:Int×Int} (h:H r = some (.tup [.int f.1,.int f.2])):mP H (.ref r) (cG f):=.tup h (.cons (.int _) (.cons (.int _) .nil))
theorem Nb.nc {f:Int×Int} (h:Nb f):Nc f:=⟨h.1,by have:=h.2.1; omega,h.2.2.mono (by decide)⟩
theorem Nc.md {f:Int×Int} (h:Nc f):Md f:=⟨h.1.1,h.sz.2.mono (by decide),h.2.2.mono (by decide)⟩
def gO (CN:Addr):Sp:=fun vs H Q E=>∃ (p o:Addr) (as gp:List Addr) (R:List (List (Int×Int))) (gs:List (Int×Int)) (n:Nat),vs = [.ref p,.ref o]∧FG H p as R∧H o = some (.lst (gp.map V.ref))∧PR H gp gs∧R.length = n∧gs.length = n∧n≤4∧(∀ fs∈R,fs.length = n∧∀ f∈fs,Nc f)∧(∀ g∈gs,Nb g)∧
 (dq n R≠0→∀ (t:Addr) (ps:List Addr) (xs:List (Int×Int)) H',ao H H'→H t = none→H' t = some (.lst (ps.map V.ref))→PR H' ps xs→xs.length = n→(∀ x∈xs,Lw x∧Sz 491 x.1∧Sz 491 x.2)→F7 n R gs xs→Q (.ref t) H')∧(dq n R = 0→∀ H',ao H H'→E (.ref CN) none H')
def wz (R:List (List (Int×Int))) (cs:List Nat) (m:Nat):Rat:=Dq.det m fun i j=>fa (R.getD i []) (cs.getD j 0)
def tF (m:Nat):Sp:=fun vs H Q _=>∃ (p c:Addr) (as:List Addr) (R:List (List (Int×Int))) (cs:List Nat),vs = [.ref p,.ref c]∧FG H p as R∧H c = some (.lst ((cs.map fun k:Nat=>(k:Int)).map V.int))∧R.length = m∧cs.length = m∧m≤4∧(∀ fs∈R,(∀ k∈cs,k < fs.length)∧∀ f∈fs,Nc f)∧
 ∀ (t u:Int) (r:Addr) H',Lw (t,u)→qt (t,u) = wz R cs m→Sz (iR m).1 t→Sz (iR m).2 u→ao H H'→H' r = some (.tup [.int t,.int u])→Q (.ref r) H'
def dE (m:Nat):Sp:=fun vs H Q E=>∃ j,j≤m∧tF j vs H Q E
def n6:Sp:=fun _ _ _ _=>False
def j4 (CN:Addr):Sp:=fun vs H Q _=>∃ (p o:Addr) (as gp:List Addr) (R:List (List (Int×Int))) (gs:List (Int×Int)) (n:Nat),vs = [.ref p,.ref o]∧FG H p as R∧H o = some (.lst (gp.map V.ref))∧PR H gp gs∧R.length = n∧gs.length = n∧n≤4∧(∀ fs∈R,fs.length = n∧∀ f∈fs,Nc f)∧(∀ g∈gs,Nb g)∧dq n R = 0∧
 ∀ a H',ao H H'→H' a = some (pE CN a)→Q (.ref a) H'
def iX:Sp:=fun vs H Q _=>∃ (p o:Addr) (as gp:List Addr) (R:List (List (Int×Int))) (gs:List (Int×Int)) (n:Nat),vs = [.ref p,.ref o]∧FG H p as R∧H o = some (.lst (gp.map V.ref))∧PR H gp gs∧R.length = n∧gs.length = n∧n≤4∧(∀ fs∈R,fs.length = n∧∀ f∈fs,Nc f)∧(∀ g∈gs,Nb g)∧dq n R = 0∧
 ∀ H',ao H H'→Q (.bl true) H'
def ig:Sp:=fun vs H Q _=>∃ (t p o:Addr) (ps as gp:List Addr) (xs:List (Int×Int)) (R:List (List (Int×Int))) (gs:List (Int×Int)) (n:Nat),vs = [.ref t,.ref p,.ref o]∧H t = some (.lst (ps.map V.ref))∧PR H ps xs∧FG H p as R∧H o = some (.lst (gp.map V.ref))∧PR H gp gs∧R.length = n∧gs.length = n∧xs.length = n∧n≤4∧(∀ fs∈R,fs.length = n∧∀ f∈fs,Nc f)∧(∀ g∈gs,Nb g)∧(∀ x∈xs,Lw x∧Sz 491 x.1∧Sz 491 x.2)∧F7 n R gs xs∧
 ∀ H',ao H H'→Q (.bl true) H'
def kB (K:PySem.W.Frag):Sp:=fun vs H Q _=>∃ (a:Addr) (ns:List Int),vs = [.ref a]∧aB K H a (ns.map V.int)∧ns.length≤63∧∀ H',Q (.bl true) H'
end xO
end
section
namespace xO
open PySem L2 Fr Gm Dt
local macro_rules | `(tactic| walk_at "rd1")=>`(tactic| first
 | with_reducible refine r_seq ?_ | with_reducible refine r_asg ?_ | with_reducible refine r_gname ?_ | with_reducible refine r_op ?_ | with_reducible refine r_c ?_
 | ((with_reducible refine' r_var ?hv ?_); case' hv=>exact rfl)
 | with_reducible refine om ?_ | with_reducible refine vX ?_ | with_reducible refine v8 ?_ | with_reducible refine qS ?_ | with_reducible refine qN ?_
 | with_reducible refine qI ?_ | with_reducible refine qH ?_ | with_reducible refine qT ?_ | with_reducible refine qQ ?_ | with_reducible refine nh ?_ | with_reducible refine Cg ?_ | with_reducible refine we ?_
 | with_reducible refine qL ?_ | with_reducible refine qV ?_ | with_reducible refine wa ?_ | with_reducible refine nu ?_ | with_reducible refine uT ?_ | with_reducible refine ni ?_ | with_reducible refine uV ?_
 | with_reducible refine qM ?_ | with_reducible refine nq ?_ | with_reducible refine nr ?_ | with_reducible refine wd ?_ | with_reducible refine qG ?_ | with_reducible refine qO ?_ | with_reducible refine kQ ?_
 | with_reducible refine kS ?_ | with_reducible refine nj ?_ | with_reducible refine qJ ?_ | with_reducible refine DW ?_ | with_reducible refine DX ?_ | with_reducible refine wW ?_ | with_reducible refine y0 ?_
 | ((with_reducible refine v9 ?hc ?_); case' hc=>walk_at "side")
 | ((with_reducible refine' qP ?hp ?hi ?_); (case' hp=>walk_at "seq"); (case' hi=>exact rfl))
 | ((with_reducible refine' bI ?hp ?hi ?_); (case' hp=>walk_at "seq"); (case' hi=>exact rfl))
 | ((with_reducible refine' d4 ?hp ?hi ?_); (case' hp=>walk_at "seq"); (case' hi=>exact rfl))
 | ((with_reducible refine And.intro ?hl ?_); case' hl=>(first | exact uR | exact yE))
 | with_reducible refine yL ?_ | with_reducible refine uX ?_ | with_reducible refine m9 ?_ | with_reducible refine uU ?_ | with_reducible refine qK ?_ | with_reducible refine kP ?_ | with_reducible refine kO ?_ | with_reducible refine lY ?_ | with_reducible refine uW ?_ | with_reducible refine qU ?_ | with_reducible refine ou ?_ | with_reducible refine kM ?_
 | dsimp only)
local macro_rules | `(tactic| walk_at "rd")=>`(tactic| repeat walk_at "rd1")
local macro_rules | `(tactic| walk_at "blk_vis")=>`(tactic| first | exact Or.inl rfl | exact Or.inr (Or.inl rfl) | exact Or.inr (Or.inr rfl))
local macro_rules | `(tactic| walk_at "blk_ok")=>`(tactic| exact ⟨rfl,by decide +kernel,by decide +kernel,rfl,by (first | exact trivial | exact ⟨rfl,trivial⟩ | exact ⟨rfl,rfl,trivial⟩ | exact ⟨rfl,rfl,rfl,trivial⟩ | exact ⟨rfl,rfl,rfl,rfl,trivial⟩),rfl,
 by (first | exact ay | exact aj ⟨rfl,by walk_at "blk_vis",rfl,rfl⟩ ay | exact aj ⟨rfl,by walk_at "blk_vis",rfl,rfl⟩ (aj ⟨rfl,by walk_at "blk_vis",rfl,rfl⟩ ay) | exact aj ⟨rfl,by walk_at "blk_vis",rfl,rfl⟩ (aj ⟨rfl,by walk_at "blk_vis",rfl,rfl⟩ (aj ⟨rfl,by walk_at "blk_vis",rfl,rfl⟩ ay))),
 by (first | exact ay | exact aj rfl ay | exact aj rfl (aj rfl ay) | exact aj rfl (aj rfl (aj rfl ay)))⟩)
local macro_rules | `(tactic| walk_at "blk_ok1")=>`(tactic| exact ⟨rfl,fun _=>rfl,fun _=>rfl,by decide +kernel,rfl,by (first | exact trivial | exact ⟨rfl,trivial⟩ | exact ⟨rfl,rfl,trivial⟩ | exact ⟨rfl,rfl,rfl,trivial⟩ | exact ⟨rfl,rfl,rfl,rfl,trivial⟩),rfl,
 by (first | exact ay | exact aj ⟨rfl,by walk_at "blk_vis",⟨rfl,rfl⟩,rfl⟩ ay | exact aj ⟨rfl,by walk_at "blk_vis",⟨rfl,rfl⟩,rfl⟩ (aj ⟨rfl,by walk_at "blk_vis",⟨rfl,rfl⟩,rfl⟩ ay) | exact aj ⟨rfl,by walk_at "blk_vis",⟨rfl,rfl⟩,rfl⟩ (aj ⟨rfl,by walk_at "blk_vis",⟨rfl,rfl⟩,rfl⟩ (aj ⟨rfl,by walk_at "blk_vis",⟨rfl,rfl⟩,rfl⟩ ay))),
 by (first | exact ay | exact aj rfl ay | exact aj rfl (aj rfl ay) | exact aj rfl (aj rfl (aj rfl ay)))⟩)
local macro_rules | `(tactic| walk_at "side")=>`(tactic| first | assumption | exact (show (0:Int) < _ by decide) | exact lD (by decide) (by decide) | exact lE (by decide) (by decide) | exact mulL (by decide) (by decide))
local macro_rules | `(tactic| walk_at "seq")=>`(tactic| first | assumption | exact SqT.of (by assumption))
section
variable {P:Program} {w:World} {K:PySem.W.Frag} {mg:Str→Option Value} {base:Heap} {Z:IC}
theorem br:aE ["one", "other", "great", "small", "rest"] ["one", "other"] (ai aR):=⟨rfl,rfl,rfl,by decide +kernel,rfl,by decide +kernel,by decide +kernel⟩
theorem gi (D:Def K mg "common_divisor" aR ["one", "other"]) (T:Txt K mg Z):b6 P w K mg base (bH P w) "common_divisor" 1 ["one", "other"] gR:=by
 refine D.dM br (fun vs H Q E h=>?_) (fun f cO A outer s H vs Q E hr h=>?_)
 ·obtain ⟨a,b,rfl,_⟩:=h; rfl
 ·obtain ⟨a,b,rfl,q⟩:=h
  refine ⟨_,(af (aw (i:=2) br.nd rfl (by first | exact Or.inl rfl | exact Or.inr rfl) (aI gD (by rfl) T.abs lH (aa (pv 0) ag)))
   (af (aw (i:=3) br.nd rfl (by first | exact Or.inl rfl | exact Or.inr rfl) (aI gD (by rfl) T.abs lH (aa (pv 1) ag)))
   (af (ma PassesOwn.never (aN me (pv 3) ae (aU _)) (af (aw (i:=4) br.nd rfl (by first | exact Or.inl rfl | exact Or.inr rfl) (au bT (pv 2) (pv 3)))
   (af (aw (i:=2) br.nd rfl (by first | exact Or.inl rfl | exact Or.inr rfl) (pv 3))
   (aq (aw (i:=3) br.nd rfl (by first | exact Or.inl rfl | exact Or.inr rfl) (pv 4))))))
   (aq (aA (pv 2)))))),?_⟩
  refine ⟨_,rfl,a,rfl,_,rfl,b,rfl,?_⟩
  refine nX (fun σ H'=>∃ (x y:Int) (r:Option V),σ = [some (.int a),some (.int b),some (.int x),some (.int y),r]∧H' = H∧0≤x∧0≤y∧Int.gcd x y = Int.gcd a b)
   (fun σ _=>match σ with | [_,_,_,some (.int y),_]=>y.toNat | _=>0) ⟨_,_,_,rfl,rfl,by split <;> omega,by split <;> omega,oG a b⟩ ?_
  ·rintro σ H' ⟨x,y,r,rfl,rfl,hx,hy,hg⟩
   refine ⟨_,rfl,rfl,_,rfl,?_⟩
   rw [gw,Bool.beq_eq_decide_eq]
   refine t9 (fun hz=>?_) (fun hz=>?_)
   ·have hp:0 < y:=by omega
    refine w_turn ?_
    refine ⟨_,rfl,_,rfl,_,_,rfl,rfl,hp,_,rfl,_,rfl,⟨_,_,_,rfl,rfl,hy,Int.emod_nonneg _ hz,?_⟩,?_⟩
    ·rw [mv x y hx hp,hg]
    ·show (x % y).toNat < y.toNat
     have:=Int.emod_lt_of_pos x hp
     omega
   ·subst hz
    refine ⟨_,rfl,?_⟩
    rw [← hg,oF x hx] at q
    exact q
theorem iy:aE ["_law_script", "_law_k"] ["_law_script", "_law_k"] (ai bo):=⟨rfl,rfl,rfl,by decide +kernel,rfl,by decide +kernel,by decide +kernel⟩
theorem iB (D:Def K mg "_law_cell_at" bo ["_law_script", "_law_k"]) (T:Txt K mg Z):b6 P w K mg base (bH P w) "_law_cell_at" 1 ["_law_script", "_law_k"] (kC K):=by
 refine D.dM iy (fun vs H Q E h=>?_) (fun f cO A outer s H vs Q E hr h=>?_)
 ·obtain ⟨a,ns,k,rfl,_⟩:=h; rfl
 ·obtain ⟨a,ns,k,rfl,hS,hk,q⟩:=h
  refine ⟨_,(af (b7 (aN mf (pv 1) (aI cq (by rfl) T.len dP (aa (pv 0) ag)) (aU _)) (aq (aA (aK aO (pv 0) (pv 1) (fun _ _=>rfl)))) aT)
   (aq (aA ae))),?_⟩
  dsimp only [dS]
  walk_at "rd"
  refine ⟨_,_,rfl,.inl ⟨_,hS,rfl⟩,?_⟩
  walk_at "rd"
  refine if2 (fun dh=>?_) (fun dh=>?_)
  ·walk_at "rd"
   obtain ⟨j,rfl⟩:=Int.eq_ofNat_of_zero_le hk
   have hj:j < ns.length:=by rw [List.length_map] at dh; omega
   refine bI hS (bG (j:=j) (v:=V.int ns[j]) (by simp [hj])) ?_
   exact q _
  ·walk_at "rd"
   exact q _
theorem jH:aE ["_law_found"] ["_law_found"] (ai bM):=⟨rfl,rfl,rfl,by decide +kernel,rfl,by decide +kernel,by decide +kernel⟩
theorem jK (D:Def K mg "_law_whole" bM ["_law_found"]) (T:Txt K mg Z):b6 P w K mg base (bH P w) "_law_whole" 1 ["_law_found"] lU:=by
 refine D.dM jH (fun vs H Q E h=>?_) (fun f cO A outer s H vs Q E hr h=>?_)
 ·obtain ⟨n,rfl,_⟩:=h; rfl
 ·obtain ⟨n,rfl,q⟩:=h
  refine ⟨_,(aq (aA (i5 (aI fi (by rfl) T.isinstance bD (aa (pv 0) (aa (gf (v:=.ty "int") rfl T.int xK rfl) ag))) (iZ (wy (aI fi (by rfl) T.isinstance bD (aa (pv 0) (aa (gf (v:=.ty "bool") rfl T.bool uC rfl) ag)))))))),?_⟩
  try dsimp only [dS]
  walk_at "rd"
  refine kR (.int n) (.ty _) tY ?_
  walk_at "rd"
  refine kR (.int n) (.ty _) wM ?_
  walk_at "rd"
  exact q
theorem cH:aE ["_law_one", "_law_other"] ["_law_one", "_law_other"] (ai bh):=⟨rfl,rfl,rfl,by decide +kernel,rfl,by decide +kernel,by decide +kernel⟩
theorem iA (D:Def K mg "_law_divisor" bh ["_law_one", "_law_other"]) (T:Txt K mg Z):b6 P w K mg base (bH P w) "_law_divisor" 1 ["_law_one", "_law_other"] gR:=by
 refine D.dM cH (fun vs H Q E h=>?_) (fun f cO A outer s H vs Q E hr h=>?_)
 ·obtain ⟨a,b,rfl,_⟩:=h; rfl
 ·obtain ⟨a,b,rfl,q⟩:=h
  refine ⟨_,(af (aw (i:=0) cH.nd rfl (by first | exact Or.inl rfl | exact Or.inr rfl) (aI gD (by rfl) T.abs lH (aa (pv 0) ag)))
   (af (aw (i:=1) cH.nd rfl (by first | exact Or.inl rfl | exact Or.inr rfl) (aI gD (by rfl) T.abs lH (aa (pv 1) ag)))
   (af (ma PassesOwn.never (aN mh (pv 1) ae (aU _)) (aq (wo (i:=0) (j:=1) rfl cH.nd rfl rfl (by decide) rfl rfl (aa (pv 1) (aa (au bT (pv 0) (pv 1)) ag)) rfl)))
   (aq (aA (pv 0)))))),?_⟩
  refine ⟨_,rfl,a,rfl,_,rfl,b,rfl,?_⟩
  refine nX (fun σ H'=>∃ (x y:Int),σ = [some (.int x),some (.int y)]∧H' = H∧0≤x∧0≤y∧Int.gcd x y = Int.gcd a b)
   (fun σ _=>match σ with | [_,some (.int y)]=>y.toNat | _=>0) ⟨_,_,rfl,rfl,by split <;> omega,by split <;> omega,oG a b⟩ ?_
  rintro σ H' ⟨x,y,rfl,rfl,hx,hy,hg⟩
  walk_at "rd"
  refine if2 (fun hp=>?_) (fun hz=>?_)
  ·refine w_turn ?_
   walk_at "rd"
   refine ⟨_,_,rfl,⟨_,_,rfl,rfl,hy,Int.emod_nonneg _ (by omega),?_⟩,?_⟩
   ·rw [mv x y hx hp,hg]
   ·show (x % y).toNat < y.toNat
    have:=Int.emod_lt_of_pos x hp
    omega
  ·have hz:y = 0:=by omega
   subst hz
   walk_at "rd"
   rw [← hg,oF x hx] at q
   exact q
theorem dJ:aE ["_law_top", "_law_bottom", "_law_by"] ["_law_top", "_law_bottom"] (ai bB):=⟨rfl,rfl,rfl,by decide +kernel,rfl,by decide +kernel,by decide +kernel⟩
theorem jb (D:Def K mg "_law_lowest" bB ["_law_top", "_law_bottom"]) (T:Txt K mg Z) (dN:b6 P w K mg base (bH P w) "_law_divisor" 1 ["_law_one", "_law_other"] gR):b6 P w K mg base (bH P w) "_law_lowest" 2 ["_law_top", "_law_bottom"] dG:=by
 refine D.dM dJ (fun vs H Q E h=>?_) (fun f cO A outer s H vs Q E hr h=>?_)
 ·obtain ⟨a,b,rfl,_⟩:=h; rfl
 ·obtain ⟨a,b,rfl,hb,hz,q⟩:=h
  have c1:oZ a _:=oR (a:=a) hb hz
  have c2:oZ b _:=oR (a:=a) hb hz
  have c3:oZ a (0 - ((Int.gcd a b:Nat):Int)):=by rw [Int.zero_sub]; exact oQ c1
  have c4:oZ b (0 - ((Int.gcd a b:Nat):Int)):=by rw [Int.zero_sub]; exact oQ c2
  refine ⟨_,(af (aw (i:=2) dJ.nd rfl (by first | exact Or.inl rfl | exact Or.inr rfl) (ar dN hr aM (aa (pv 0) (aa (pv 1) ag))))
   (af (b7 (aN mf (pv 1) ae (aU _)) (aq (aw (i:=2) dJ.nd rfl (by first | exact Or.inl rfl | exact Or.inr rfl) (au d5 ae (pv 2)))) aT)
   (aq (aA (cR (aa (au i7 (pv 0) (pv 2)) (aa (au i7 (pv 1) (pv 2)) ag))))))),?_⟩
  walk_at "rd"
  refine ⟨a,b,rfl,?_⟩
  walk_at "rd"
  refine if2 (fun jP=>?_) (fun jP=>?_)
  ·walk_at "rd"
   intro p hp
   exact q _ _ p _ (lj hb (by rw [if_pos jP,Int.zero_sub])) (ao.upd hp) ah
  ·walk_at "rd"
   intro p hp
   exact q _ _ p _ (lj hb (by rw [if_neg jP])) (ao.upd hp) ah
theorem fo:aE ["_law_found"] ["_law_found"] (ai aL):=⟨rfl,rfl,rfl,by decide +kernel,rfl,by decide +kernel,by decide +kernel⟩
theorem fv (D:Def K mg "_law_is_fraction" aL ["_law_found"]) (T:Txt K mg Z) (gq:b6 P w K mg base (bH P w) "_law_whole" 1 ["_law_found"] lU) (dN:b6 P w K mg base (bH P w) "_law_divisor" 1 ["_law_one", "_law_other"] gR):b6 P w K mg base (bH P w) "_law_is_fraction" 2 ["_law_found"] (gQ K):=by
 refine D.dM fo (fun vs H Q E h=>?_) (fun f cO A outer s H vs Q E hr h=>?_)
 ·obtain ⟨p,t,u,rfl,_⟩:=h; rfl
 ·obtain ⟨p,t,u,rfl,hp,hu,hg,q⟩:=h
  refine ⟨_,(af (b7 (PW.pt (pw_or (gU (eQ (aI fi (by rfl) T.isinstance bD (aa (pv 0) (aa (gf (v:=.ty "tuple") rfl T.tuple sN rfl) ag))))) (pw_or (aN me (aI cq (by rfl) T.len dP (aa (pv 0) ag)) ae (aU _)) (pw_or (gU (eQ (ar gq hr aM (aa (aK bV (pv 0) ae (fun _ _=>rfl)) ag)))) (pw_or1 (gU (eQ (ar gq hr aM (aa (aK bV (pv 0) ae (fun _ _=>rfl)) ag))))))))) (aq (aA ik)) aT)
   (aq (aA (i5 (iM mh (aK bV (pv 0) ae (fun _ _=>rfl)) ae (aU _)) (iZ (iM ip (ar dN hr aM (aa (aK bV (pv 0) ae (fun _ _=>rfl)) (aa (aK bV (pv 0) ae (fun _ _=>rfl)) ag))) ae (aU _))))))),?_⟩
  dsimp only [dS]
  walk_at "rd"
  refine kR (.tup hp) (.ty _) wK ?_
  walk_at "rd"
  refine ⟨_,2,rfl,.inr ⟨_,SqT.of hp,rfl⟩,?_⟩
  walk_at "rd"
  refine t9 (fun h=>absurd rfl h) (fun _=>?_)
  walk_at "rd"
  refine ⟨t,rfl,?_⟩
  walk_at "rd"
  refine ⟨u,rfl,?_⟩
  walk_at "rd"
  refine if2 (fun _=>?_) (fun h=>absurd hu h)
  walk_at "rd"
  refine ⟨t,u,rfl,?_⟩
  rw [hg]
  walk_at "rd"
  exact q
theorem iY:aE ["top", "bottom", "divisor"] ["top", "bottom"] (ai dW):=⟨rfl,rfl,rfl,by decide +kernel,rfl,by decide +kernel,by decide +kernel⟩
theorem rD (D:Def K mg "ratio" dW ["top", "bottom"]) (T:Txt K mg Z) (cW:b6 P w K mg base (bH P w) "common_divisor" 1 ["one", "other"] gR):b6 P w K mg base (bH P w) "ratio" 2 ["top", "bottom"] dG:=by
 refine D.dM iY (fun vs H Q E h=>?_) (fun f cO A outer s H vs Q E hr h=>?_)
 ·obtain ⟨a,b,rfl,_⟩:=h; rfl
 ·obtain ⟨a,b,rfl,hb,hz,q⟩:=h
  refine ⟨_,(af (b7 (aN ip (pv 1) ae (aU _)) (aq rh) aT)
   (af (aw (i:=2) iY.nd rfl (by first | exact Or.inl rfl | exact Or.inr rfl) (ar cW hr aM (aa (pv 0) (aa (pv 1) ag))))
   (af (b7 (aN mf (pv 1) ae (aU _)) (aq (aw (i:=2) iY.nd rfl (by first | exact Or.inl rfl | exact Or.inr rfl) (u9 p5 (pv 2)))) aT)
   (aq (aA (cR (aa (au i7 (pv 0) (pv 2)) (aa (au i7 (pv 1) (pv 2)) ag)))))))),?_⟩
  walk_at "rd"
  refine if2 (fun e=>absurd e hb) (fun _=>?_)
  have c1:oZ a _:=oR (a:=a) hb hz
  have c2:oZ b _:=oR (a:=a) hb hz
  have c3:=oQ c1
  have c4:=oQ c2
  walk_at "rd"
  refine ⟨a,b,rfl,?_⟩
  walk_at "rd"
  refine if2 (fun jP=>?_) (fun jP=>?_)
  ·walk_at "rd"
   intro p hp
   exact q _ _ p _ (lj hb (by rw [if_pos jP])) (ao.upd hp) ah
  ·walk_at "rd"
   intro p hp
   exact q _ _ p _ (lj hb (by rw [if_neg jP])) (ao.upd hp) ah
theorem cu:aE ["row", "bottom", "number"] ["row"] (ai aW):=⟨rfl,rfl,rfl,by decide +kernel,rfl,by decide +kernel,by decide +kernel⟩
theorem g9 (D:Def K mg "common_bottom" aW ["row"]) (T:Txt K mg Z) (cW:b6 P w K mg base (bH P w) "common_divisor" 1 ["one", "other"] gR):b6 P w K mg base (bH P w) "common_bottom" 2 ["row"] gS:=by
 refine D.dM cu (fun vs H Q E h=>?_) (fun f cO A outer s H vs Q E hr h=>?_)
 ·obtain ⟨a,ps,fs,z,rfl,_⟩:=h; rfl
 ·obtain ⟨a,ps,fs,z,rfl,ha,pr,fq,hz,hl,q⟩:=h
  refine ⟨_,(af (aw (i:=1) cu.nd rfl (by first | exact Or.inl rfl | exact Or.inr rfl) ae)
   (af (eR PassesOwn.never rfl (du (pv 0)) (aH (i:=2) cu.nd rfl (by first | exact Or.inl rfl | exact Or.inr rfl))
   (aq (aw (i:=1) cu.nd rfl (by first | exact Or.inl rfl | exact Or.inr rfl) (au bU (au eA (pv 1) (ar cW hr aM (aa (pv 1) (aa (aK bV (pv 2) ae (fun _ _=>rfl)) ag)))) (aK bV (pv 2) ae (fun _ _=>rfl))))))
   (aq (aA (pv 1))))),?_⟩
  dsimp only [dS]
  walk_at "rd"
  refine fZ ?_
  refine ⟨_,rfl,a,rfl,⟨_,aB.of ha⟩,jo (K:=K) (a:=a) (xs:=ps.map V.ref) (fun i σ H1=>∃ (b:Int) (v:Option V),σ = [some (.ref a),some (.int b),v]∧b = jE (fs.take i)∧H1 = H∧0 < b∧(∀ f∈fs.take i,f.2 ∣ b)∧b.natAbs≤pd (fs.take i)∧Sz (z * i + 1) b) ⟨1,none,rfl,by simp [jE],rfl,by decide,by simp,by simp [pd],by unfold Sz; exact Nat.one_lt_two_pow (by omega)⟩ (fun i σ H1 _ ⟨_,_,_,_,e,_⟩=>by rw [e]; exact aB.of ha) ?_ ?_⟩
  ·rintro i x σ H1 hx ⟨b,v,rfl,eb,rfl,b0,bd,bp,bz⟩
   rw [List.getElem?_map] at hx
   obtain ⟨c,hc,rfl⟩:∃ c,ps[i]? = some c∧x = V.ref c:=by
    cases e:ps[i]? with
    | none=>rw [e] at hx; cases hx
    | some c=>rw [e] at hx; exact ⟨c,rfl,(Option.some.inj hx).symm⟩
   obtain ⟨fr,hf,mq⟩:=pr.at hc
   have fm:=List.mem_of_getElem? hf
   have u0:=fq.pos fr fm
   have uz:=fq.bot fr fm
   obtain ⟨n0,n1,n2,n3⟩:=rN b0 u0
   have g0:=iO b (show fr.2≠0 by omega)
   have gz:As b ((Int.gcd b fr.2:Nat):Int):=⟨by omega,Sz.le (uz.mono hz) (by have:=Int.gcd_le_natAbs_right b (show fr.2≠0 by omega); simpa using this)⟩
   have mz:IntMulOk (b / ((Int.gcd b fr.2:Nat):Int)) fr.2:=Sz.fA (m:=10000000) (n:=9000) (Sz.mono (Sz.le bz (by
    have:(b / ((Int.gcd b fr.2:Nat):Int)).natAbs≤b.natAbs:=by
     have e1:=Int.ediv_nonneg (show 0≤b by omega) (show 0≤((Int.gcd b fr.2:Nat):Int) by omega)
     have e2:=Int.ediv_le_self ((Int.gcd b fr.2:Nat):Int) (show 0≤b by omega)
     omega
    exact this)) (by
     have hi:=(List.getElem?_eq_some_iff.mp hf).1
     have:z * i≤9000 * 1000:=Nat.mul_le_mul hz (by omega)
     omega)) (uz.mono hz)
   walk_at "rd"
   refine ⟨b,fr.2,rfl,?_⟩
   walk_at "rd"
   refine ⟨_,_,rfl,by rw [take_snoc hf,rO,← eb],rfl,n0,fun f rV=>?_,?_,?_⟩
   ·rw [take_snoc hf] at rV
    rcases List.mem_append.mp rV with y | y
    ·exact Int.dvd_trans (bd f y) n1
    ·rw [List.mem_singleton.mp y]; exact n2
   ·rw [take_snoc hf,gY,rC]
    exact Nat.le_trans n3 (Nat.mul_le_mul_right _ bp)
   ·have:=Sz.mul bz uz
    refine Sz.mono (Sz.le this (by rw [Int.natAbs_mul b]; exact n3)) ?_
    rw [Nat.mul_succ]
    omega
  ·rintro σ H1 ⟨b,v,rfl,eb,rfl,b0,bd,bp,bz⟩
   have pl:=pr.len
   rw [List.length_map,pl,List.take_length] at bd bp eb
   subst eb
   walk_at "rd"
   exact q b0 bd bp
theorem fy:aE ["row", "bottom"] ["row"] (ai bL):=⟨rfl,rfl,rfl,by decide +kernel,rfl,by decide +kernel,by decide +kernel⟩
theorem jJ (D:Def K mg "made_whole" bL ["row"]) (T:Txt K mg Z) (di:b6 P w K mg base (bH P w) "common_bottom" 2 ["row"] gS):b6 P w K mg base (bH P w) "made_whole" 3 ["row"] kA:=by
 refine D.dM fy (fun vs H Q E h=>?_) (fun f cO A outer s H vs Q E hr h=>?_)
 ·obtain ⟨a,ps,fs,z,rfl,_⟩:=h; rfl
 ·obtain ⟨a,ps,fs,z,rfl,ha,pr,fq,hz,hl,q⟩:=h
  have pl:=pr.len
  refine ⟨_,(af (aw (i:=1) fy.nd rfl (by first | exact Or.inl rfl | exact Or.inr rfl) (ar di hr aM (aa (pv 0) ag)))
   (aq (aA (dZ (tg:=["number"]) (fr:=[("bottom",1)]) (by walk_at "blk_ok") rfl (du (pv 0)) (fun _ _ _ _ _=>(aH (i:=0) (show [("number" : Str),("bottom" : Str)].Nodup by decide +kernel) rfl (by first | exact Or.inl rfl | exact Or.inr rfl))) (fun _ _ _ _ _=>bQ) (fun _ _ _ _ _=>(au bU (aK (oz (K:=K) rfl) (pv 0) ae (fun _ _=>rfl)) (au eA (pv 1) (aK (oz (K:=K) rfl) (pv 0) ae (fun _ _=>rfl))))))))),?_⟩
  dsimp only [dS]
  walk_at "rd"
  refine ⟨a,ps,fs,z,rfl,ha,pr,fq,hz,hl,fun b0 bd bp=>?_⟩
  obtain ⟨b,hb⟩:∃ b,jE fs = b:=⟨_,rfl⟩
  rw [hb] at b0 bd bp ⊢
  walk_at "rd"
  refine cQ ?_
  refine ⟨_,rfl,a,rfl,⟨_,aB.of ha⟩,fun acc cJ=>?_⟩
  refine dC (K:=K) (a:=a) (xs:=ps.map V.ref) (fun i σ' ys H1=>∃ (l:List Int) (v:Option V),σ' = [v,some (.int b)]∧ys = l.map V.int∧ao H H1∧H1 acc = some (.lst ys)∧Wh (fs.take i) b l)
   ⟨[],none,rfl,rfl,ao.upd cJ,ah,⟨b0,by simp,fun i f x h1=>by simp at h1⟩⟩ (fun i σ' ys H1 _ ⟨_,_,_,_,e,_⟩=>aB.of (e _ _ ha)) ?_ ?_
  ·rintro i x σ' ys H1 hx hi ⟨l,v,rfl,rfl,e1,a1,wh⟩
   rw [List.getElem?_map] at hx
   obtain ⟨c,hc,rfl⟩:∃ c,ps[i]? = some c∧x = V.ref c:=by
    cases e:ps[i]? with
    | none=>rw [e] at hx; cases hx
    | some c=>rw [e] at hx; exact ⟨c,rfl,(Option.some.inj hx).symm⟩
   obtain ⟨fr,hf,mq⟩:=pr.at hc
   have nK:=(List.getElem?_eq_some_iff.mp hf).1
   have fm:=List.mem_of_getElem? hf
   have u0:=fq.pos fr fm
   have uz:=fq.bot fr fm
   have tz:=fq.top fr fm
   obtain ⟨y,hy⟩:=bd fr fm
   have ey:b / fr.2 = y:=by rw [hy]; exact Int.mul_ediv_cancel_left _ (by omega)
   have ll:l.length = i:=by rw [wh.len,List.length_take]; omega
   have gz:As b fr.2:=⟨u0,uz.mono hz⟩
   have mz:IntMulOk fr.1 (b / fr.2):=by
    rw [ey]
    refine Sz.fA (m:=9000) (n:=10000000) (tz.mono hz) ?_
    have vi:y.natAbs≤pd fs:=Nat.le_trans (by rw [hy,Int.natAbs_mul]; exact Nat.le_mul_of_pos_left _ (by omega)) bp
    have Lj:∀ gs:List (Int×Int),(∀ f∈gs,Sz z f.2)→pd gs≤2 ^ (z * gs.length):=fun gs=>by
     induction gs with
     | nil=>intro _; exact Nat.le_refl _
     | cons g gs ih=>
      intro h
      rw [List.length_cons,Nat.mul_succ,Nat.add_comm,Nat.pow_add]
      exact Nat.mul_le_mul (Nat.le_of_lt (h g List.mem_cons_self)) (ih fun f hf=>h f (List.mem_cons_of_mem _ hf))
    have h2:=Lj fs fq.bot
    have h3:z * fs.length < 10000000:=Nat.lt_of_le_of_lt (Nat.mul_le_mul hz hl) (by decide)
    exact Nat.lt_of_le_of_lt (Nat.le_trans vi h2) (Nat.pow_lt_pow_right (by decide) h3)
   have LD:=e1 _ _ mq
   walk_at "rd"
   refine ⟨a1,by rw [List.length_map,ll]; exact aV (by omega),eg hi ⟨l ++ [fr.1 * (b / fr.2)],_,rfl,by rw [List.map_append]; rfl,ao.fresh e1 cJ,ah,⟨b0,?_,fun j g x h1 h2=>?_⟩⟩⟩
   ·rw [List.length_append,ll,List.length_take,List.length_singleton]; omega
   ·rw [take_snoc hf] at h1
    by_cases zz:j < i
    ·rw [List.getElem?_append_left (by rw [List.length_take]; omega)] at h1
     rw [List.getElem?_append_left (by omega)] at h2
     exact wh.eq j g x h1 h2
    ·have jl:=(List.getElem?_eq_some_iff.mp h2).1
     rw [List.length_append,List.length_singleton] at jl
     have ej:j = i:=by omega
     subst ej
     rw [List.getElem?_append_right (by rw [List.length_take]; omega),List.length_take,Nat.min_eq_left (by omega),Nat.sub_self] at h1
     rw [List.getElem?_append_right (by omega),ll,Nat.sub_self] at h2
     cases h1
     cases h2
     rw [ey,hy]
     grind
  ·rintro σ' ys H1 ⟨l,v,rfl,rfl,e1,a1,wh⟩
   rw [List.length_map,pl,List.take_length] at wh
   walk_at "rd"
   subst hb
   exact q acc l H1 e1 cJ a1 wh bp
theorem kJ:aE ["rows", "column", "first", "row", "joined"] ["rows", "column"] (ai ij):=⟨rfl,rfl,rfl,by decide +kernel,rfl,by decide +kernel,by decide +kernel⟩
theorem wC (D:Def K mg "led" ij ["rows", "column"]) (T:Txt K mg Z):b6 P w K mg base (bH P w) "led" 1 ["rows", "column"] (qm Z.cx):=by
 refine D.xq kJ (fun vs H Q E h=>?_) (fun f cO A outer s H vs Q E hr h=>?_)
 ·obtain ⟨p,as,L,n,m,c,rfl,_⟩:=h; rfl
 ·obtain ⟨p,as,L,n,m,c,rfl,g,rc,hc,EE,hn,hm,q,qe⟩:=h
  have gl:=g.len
  have rl:=rc.len
  obtain ⟨b,l,hb,hl,dv⟩:=g.at (i:=c) (by omega)
  have ll:=rc.row l (List.mem_of_getElem? hl)
  obtain ⟨x,hx⟩:∃ x,l[c]? = some x:=⟨l[c],by simp [show c < l.length by omega]⟩
  have ex:=eI hl hx
  have F1:gE (l.map V.int) ((c:Nat):Int) = some (V.int x):=bG (by rw [List.getElem?_map,hx]; rfl)
  refine ⟨_,(af (aw (i:=2) kJ.nd rfl (by first | exact Or.inl rfl | exact Or.inr rfl) (aK aO (pv 0) (pv 1) (fun _ _=>rfl)))
   (af (b7 (aN me (aK aO (pv 2) (pv 1) (fun _ _=>rfl)) ae (aU _)) (aq (aA (pv 0))) aT)
   (af (eR PassesOwn.leaving rfl (du (de dU (pv 0) (dX (au cA (pv 1) ae)) dY)) (aH (i:=3) kJ.nd rfl (by first | exact Or.inl rfl | exact Or.inr rfl))
   (aq (b7 (aN me (aK aO (pv 3) (pv 1) (fun _ _=>rfl)) ae (aU _)) (af (gc (i:=4) kJ.nd rfl (by first | exact Or.inl rfl | exact Or.inr rfl) (tg:=["one", "other"]) (fr:=[]) (by walk_at "blk_ok") rfl (gX T.zip (aa (pv 2) (aa (pv 3) ag))) (fun _ _ _ _ _=>(gd (K:=K) rfl (n:=2) rfl (bR (aH (i:=0) (show [("one" : Str),("other" : Str)].Nodup by decide +kernel) rfl (by first | exact Or.inl rfl | exact Or.inr rfl)) (bR (aH (i:=1) (show [("one" : Str),("other" : Str)].Nodup by decide +kernel) rfl (by first | exact Or.inl rfl | exact Or.inr rfl)) ez)))) (fun _ _ _ _ _=>bQ) (fun _ _ _ _ _=>(au cA (pv 0) (pv 1))))
   (aq (aA (au gZ (au gZ (de dU (pv 0) dY (dX (pv 1))) (eS (aa (pv 4) ag))) (de dU (pv 0) (dX (au cA (pv 1) ae)) dY))))) aT)))
   (aq (rf PySem.F.excBase_ValueError T.x_NoOne T.lF rfl (aa wx ag) vW))))),?_⟩
  dsimp only [dS]
  walk_at "rd"
  refine bI (aB.of g.top) (g.ix hb) ?_
  walk_at "rd"
  refine bI (aB.of dv) F1 ?_
  walk_at "rd"
  refine t9 (fun z=>?_) (fun z=>?_)
  ·walk_at "rd"
   exact q p as L H (fun _ _ e=>e) g (.inl ⟨rfl,by rw [ex]; exact z⟩)
  ·walk_at "rd"
   refine fZ ?_
   refine iK ?_
   refine kT (a:=p) (i:=0) (k:=1) (n:=c) rfl rfl (aB.of g.top) (by rw [List.length_map]; omega) fun p1 zk=>?_
   rw [← List.map_drop]
   have e1:ao H (upd H p1 (.lst ((as.drop (c + 1)).map V.ref))):=ao.upd zk
   have g1:=g.dropped (c + 1) zk
   generalize upd H p1 (.lst ((as.drop (c + 1)).map V.ref)) = H1 at e1 g1 ⊢
   refine ⟨p1,rfl,⟨_,aB.of g1.top⟩,jo (K:=K) (a:=p1) (xs:=(as.drop (c + 1)).map V.ref) (fun i σ H2=>∃ v3 v4:Option V,σ = [some (.ref p),some (.int (c:Int)),some (.ref b),v3,v4]∧ao H1 H2∧∀ r,c < r→r < c + 1 + i→mx L r c = 0) ⟨none,none,rfl,fun _ _ e=>e,fun r h1 h2=>by omega⟩ (fun i σ H2 _ ⟨_,_,_,e,_⟩=>aB.of (e _ _ g1.top)) ?_ ?_⟩
   ·rintro i y σ H2 hy ⟨v3,v4,rfl,e2,no⟩
    obtain ⟨d,hd,rfl⟩:=cz hy
    rw [List.getElem?_drop] at hd
    have hi:c + 1 + i < n:=by have:=(List.getElem?_eq_some_iff.mp hd).1; omega
    obtain ⟨d2,r,hd2,AY,wX⟩:=g.at (i:=c + 1 + i) (by omega)
    rw [hd] at hd2
    cases hd2
    have Jr:=rc.row r (List.mem_of_getElem? AY)
    obtain ⟨xr,Hm⟩:∃ x,r[c]? = some x:=⟨r[c],by simp [show c < r.length by omega]⟩
    have er:=eI AY Hm
    have Js:gE (r.map V.int) ((c:Nat):Int) = some (V.int xr):=bG (by rw [List.getElem?_map,Hm]; rfl)
    have hX:=e1.trans e2
    walk_at "rd"
    refine bI (aB.of (hX _ _ wX)) Js ?_
    walk_at "rd"
    refine t9 (fun z2=>?_) (fun z2=>?_)
    ·walk_at "rd"
     refine cQ ?_
     refine ⟨_,rfl,_,rfl,b,d,rfl,⟨_,aB.of (hX _ _ dv)⟩,⟨_,aB.of (hX _ _ wX)⟩,fun acc cJ=>?_⟩
     refine gB (K:=K) (a:=b) (b:=d) (xs:=l.map V.int) (ys:=r.map V.int) (n:=m) (by rw [List.length_map,List.length_map]; omega) (fun i σ' zs H3=>∃ v1 v2:Option V,σ' = [v1,v2]∧zs = ((List.zipWith (· + ·) l r).take i).map V.int∧ao H2 H3∧H3 acc = some (.lst zs))
      ⟨none,none,rfl,rfl,ao.upd cJ,ah⟩ (fun i σ' zs H3 _ ⟨_,_,_,_,e,_⟩=>⟨aB.of (e _ _ (hX _ _ dv)),aB.of (e _ _ (hX _ _ wX))⟩) ?_ ?_
     ·rintro j x1 y1 pr σ' zs H3 AU DY hj ⟨v1,v2,rfl,rfl,e3,a3⟩ x8
      obtain ⟨x1,vj,rfl⟩:=int_at AU
      obtain ⟨y1,vi,rfl⟩:=int_at DY
      have e4:ao H3 (upd H3 pr (.tup [.int x1,.int y1])):=ao.upd x8
      refine d4 (SqT.of ah) rfl ?_
      generalize upd H3 pr (.tup [.int x1,.int y1]) = H4 at e4 ⊢
      walk_at "rd"
      refine ⟨e4 _ _ a3,by rw [List.length_map,List.length_take]; exact aV (by omega),eg hj ⟨_,_,rfl,?_,ao.fresh (e3.trans e4) cJ,ah⟩⟩
      rw [lP vj vi,List.map_append]
      rfl
     ·rintro σ' zs H3 ⟨v1,v2,rfl,rfl,e3,a3⟩
      rw [List.take_of_length_le (by rw [List.length_zipWith]; omega)] at a3
      have g3:=(g.same hX).same e3
      walk_at "rd"
      refine oj (a:=p) (i:=0) (k:=1) (n:=c) rfl rfl (aB.of g3.top) (by rw [List.length_map]; omega) fun q1 w9=>?_
      rw [← List.map_take]
      have e4:ao H3 (upd H3 q1 (.lst ((as.take c).map V.ref))):=ao.upd w9
      have g4:=g3.taken c w9
      generalize upd H3 q1 (.lst ((as.take c).map V.ref)) = H4 at e4 g4 ⊢
      walk_at "rd"
      refine ⟨by rw [PySem.sizeLine_eq]; simp,fun q2 ud=>?_⟩
      have e5:ao H4 (upd H4 q2 (.lst [.ref acc])):=ao.upd ud
      have g5:=b9.one (e4 _ _ a3) ud
      have HJ:=g4.same e5
      refine ⟨q1,q2,_,_,rfl,rfl,HJ.top,g5.top,by rw [List.length_map,List.length_take,PySem.sizeLine_eq]; simp; omega,fun q3 w6=>?_⟩
      have g6:=HJ.ux g5 w6
      have e6:=e5.trans (ao.upd (o:=.lst ((as.take c).map V.ref ++ [acc].map V.ref)) w6)
      refine (?_:vK _ _ _ _ _ (upd _ q3 (.lst ((as.take c).map V.ref ++ [acc].map V.ref))) _)
      generalize upd (upd H4 q2 (.lst [.ref acc])) q3 (.lst ((as.take c).map V.ref ++ [acc].map V.ref)) = H6 at e6 g6 ⊢
      have ye:=e4.trans e6
      have HK:=g3.same ye
      refine kT (a:=p) (i:=0) (k:=1) (n:=c) rfl rfl (aB.of HK.top) (by rw [List.length_map]; omega) fun q4 AZ=>?_
      rw [← List.map_drop]
      have e7:ao H6 (upd H6 q4 (.lst ((as.drop (c + 1)).map V.ref))):=ao.upd AZ
      have g7:=HK.dropped (c + 1) AZ
      have ER:=g6.same e7
      generalize upd H6 q4 (.lst ((as.drop (c + 1)).map V.ref)) = H7 at e7 g7 ER ⊢
      refine ⟨q3,q4,_,_,rfl,rfl,ER.top,g7.top,by rw [List.length_map,List.length_map,List.length_append,List.length_take,List.length_drop,PySem.sizeLine_eq]; simp; omega,fun q5 ze=>?_⟩
      have g8:=ER.ux g7 ze
      rw [j5 (by omega)] at g8
      walk_at "rd"
      refine q q5 _ _ _ ((((hX.trans e3).trans ye).trans e7).trans (ao.upd ze)) g8 (.inr ⟨by rw [ex]; exact z,c + 1 + i,l,r,by omega,hi,hl,AY,by rw [er]; exact z2,rfl⟩)
    ·walk_at "rd"
     refine ⟨_,_,rfl,e2,fun q h1 h2=>?_⟩
     by_cases y:q = c + 1 + i
     ·rw [y,er]; exact z2
     ·exact no q h1 (by omega)
   ·rintro σ H2 ⟨v3,v4,rfl,e2,no⟩
    rw [List.length_map,List.length_drop] at no
    walk_at "rd"
    refine ⟨by show 1≤sizeLine; rw [PySem.sizeLine_eq]; decide,qe (fun r h1 h2=>?_) _ (e1.trans e2)⟩
    by_cases y:r = c
    ·subst y
     rw [ex]; exact z
    ·exact no r (by omega) (by omega)
theorem dH:aE ["row", "leader", "column", "last", "lead", "part"] ["row", "leader", "column", "last"] (ai bw):=⟨rfl,rfl,rfl,by decide +kernel,rfl,by decide +kernel,by decide +kernel⟩
theorem i8 (D:Def K mg "row_cleared" bw ["row", "leader", "column", "last"]) (T:Txt K mg Z):b6 P w K mg base (bH P w) "row_cleared" 1 ["row", "leader", "column", "last"] lV:=by
 refine D.dM dH (fun vs H Q E h=>?_) (fun f cO A outer s H vs Q E hr h=>?_)
 ·obtain ⟨a,b,r,l,c,m,d,rfl,_⟩:=h; rfl
 ·obtain ⟨a,b,r,l,c,m,d,rfl,ha,hb,rl,ll,hc,hm,d0,dz,rz,lz,q⟩:=h
  obtain ⟨x,hx⟩:∃ x,l[c]? = some x:=⟨l[c],by simp [show c < l.length by omega]⟩
  obtain ⟨y,hy⟩:∃ x,r[c]? = some x:=⟨r[c],by simp [show c < r.length by omega]⟩
  have ex:l.getD c 0 = x:=by rw [List.getD_eq_getElem?_getD,hx]; rfl
  have ey:r.getD c 0 = y:=by rw [List.getD_eq_getElem?_getD,hy]; rfl
  have xz:=lz x (List.mem_of_getElem? hx)
  have yz:=rz y (List.mem_of_getElem? hy)
  have F1:gE (l.map V.int) ((c:Nat):Int) = some (V.int x):=bG (by rw [List.getElem?_map,hx]; rfl)
  have MQ:gE (r.map V.int) ((c:Nat):Int) = some (V.int y):=bG (by rw [List.getElem?_map,hy]; rfl)
  refine ⟨_,(af (aw (i:=4) dH.nd rfl (by first | exact Or.inl rfl | exact Or.inr rfl) (aK aO (pv 1) (pv 2) (fun _ _=>rfl)))
   (af (aw (i:=5) dH.nd rfl (by first | exact Or.inl rfl | exact Or.inr rfl) (aK aO (pv 0) (pv 2) (fun _ _=>rfl)))
   (aq (aA (dZ (tg:=["one", "other"]) (fr:=[("last",3),("lead",4),("part",5)]) (by walk_at "blk_ok") rfl (gX T.zip (aa (pv 0) (aa (pv 1) ag))) (fun _ _ _ _ _=>(gd (K:=K) rfl (n:=2) rfl (bR (aH (i:=0) (show [("one" : Str),("other" : Str),("last" : Str),("lead" : Str),("part" : Str)].Nodup by decide +kernel) rfl (by first | exact Or.inl rfl | exact Or.inr rfl)) (bR (aH (i:=1) (show [("one" : Str),("other" : Str),("last" : Str),("lead" : Str),("part" : Str)].Nodup by decide +kernel) rfl (by first | exact Or.inl rfl | exact Or.inr rfl)) ez)))) (fun _ _ _ _ _=>bQ) (fun _ _ _ _ _=>(au i7 (au d5 (au bU (pv 3) (pv 0)) (au bU (pv 4) (pv 1))) (pv 2)))))))),?_⟩
  dsimp only [dS]
  walk_at "rd"
  refine bI (aB.of hb) F1 ?_
  walk_at "rd"
  refine bI (aB.of ha) MQ ?_
  walk_at "rd"
  refine cQ ?_
  refine ⟨_,rfl,_,rfl,a,b,rfl,⟨_,aB.of ha⟩,⟨_,aB.of hb⟩,fun acc cJ=>?_⟩
  refine gB (K:=K) (a:=a) (b:=b) (xs:=r.map V.int) (ys:=l.map V.int) (n:=m) (by rw [List.length_map,List.length_map]; omega) (fun i σ' zs H3=>∃ v1 v2:Option V,σ' = [v1,v2,some (.int d),some (.int x),some (.int y)]∧zs = ((qD r l c d).take i).map V.int∧ao H H3∧H3 acc = some (.lst zs))
   ⟨none,none,rfl,rfl,ao.upd cJ,ah⟩ (fun i σ' zs H3 _ ⟨_,_,_,_,e,_⟩=>⟨aB.of (e _ _ ha),aB.of (e _ _ hb)⟩) ?_ ?_
  ·rintro j x1 y1 pr σ' zs H3 AU DY hj ⟨v1,v2,rfl,rfl,e3,a3⟩ x8
   obtain ⟨x1,vj,rfl⟩:=int_at AU
   obtain ⟨y1,vi,rfl⟩:=int_at DY
   have e4:ao H3 (upd H3 pr (.tup [.int x1,.int y1])):=ao.upd x8
   refine d4 (SqT.of ah) rfl ?_
   generalize upd H3 pr (.tup [.int x1,.int y1]) = H4 at e4 ⊢
   have m1:=xz.fA (rz x1 (List.mem_of_getElem? vj))
   have m2:=yz.fA (lz y1 (List.mem_of_getElem? vi))
   have cf:oZ (x * x1 - y * y1) d:=⟨d0,dz⟩
   walk_at "rd"
   refine ⟨e4 _ _ a3,by rw [List.length_map,List.length_take]; exact aV (by omega),eg hj ⟨_,_,rfl,?_,ao.fresh (e3.trans e4) cJ,ah⟩⟩
   unfold qD
   rw [lP vj vi,List.map_append,ex,ey]
   rfl
  ·rintro σ' zs H3 ⟨v1,v2,rfl,rfl,e3,a3⟩
   rw [List.take_of_length_le (by unfold qD; rw [List.length_zipWith]; omega)] at a3
   walk_at "rd"
   exact q acc _ e3 cJ a3
theorem xF {L:List (List Int)} {n m c:Nat} {d:Int} {l:List Int} (r:fw L n m) (hc:c < n) (hl:L[c]? = some l):Gg L ((L.map fun r=>qD r l c d).set c l) n m c d:=by
 have ll:=r.row l (List.mem_of_getElem? hl)
 have hlen:c < (L.map fun r=>qD r l c d).length:=by rw [List.length_map,r.len]; exact hc
 refine ⟨⟨by rw [List.length_set,List.length_map]; exact r.len,fun k hk=>?_⟩,fun j hj=>?_,fun i j hi zm hj=>?_⟩
 ·rcases List.mem_or_eq_of_mem_set hk with z | rfl
  ·obtain ⟨x,hx,rfl⟩:=List.mem_map.mp z
   unfold qD
   rw [List.length_zipWith,ll,r.row x hx]
   omega
  ·exact ll
 ·rw [nD hlen,dm,eT hl]
 ·obtain ⟨x,hx,lx⟩:=r.at hi
  rw [nD hlen,eH _ _ zm,eT (l:=qD x l c d) (by rw [List.getElem?_map,hx]; rfl),eT hl,eT hx,eT hx,eT hl]
  unfold qD
  rw [List.getD_eq_getElem?_getD (l:=List.zipWith _ _ _),List.getElem?_zipWith]
  have h1:x[j]? = some (x.getD j 0):=by rw [List.getD_eq_getElem?_getD]; simp [show j < x.length by omega]
  have h2:l[j]? = some (l.getD j 0):=by rw [List.getD_eq_getElem?_getD]; simp [show j < l.length by omega]
  rw [h1,h2]
  rfl
theorem cb:aE ["rows", "column", "last", "leader", "above", "under"] ["rows", "column", "last"] (ai aS):=⟨rfl,rfl,rfl,by decide +kernel,rfl,by decide +kernel,by decide +kernel⟩
theorem gj (D:Def K mg "column_cleared" aS ["rows", "column", "last"]) (T:Txt K mg Z) (fB:b6 P w K mg base (bH P w) "row_cleared" 1 ["row", "leader", "column", "last"] lV):b6 P w K mg base (bH P w) "column_cleared" 2 ["rows", "column", "last"] lW:=by
 refine D.dM cb (fun vs H Q E h=>?_) (fun f cO A outer s H vs Q E hr h=>?_)
 ·obtain ⟨p,as,L,n,m,c,d,rfl,_⟩:=h; rfl
 ·obtain ⟨p,as,L,n,m,c,d,rfl,g,rc,hc,EE,hn,hm,d0,dz,lz,q⟩:=h
  have gl:=g.len
  have rl:=rc.len
  obtain ⟨b,l,hb,hl,dv⟩:=g.at (i:=c) (by omega)
  have ll:=rc.row l (List.mem_of_getElem? hl)
  have Hb:=lz l (List.mem_of_getElem? hl)
  refine ⟨_,(af (aw (i:=3) cb.nd rfl (by first | exact Or.inl rfl | exact Or.inr rfl) (aK aO (pv 0) (pv 1) (fun _ _=>rfl)))
   (af (gc (i:=4) cb.nd rfl (by first | exact Or.inl rfl | exact Or.inr rfl) (tg:=["row"]) (fr:=[("leader",3),("column",1),("last",2)]) (by walk_at "blk_ok") rfl (du (de dU (pv 0) dY (dX (pv 1)))) (fun _ _ _ _ _=>(aH (i:=0) (show [("row" : Str),("leader" : Str),("column" : Str),("last" : Str)].Nodup by decide +kernel) rfl (by first | exact Or.inl rfl | exact Or.inr rfl))) (fun _ _ _ _ _=>bQ) (fun _ _ _ _ _=>(ar fB hr aM (aa (pv 0) (aa (pv 1) (aa (pv 2) (aa (pv 3) ag)))))))
   (af (gc (i:=5) cb.nd rfl (by first | exact Or.inl rfl | exact Or.inr rfl) (tg:=["row"]) (fr:=[("leader",3),("column",1),("last",2)]) (by walk_at "blk_ok") rfl (du (de dU (pv 0) (dX (au cA (pv 1) ae)) dY)) (fun _ _ _ _ _=>(aH (i:=0) (show [("row" : Str),("leader" : Str),("column" : Str),("last" : Str)].Nodup by decide +kernel) rfl (by first | exact Or.inl rfl | exact Or.inr rfl))) (fun _ _ _ _ _=>bQ) (fun _ _ _ _ _=>(ar fB hr aM (aa (pv 0) (aa (pv 1) (aa (pv 2) (aa (pv 3) ag)))))))
   (aq (aA (au gZ (au gZ (pv 4) (eS (aa (pv 3) ag))) (pv 5))))))),?_⟩
  dsimp only [dS]
  walk_at "rd"
  refine bI (aB.of g.top) (g.ix hb) ?_
  walk_at "rd"
  refine cQ ?_
  refine iK ?_
  refine oj (a:=p) (i:=0) (k:=1) (n:=c) rfl rfl (aB.of g.top) (by rw [List.length_map]; omega) fun p1 zk=>?_
  rw [← List.map_take]
  have e1:ao H (upd H p1 (.lst ((as.take c).map V.ref))):=ao.upd zk
  have g1:=g.taken c zk
  generalize upd H p1 (.lst ((as.take c).map V.ref)) = H1 at e1 g1 ⊢
  refine ⟨p1,rfl,⟨_,aB.of g1.top⟩,fun acc cJ=>?_⟩
  refine dC (K:=K) (a:=p1) (xs:=(as.take c).map V.ref) (fun i σ' ys Hx=>∃ (cs:List Addr) (v:Option V),σ' = [v,some (.ref b),some (.int (c:Int)),some (.int d)]∧ys = cs.map V.ref∧ao H1 Hx∧cs.length = i∧b9 Hx acc cs (((L.take c).take i).map fun r=>qD r l c d)∧acc∉cs)
   ⟨[],none,rfl,rfl,ao.upd cJ,rfl,⟨ah,rfl,fun i a l z=>by simp at z⟩,by simp⟩ (fun i σ' ys Hx _ ⟨_,_,_,_,e,_⟩=>aB.of (e _ _ g1.top)) ?_ ?_
  ·rintro i x σ' ys Hx hx hi ⟨cs,v,rfl,rfl,ex,ED,gx,na⟩
   have nK:=hi
   rw [List.length_map,g1.len] at nK
   obtain ⟨a2,r,nM,uc,wX⟩:=g1.at nK
   obtain ⟨a3,zA,rfl⟩:=cz hx
   rw [nM] at zA
   cases zA
   have rm:r∈L:=List.mem_of_mem_take (List.mem_of_getElem? uc)
   have li:=nK
   rw [List.length_take] at li
   walk_at "rd"
   refine ⟨a2,b,r,l,c,m,d,rfl,ex _ _ wX,ex _ _ (e1 _ _ dv),rc.row r rm,ll,EE,hm,d0,dz,lz r rm,Hb,fun t Hy ey ft ht=>?_⟩
   have gy:=gx.same ey
   have nt:t≠acc:=fun z=>by rw [z] at ft; exact absurd gx.top (by rw [ft]; simp)
   refine ⟨gy.top,by rw [List.length_map]; exact aV (by omega),eg hi ⟨cs ++ [t],_,rfl,by simp,ao.fresh (ex.trans ey) cJ,by simp [ED],?_,?_⟩⟩
   ·rw [take_snoc uc,List.map_append]; exact gy.snoc na nt ht
   ·intro z
    rcases List.mem_append.mp z with z | z
    ·exact na z
    ·exact nt (List.mem_singleton.mp z).symm
  ·rintro σ' ys H2 ⟨cs,v,rfl,rfl,e2,HC,g2,na⟩
   rw [List.length_map,g1.len,List.take_length] at g2
   have hX:=e1.trans e2
   have gp:=g.same hX
   walk_at "rd"
   refine cQ ?_
   refine iK ?_
   refine kT (a:=p) (i:=0) (k:=1) (n:=c) rfl rfl (aB.of gp.top) (by rw [List.length_map]; omega) fun p3 Hr=>?_
   rw [← List.map_drop]
   have e3:ao H2 (upd H2 p3 (.lst ((as.drop (c + 1)).map V.ref))):=ao.upd Hr
   have g3:=gp.dropped (c + 1) Hr
   have HN:=g2.same e3
   generalize upd H2 p3 (.lst ((as.drop (c + 1)).map V.ref)) = H3 at e3 g3 HN ⊢
   refine ⟨p3,rfl,⟨_,aB.of g3.top⟩,fun sQ jj=>?_⟩
   refine dC (K:=K) (a:=p3) (xs:=(as.drop (c + 1)).map V.ref) (fun i σ' ys Hx=>∃ (cs:List Addr) (v:Option V),σ' = [v,some (.ref b),some (.int (c:Int)),some (.int d)]∧ys = cs.map V.ref∧ao H3 Hx∧cs.length = i∧b9 Hx sQ cs (((L.drop (c + 1)).take i).map fun r=>qD r l c d)∧sQ∉cs)
    ⟨[],none,rfl,rfl,ao.upd jj,rfl,⟨ah,rfl,fun i a l z=>by simp at z⟩,by simp⟩ (fun i σ' ys Hx _ ⟨_,_,_,_,e,_⟩=>aB.of (e _ _ g3.top)) ?_ ?_
   ·rintro i x σ' ys Hx hx hi ⟨cs,v,rfl,rfl,ex,ED,gx,na⟩
    have nK:=hi
    rw [List.length_map,g3.len] at nK
    obtain ⟨a2,r,nM,uc,wX⟩:=g3.at nK
    obtain ⟨a3,zA,rfl⟩:=cz hx
    rw [nM] at zA
    cases zA
    have rm:r∈L:=List.mem_of_mem_drop (List.mem_of_getElem? uc)
    have li:=nK
    rw [List.length_drop] at li
    walk_at "rd"
    refine ⟨a2,b,r,l,c,m,d,rfl,ex _ _ wX,ex _ _ (e3 _ _ (hX _ _ dv)),rc.row r rm,ll,EE,hm,d0,dz,lz r rm,Hb,fun t Hy ey ft ht=>?_⟩
    have gy:=gx.same ey
    have nt:t≠sQ:=fun z=>by rw [z] at ft; exact absurd gx.top (by rw [ft]; simp)
    refine ⟨gy.top,by rw [List.length_map]; exact aV (by omega),eg hi ⟨cs ++ [t],_,rfl,by simp,ao.fresh (ex.trans ey) jj,by simp [ED],?_,?_⟩⟩
    ·rw [take_snoc uc,List.map_append]; exact gy.snoc na nt ht
    ·intro z
     rcases List.mem_append.mp z with z | z
     ·exact na z
     ·exact nt (List.mem_singleton.mp z).symm
   ·rintro σ' ys H4 ⟨ds,v,rfl,rfl,e4,N4,g4,nd⟩
    rw [List.length_map,g3.len,List.take_length] at g4
    have HX:=(hX.trans e3).trans e4
    have LU:=HN.same e4
    walk_at "rd"
    refine ⟨by rw [PySem.sizeLine_eq]; simp,fun q2 ud=>?_⟩
    have e5:ao H4 (upd H4 q2 (.lst [.ref b])):=ao.upd ud
    have g5:=b9.one (HX _ _ dv) ud
    have HM:=LU.same e5
    have MA:=g2.len
    have Mz:=g4.len
    rw [List.length_map,List.length_take] at MA
    rw [List.length_map,List.length_drop] at Mz
    refine ⟨acc,q2,_,_,rfl,rfl,HM.top,g5.top,by rw [List.length_map,List.length_map,List.length_singleton,PySem.sizeLine_eq]; omega,fun q3 w6=>?_⟩
    have g6:=HM.ux g5 w6
    have e6:=e5.trans (ao.upd (o:=.lst (cs.map V.ref ++ [b].map V.ref)) w6)
    have HI:=g4.same e6
    walk_at "rd"
    refine ⟨q3,sQ,_,_,rfl,rfl,g6.top,HI.top,by rw [List.length_map,List.length_map,List.length_append,List.length_singleton,PySem.sizeLine_eq]; omega,fun q5 ze=>?_⟩
    have g8:=g6.ux HI ze
    rw [List.map_take,List.map_drop,j5 (by rw [List.length_map]; omega)] at g8
    walk_at "rd"
    exact q q5 _ _ _ ((HX.trans e6).trans (ao.upd ze)) g8 (xF rc hc hl)
theorem cU:aE ["rows", "last", "whole", "column"] ["rows"] (ai cN):=⟨rfl,rfl,rfl,by decide +kernel,rfl,by decide +kernel,by decide +kernel⟩
theorem nB (D:Def K mg "cleared" cN ["rows"]) (T:Txt K mg Z) (zB:b6 P w K mg base (bH P w) "led" 1 ["rows", "column"] (qm Z.cx)) (hR:b6 P w K mg base (bH P w) "column_cleared" 2 ["rows", "column", "last"] lW):b6 P w K mg base (bH P w) "cleared" 3 ["rows"] (fG Z.cx):=by
 refine D.xq cU (fun vs H Q E h=>?_) (fun f cO A outer s H vs Q E hr h=>?_)
 ·obtain ⟨p,as,L,n,m,M,rfl,_⟩:=h; rfl
 ·obtain ⟨p,as,L,n,m,M,rfl,g,rc,Ll,hn,hm,hM,hb,hz,q,qe⟩:=h
  have gl:=g.len
  have rl:=rc.len
  refine ⟨_,(af (aw (i:=1) cU.nd rfl (by first | exact Or.inl rfl | exact Or.inr rfl) ae)
   (af (aw (i:=2) cU.nd rfl (by first | exact Or.inl rfl | exact Or.inr rfl) (pv 0))
   (af (eR PassesOwn.leaving rfl (dB rfl T.range (aa (aI cq (by rfl) T.len dP (aa (pv 0) ag)) ag)) (aH (i:=3) cU.nd rfl (by first | exact Or.inl rfl | exact Or.inr rfl))
   (af (aw (i:=2) cU.nd rfl (by first | exact Or.inl rfl | exact Or.inr rfl) (ar hR hr aM (aa (ar zB hr vb (aa (pv 2) (aa (pv 3) ag))) (aa (pv 3) (aa (pv 1) ag)))))
   (aq (aw (i:=1) cU.nd rfl (by first | exact Or.inl rfl | exact Or.inr rfl) (aK aO (aK aO (pv 2) (pv 3) (fun _ _=>rfl)) (pv 3) (fun _ _=>rfl))))))
   (aq (aA (pv 2)))))),?_⟩
  dsimp only [dS]
  walk_at "rd"
  refine fZ ?_
  refine ⟨_,rfl,_,_,rfl,.inl ⟨_,aB.of g.top,rfl⟩,(n:Int),by rw [List.length_map,gl,rl],by omega,by omega,?_⟩
  rw [Int.toNat_natCast]
  refine fh (fun i σ H1=>∃ (p2:Addr) (bs:List Addr) (W:List (List Int)) (d:Int) (B:Mx) (v:Option V),σ = [some (.ref p),some (.int d),some (.ref p2),v]∧ao H H1∧b9 H1 p2 bs W∧fw W n m∧Cd n m M i i (mx L) (mx W) d B)
   ⟨p,as,L,1,mx L,none,rfl,fun _ _ e=>e,g,rc,Cd.start hb⟩ ?_ ?_
  ·rintro i σ H1 hi ⟨p2,bs,W,d,B,v,rfl,e1,g1,r1,cd⟩
   simp only [Int.zero_add]
   walk_at "rd"
   refine ⟨p2,bs,W,n,m,i,rfl,g1,r1,hi,by omega,hn,hm,fun p3 cs W2 H2 e2 g2 ld=>?_,fun no H2 e2=>qe (cd.qv hi Ll no) _ (e1.trans e2)⟩
   obtain ⟨r2,AK,B2,xH⟩:=cd.DE r1 hi ld
   have wz:∀ l∈W2,∀ x∈l,Sz 9000 x:=fun l hl x hx=>by
    obtain ⟨a,ha⟩:=List.mem_iff_getElem?.mp hl
    obtain ⟨b,xo⟩:=List.mem_iff_getElem?.mp hx
    rw [← eI ha xo]
    exact Nat.lt_of_le_of_lt (xH.xM hM (by omega) a b) hz
   walk_at "rd"
   refine ⟨p3,cs,W2,n,m,i,d,rfl,g2,r2,hi,by omega,hn,hm,xH.ba.ne,Nat.lt_of_le_of_lt (xH.zO hM (by omega)) hz,wz,fun p4 ds W3 H3 e3 g3 cl=>?_⟩
   have zR:=xH.next r2 hi AK cl
   have l3:=cl.qB.len
   obtain ⟨a,l,ha,hl,dv⟩:=g3.at (i:=i) (by omega)
   have ll:=cl.qB.row l (List.mem_of_getElem? hl)
   obtain ⟨x,hx⟩:∃ x,l[i]? = some x:=⟨l[i],by simp [show i < l.length by omega]⟩
   have ex:mx W2 i i = x:=by rw [← cl.own i (by omega)]; exact eI hl hx
   rw [ex] at zR
   walk_at "rd"
   refine bI (aB.of g3.top) (g3.ix ha) ?_
   walk_at "rd"
   refine bI (aB.of dv) (bG (by rw [List.getElem?_map,hx]; rfl)) ?_
   walk_at "rd"
   exact ⟨p4,ds,W3,x,B2,_,rfl,(e1.trans e2).trans e3,g3,cl.qB,zR⟩
  ·rintro σ H1 ⟨p2,bs,W,d,B,v,rfl,e1,g1,r1,cd⟩
   walk_at "rd"
   exact q p2 bs W B d H1 e1 g1 r1 cd
theorem cm:aE ["rows", "bottom", "row", "whole"] ["rows"] (ai bx):=⟨rfl,rfl,rfl,by decide +kernel,rfl,by decide +kernel,by decide +kernel⟩
theorem i9 (D:Def K mg "determinant" bx ["rows"]) (T:Txt K mg Z) (ly:b6 P w K mg base (bH P w) "ratio" 2 ["top", "bottom"] dG) (di:b6 P w K mg base (bH P w) "common_bottom" 2 ["row"] gS) (eB:b6 P w K mg base (bH P w) "made_whole" 3 ["row"] kA) (hU:b6 P w K mg base (bH P w) "cleared" 3 ["rows"] (fG Z.cx)):b6 P w K mg base (bH P w) "determinant" 4 ["rows"] qo:=by
 refine D.dM cm (fun vs H Q E h=>?_) (fun f cO A outer s H vs Q E hr h=>?_)
 ·obtain ⟨p,as,R,n,M,PB,rfl,_⟩:=h; rfl
 ·obtain ⟨p,as,R,n,M,PB,rfl,g,rl,n1,fl,sz,q⟩:=h
  have gl:=g.len
  let bf:Nat→Int:=fun i=>jE (R.getD i [])
  have rowAt:∀ i,i < n→∃ fs,R[i]? = some fs∧R.getD i [] = fs:=fun i hi=>⟨R[i]'(by omega),by simp [show i < R.length by omega],by rw [List.getD_eq_getElem?_getD]; simp [show i < R.length by omega]⟩
  refine ⟨_,(af (b7 (aN ip (aI cq (by rfl) T.len dP (aa (pv 0) ag)) ae (aU _)) (aq (aA (cR (aa ae (aa ae ag))))) aT)
   (af (aw (i:=1) cm.nd rfl (by first | exact Or.inl rfl | exact Or.inr rfl) ae)
   (af (eR PassesOwn.never rfl (du (pv 0)) (aH (i:=2) cm.nd rfl (by first | exact Or.inl rfl | exact Or.inr rfl))
   (aq (aw (i:=1) cm.nd rfl (by first | exact Or.inl rfl | exact Or.inr rfl) (au bU (pv 1) (ar di hr aM (aa (pv 2) ag))))))
   (af (qZ (i:=3) hU hr (aa (dZ (tg:=["row"]) (fr:=[]) (by walk_at "blk_ok") rfl (du (pv 0)) (fun _ _ _ _ _=>(aH (i:=0) (show [("row" : Str)].Nodup by decide +kernel) rfl (by first | exact Or.inl rfl | exact Or.inr rfl))) (fun _ _ _ _ _=>bQ) (fun _ _ _ _ _=>(ar eB hr aM (aa (pv 0) ag)))) ag) mK T.lF cm.nd rfl rfl (fun _=>(aq (aA (cR (aa ae (aa ae ag)))))))
   (aq (aA (ar ly hr aM (aa (aK aO (aK aO (pv 3) ae (fun _ _=>rfl)) ae (fun _ _=>rfl)) (aa (pv 1) ag))))))))),?_⟩
  dsimp only [dS]
  walk_at "rd"
  refine ⟨_,_,rfl,.inl ⟨_,aB.of g.top,rfl⟩,?_⟩
  rw [List.length_map]
  walk_at "rd"
  refine if2 (fun z=>?_) (fun NO=>?_)
  ·have KD:n = 0:=by omega
   subst KD
   walk_at "rd"
   intro r wZ
   exact q 1 1 r _ ⟨show (0:Int) < 1 by decide,rfl⟩ (by show qt (1,1) = Dq.det 0 _; rw [gT]; rfl) (by rw [Nat.pow_zero]; decide) (by rw [Nat.pow_zero]; decide) (ao.upd wZ) ah
  have n0:0 < n:=by omega
  walk_at "rd"
  refine fZ ?_
  refine ⟨_,rfl,p,rfl,⟨_,aB.of g.top⟩,jo (K:=K) (a:=p) (xs:=as.map V.ref) (fun i σ H1=>∃ v2:Option V,σ = [some (.ref p),some (.int (pz i bf)),v2,none]∧H1 = H∧0 < pz i bf∧(pz i bf).natAbs≤PB ^ i) ⟨none,rfl,rfl,by show (0:Int) < 1; decide,by show (1:Int).natAbs≤1; decide⟩ (fun i σ H1 _ ⟨_,_,e,_⟩=>by rw [e]; exact aB.of g.top) ?_ ?_⟩
  ·rintro i x σ H1 hx ⟨v2,rfl,rfl,b0,bb⟩
   have il:=(List.getElem?_eq_some_iff.mp hx).1
   rw [List.length_map,gl,rl] at il
   obtain ⟨a,fs,ps,ha,hf,dv,zg⟩:=g.at (i:=i) (by omega)
   obtain ⟨a2,nM,rfl⟩:=cz hx
   rw [ha] at nM
   cases nM
   have fm:=List.mem_of_getElem? hf
   have ef:bf i = jE fs:=by
    show jE (R.getD i []) = _
    rw [List.getD_eq_getElem?_getD,hf]
    rfl
   walk_at "rd"
   refine ⟨a,ps,fs,9000,rfl,dv,zg,sz.fq fs fm,Nat.le_refl _,by rw [fl fs fm]; exact n1,fun l0 ld lp=>?_⟩
   have h1:(pz i bf).natAbs≤PB ^ n:=Nat.le_trans bb (Nat.pow_le_pow_right sz.p1 (by omega))
   have h2:(jE fs).natAbs≤PB ^ n:=Nat.le_trans lp (Nat.le_trans (sz.pb fs fm) (by
    have:=Nat.pow_le_pow_right sz.p1 (show 1≤n by omega)
    rw [Nat.pow_one] at this
    exact this))
   have NP:IntMulOk (pz i bf) (jE fs):=Sz.fA (m:=9000) (n:=9000) (Nat.lt_of_le_of_lt h1 sz.wB) (Nat.lt_of_le_of_lt h2 sz.wB)
   walk_at "rd"
   refine ⟨_,by rw [gb,ef]; rfl,rfl,?_,?_⟩
   ·rw [gb,ef]; exact Int.mul_pos b0 l0
   ·rw [gb,ef,Int.natAbs_mul,Nat.pow_succ]
    exact Nat.mul_le_mul bb (Nat.le_trans lp (sz.pb fs fm))
  ·rintro σ H1 ⟨v2,rfl,rfl,b0,bb⟩
   rw [List.length_map,gl,rl] at b0 bb ⊢
   walk_at "rd"
   refine cQ ?_
   refine ⟨_,rfl,p,rfl,⟨_,aB.of g.top⟩,fun acc cJ=>?_⟩
   refine dC (K:=K) (a:=p) (xs:=as.map V.ref) (fun i σ' ys Hx=>∃ (cs:List Addr) (L:List (List Int)) (v:Option V),σ' = [v]∧ys = cs.map V.ref∧ao H1 Hx∧b9 Hx acc cs L∧acc∉cs∧L.length = i∧∀ (j:Nat) (fs:List (Int×Int)) (l:List Int),R[j]? = some fs→L[j]? = some l→Wh fs (jE fs) l∧(jE fs).natAbs≤pd fs)
    ⟨[],[],none,rfl,rfl,ao.upd cJ,⟨ah,rfl,fun i a l z=>by simp at z⟩,by simp,rfl,fun j fs l _ z=>by simp at z⟩ (fun i σ' ys Hx _ ⟨_,_,_,_,_,e,_⟩=>aB.of (e _ _ g.top)) ?_ ?_
   ·rintro i x σ' ys Hx hx hi ⟨cs,L,v,rfl,rfl,ex,gx,ve,hL,inv⟩
    have il:=hi
    rw [List.length_map,gl,rl] at il
    obtain ⟨a,fs,ps,ha,hf,dv,zg⟩:=g.at (i:=i) (by omega)
    obtain ⟨a2,nM,rfl⟩:=cz hx
    rw [ha] at nM
    cases nM
    have fm:=List.mem_of_getElem? hf
    walk_at "rd"
    refine ⟨a,ps,fs,9000,rfl,ex _ _ dv,zg.same ex,sz.fq fs fm,Nat.le_refl _,by rw [fl fs fm]; exact n1,fun t l Hy ey ft ht wh lp=>?_⟩
    have gy:=gx.same ey
    have nt:t≠acc:=fun z=>by rw [z] at ft; exact absurd gx.top (by rw [ft]; simp)
    have cl:=gx.len
    refine ⟨gy.top,by rw [List.length_map]; exact aV (by omega),eg hi ⟨cs ++ [t],L ++ [l],_,rfl,by simp,ao.fresh (ex.trans ey) cJ,gy.snoc ve nt ht,?_,by rw [List.length_append,hL]; rfl,fun k pD l' h1 h2=>?_⟩⟩
    ·intro z
     rcases List.mem_append.mp z with z | z
     ·exact ve z
     ·exact nt (List.mem_singleton.mp z).symm
    ·by_cases z:k < L.length
     ·rw [List.getElem?_append_left z] at h2
      exact inv k pD l' h1 h2
     ·have kl:=(List.getElem?_eq_some_iff.mp h2).1
      rw [List.length_append,List.length_singleton] at kl
      have ek:k = i:=by omega
      subst ek
      rw [List.getElem?_append_right (by omega),hL,Nat.sub_self] at h2
      cases h2
      rw [hf] at h1
      cases h1
      exact ⟨wh,lp⟩
   ·rintro σ' ys H2 ⟨cs,L,v,rfl,rfl,e2,g2,ve,hL,inv⟩
    rw [List.length_map,gl,rl] at hL
    have each:∀ (i:Nat) (l:List Int),L[i]? = some l→∃ fs,R[i]? = some fs∧l.length = n∧Wh fs (jE fs) l∧∀ x∈l,x.natAbs≤M:=fun i l hl=>by
     have il:=(List.getElem?_eq_some_iff.mp hl).1
     obtain ⟨fs,hf,_⟩:=rowAt i (by omega)
     obtain ⟨wh,lp⟩:=inv i fs l hf hl
     have fm:=List.mem_of_getElem? hf
     have len:=wh.len
     rw [fl fs fm] at len
     refine ⟨fs,hf,len,wh,fun x hx=>?_⟩
     obtain ⟨j,hj⟩:=List.mem_iff_getElem?.mp hx
     have jl:=(List.getElem?_eq_some_iff.mp hj).1
     obtain ⟨fr,mq⟩:∃ fr,fs[j]? = some fr:=⟨fs[j]'(by rw [fl fs fm]; omega),by simp [show j < fs.length by rw [fl fs fm]; omega]⟩
     exact Nat.le_trans (lQ wh (sz.fq fs fm).pos mq hj) (Nat.le_trans (Nat.mul_le_mul_left _ lp) (sz.en fs fm fr (List.mem_of_getElem? mq)))
    have rc:fw L n n:=⟨hL,fun l hl=>by
     obtain ⟨i,hi⟩:=List.mem_iff_getElem?.mp hl
     obtain ⟨_,_,h,_⟩:=each i l hi
     exact h⟩
    have xM:∀ i j,(mx L i j).natAbs≤M:=fun i j=>by
     by_cases z:i < n∧j < n
     ·obtain ⟨l,hl,ll⟩:=rc.at z.1
      obtain ⟨x,hx⟩:∃ x,l[j]? = some x:=⟨l[j]'(by omega),by simp [show j < l.length by omega]⟩
      rw [eI hl hx]
      obtain ⟨_,_,_,_,h⟩:=each i l hl
      exact h x (List.mem_of_getElem? hx)
     ·rw [rc.out (by omega)]
      exact Nat.zero_le _
    have dw:((det n (mx L):Int):Rat) = ((pz n bf:Int):Rat) * dq n R:=mB fun i j hi hj=>by
     obtain ⟨l,hl,ll⟩:=rc.at hi
     obtain ⟨fs,hf,_,wh,_⟩:=each i l hl
     have fm:=List.mem_of_getElem? hf
     have ef:R.getD i [] = fs:=by rw [List.getD_eq_getElem?_getD,hf]; rfl
     obtain ⟨x,hx⟩:∃ x,l[j]? = some x:=⟨l[j]'(by omega),by simp [show j < l.length by omega]⟩
     obtain ⟨fr,mq⟩:∃ fr,fs[j]? = some fr:=⟨fs[j]'(by rw [fl fs fm]; omega),by simp [show j < fs.length by rw [fl fs fm]; omega]⟩
     show _ = fa (R.getD i []) j * ((jE (R.getD i []):Int):Rat)
     rw [ef,eI hl hx,kd mq]
     exact pY wh mq hx ((sz.fq fs fm).pos fr (List.mem_of_getElem? mq))
    have p0:((pz n bf:Int):Rat)≠0:=d3 (by omega)
    have JM:Sz 9000 (pz n bf):=Nat.lt_of_le_of_lt bb sz.wB
    walk_at "rd"
    refine ⟨acc,cs,L,n,n,M,rfl,g2,rc,Nat.le_refl _,n1,n1,sz.m1,xM,sz.big,fun q2 ds W B d H3 e3 g3 r3 cd=>?_,fun qv H3 e3=>⟨_,rfl,T.m1,?_⟩⟩
    ·have NH:=r3.len
     obtain ⟨a,l,ha,hl,dv⟩:=g3.at (i:=0) (by omega)
     have ll:=r3.row l (List.mem_of_getElem? hl)
     obtain ⟨x,hx⟩:∃ x,l[0]? = some x:=⟨l[0]'(by omega),by simp [show 0 < l.length by omega]⟩
     have ex:x = det n (mx L):=by rw [← eI hl hx]; exact cd.value n0
     walk_at "rd"
     refine bI (aB.of g3.top) (show gE (ds.map V.ref) ((0:Nat):Int) = some (V.ref a) from g3.ix ha) ?_
     walk_at "rd"
     refine bI (aB.of dv) (show gE (l.map V.int) ((0:Nat):Int) = some (V.int x) from bG (by rw [List.getElem?_map,hx]; rfl)) ?_
     walk_at "rd"
     refine ⟨x,pz n bf,rfl,by omega,JM,fun t u r H4 low e4 Lh=>q t u r H4 ⟨low.pos,low.co⟩ ?_ ?_ (Nat.le_trans low.ub bb) ((e2.trans e3).trans e4) Lh⟩
     ·rw [kU (by omega) low,ex,dw]
      grind
     ·refine Nat.le_trans low.ta ?_
      rw [ex]
      exact ee fun i j _ _=>xM i j
    ·walk_at "rd"
     intro r wY
     refine q 0 1 r _ ⟨by decide,by decide⟩ ?_ (Nat.zero_le _) (Nat.one_le_pow _ _ sz.p1) ((e2.trans e3).trans (ao.upd wY)) ah
     obtain ⟨u,_,ku,l,hl,h0⟩:=qv
     rw [mD ku hl h0] at dw
     have Ob:(0:Rat) = ((pz n bf:Int):Rat) * dq n R:=dw
     show ((0:Int):Rat) / ((1:Int):Rat) = _
     grind
theorem cD:aE ["_law_script", "_law_k", "_law_cell", "_law_j"] ["_law_script", "_law_k"] (ai bP):=⟨rfl,rfl,rfl,by decide +kernel,rfl,by decide +kernel,by decide +kernel⟩
theorem jN (D:Def K mg "_law_block" bP ["_law_script", "_law_k"]) (T:Txt K mg Z):b6 P w K mg base (bH P w) "_law_block" 1 ["_law_script", "_law_k"] (eP K):=by
 refine D.dM cD (fun vs H Q E h=>?_) (fun f cO A outer s H vs Q E hr h=>?_)
 ·obtain ⟨a,ns,k,rfl,_⟩:=h; rfl
 ·obtain ⟨a,ns,k,rfl,hS,Hw,Hv,q⟩:=h
  refine ⟨_,(af (aw (i:=2) cD.nd rfl (by first | exact Or.inl rfl | exact Or.inr rfl) ae)
   (af (b7 (aN mf (au cA ae (au bT (au eA (pv 1) ae) ae)) (aI cq (by rfl) T.len dP (aa (pv 0) ag)) (aU _)) (aq (aw (i:=2) cD.nd rfl (by first | exact Or.inl rfl | exact Or.inr rfl) (au eA (aK aO (pv 0) (au cA ae (au bT (au eA (pv 1) ae) ae)) (fun _ _=>rfl)) (fc (v:=10000000000000000000000000000000000000000000000000000000000000000) i6 ae ae ⟨by decide,by decide,by decide⟩ (by decide +kernel))))) aT)
   (af (eR PassesOwn.never rfl (dB rfl T.range (aa (au bT (pv 1) ae) ag)) (aH (i:=3) cD.nd rfl (by first | exact Or.inl rfl | exact Or.inr rfl))
   (aq (aw (i:=2) cD.nd rfl (by first | exact Or.inl rfl | exact Or.inr rfl) (au eA (pv 2) ae))))
   (aq (aA (au bT (pv 2) ae)))))),?_⟩
  dsimp only [dS]
  walk_at "rd"
  refine ⟨_,_,rfl,.inl ⟨_,hS,rfl⟩,?_⟩
  walk_at "rd"
  refine if2 (fun dh=>?_) (fun dh=>?_)
  ·walk_at "rd"
   rw [List.length_map] at dh
   obtain ⟨n0,zo⟩:=lg (ns:=ns) (k:=1 + k / 8 % 62) (by omega) dh
   refine bI hS zo ?_
   walk_at "rd"
   refine fZ ?_
   refine ⟨_,rfl,_,_,rfl,rfl,(show (0:Int) < 8 by decide),k % 8,rfl,by omega,by omega,fh (fun i σ H1=>∃ (c:Int) (v:Option V),σ = [some (.ref a),some (.int k),some (.int c),v]∧H1 = H) ⟨_,_,rfl,rfl⟩ ?_ ?_⟩
   ·rintro i σ H1 hi ⟨c,v,rfl,rfl⟩
    walk_at "rd"
    exact ⟨_,_,rfl,rfl⟩
   ·rintro σ H1 ⟨c,v,rfl,rfl⟩
    walk_at "rd"
    exact q _ (Int.emod_nonneg _ (by decide)) (Int.emod_lt_of_pos _ (by decide))
  ·walk_at "rd"
   refine fZ ?_
   refine ⟨_,rfl,_,_,rfl,rfl,(show (0:Int) < 8 by decide),k % 8,rfl,by omega,by omega,fh (fun i σ H1=>∃ (c:Int) (v:Option V),σ = [some (.ref a),some (.int k),some (.int c),v]∧H1 = H) ⟨_,_,rfl,rfl⟩ ?_ ?_⟩
   ·rintro i σ H1 hi ⟨c,v,rfl,rfl⟩
    walk_at "rd"
    exact ⟨_,_,rfl,rfl⟩
   ·rintro σ H1 ⟨c,v,rfl,rfl⟩
    walk_at "rd"
    exact q _ (Int.emod_nonneg _ (by decide)) (Int.emod_lt_of_pos _ (by decide))
theorem b8:aE ["_law_script", "_law_k", "_law_cell", "_law_number_here"] ["_law_script", "_law_k"] (ai bO):=⟨rfl,rfl,rfl,by decide +kernel,rfl,by decide +kernel,by decide +kernel⟩
theorem jM (D:Def K mg "_law_mixed" bO ["_law_script", "_law_k"]) (T:Txt K mg Z) (lA:b6 P w K mg base (bH P w) "_law_block" 1 ["_law_script", "_law_k"] (eP K)):b6 P w K mg base (bH P w) "_law_mixed" 2 ["_law_script", "_law_k"] (eP K):=by
 refine D.dM b8 (fun vs H Q E h=>?_) (fun f cO A outer s H vs Q E hr h=>?_)
 ·obtain ⟨a,ns,k,rfl,_⟩:=h; rfl
 ·obtain ⟨a,ns,k,rfl,hS,Hw,Hv,q⟩:=h
  refine ⟨_,(af (aw (i:=2) b8.nd rfl (by first | exact Or.inl rfl | exact Or.inr rfl) ae)
   (af (b7 (aN mh (aI cq (by rfl) T.len dP (aa (pv 0) ag)) ae (aU _)) (aq (aw (i:=2) b8.nd rfl (by first | exact Or.inl rfl | exact Or.inr rfl) (aK aO (pv 0) ae (fun _ _=>rfl)))) aT)
   (af (b7 (aN ip (au bT (au eA (pv 2) (fc (v:=1000000) i6 ae ae ⟨by decide,by decide,by decide⟩ (by decide +kernel))) ae) ae (aU _)) (aq (aA (ar lA hr aM (aa (pv 0) (aa (pv 1) ag))))) aT)
   (af (b7 (aN mh (aI cq (by rfl) T.len dP (aa (pv 0) ag)) ae (aU _)) (aq (aw (i:=2) b8.nd rfl (by first | exact Or.inl rfl | exact Or.inr rfl) (aK aO (pv 0) (au bT (pv 1) (aI (pJ rfl) (by rfl) T.min xJ (aa ae (aa (aI cq (by rfl) T.len dP (aa (pv 0) ag)) ag)))) (fun _ _=>rfl)))) aT)
   (af (aw (i:=3) b8.nd rfl (by first | exact Or.inl rfl | exact Or.inr rfl) (au cA (au bT (pv 2) (fc (v:=1000000000000000000) i6 ae ae ⟨by decide,by decide,by decide⟩ (by decide +kernel))) (au bU ae (au cA (pv 1) ae))))
   (af (aw (i:=3) b8.nd rfl (by first | exact Or.inl rfl | exact Or.inr rfl) (au cA (au bT (au bU (pv 3) (pv 3)) ae) (au bU ae (pv 1))))
   (aq (aA (au bT (au bU (pv 3) (pv 3)) ae))))))))),?_⟩
  dsimp only [dS]
  walk_at "rd"
  refine ⟨_,_,rfl,.inl ⟨_,hS,rfl⟩,?_⟩
  walk_at "rd"
  refine if2 (fun jh=>?_) (fun jh=>?_)
  ·walk_at "rd"
   rw [List.length_map] at jh
   obtain ⟨n0,zo⟩:=lg (ns:=ns) (k:=0) (by omega) jh
   refine bI hS zo ?_
   walk_at "rd"
   refine if2 (fun _=>?_) (fun _=>?_)
   ·walk_at "rd"
    exact ⟨a,ns,k,rfl,hS,Hw,Hv,q⟩
   ·walk_at "rd"
    refine ⟨_,_,rfl,.inl ⟨_,hS,rfl⟩,?_⟩
    walk_at "rd"
    rw [List.length_map]
    refine if2 (fun _=>?_) (fun h=>absurd jh h)
    walk_at "rd"
    refine ⟨_,_,rfl,.inl ⟨_,hS,rfl⟩,?_⟩
    walk_at "rd"
    rw [List.length_map]
    refine ⟨_,_,rfl,?_⟩
    have mp:0 < (if (ns.length:Int) < 63 then (ns.length:Int) else 63):=by split <;> omega
    have ml:(if (ns.length:Int) < 63 then (ns.length:Int) else 63)≤ns.length:=by split <;> omega
    generalize (if (ns.length:Int) < 63 then (ns.length:Int) else 63) = mm at mp ml ⊢
    walk_at "rd"
    have i0:=Int.emod_nonneg k (show mm≠0 by omega)
    have i1:=Int.emod_lt_of_pos k mp
    obtain ⟨n1,Ln⟩:=lg (ns:=ns) (k:=k % mm) i0 (by omega)
    refine bI hS Ln ?_
    walk_at "rd"
    generalize n1 = cc
    have c0:=Int.emod_nonneg cc (show (1000000000000000000:Int)≠0 by decide)
    have c1:=Int.emod_lt_of_pos cc (show (0:Int) < 1000000000000000000 by decide)
    generalize cc % 1000000000000000000 = r at c0 c1 ⊢
    have hm:IntMulOk (r + 48271 * (k + 1)) (r + 48271 * (k + 1)):=mulL (by omega) (by omega)
    walk_at "rd"
    generalize (r + 48271 * (k + 1)) * (r + 48271 * (k + 1)) = zz
    have z0:=Int.emod_nonneg zz (show (2147483629:Int)≠0 by decide)
    have z1:=Int.emod_lt_of_pos zz (show (0:Int) < 2147483629 by decide)
    generalize zz % 2147483629 = r2 at z0 z1 ⊢
    have Em:IntMulOk (r2 + 69621 * k) (r2 + 69621 * k):=mulL (by omega) (by omega)
    walk_at "rd"
    exact q _ (Int.emod_nonneg _ (by decide)) (Int.emod_lt_of_pos _ (by decide))
  ·walk_at "rd"
   rw [List.length_map] at jh
   refine if2 (fun z=>absurd z (by decide)) (fun _=>?_)
   walk_at "rd"
   refine ⟨_,_,rfl,.inl ⟨_,hS,rfl⟩,?_⟩
   walk_at "rd"
   rw [List.length_map]
   refine if2 (fun h=>absurd h jh) (fun _=>?_)
   walk_at "rd"
   generalize AY:(0:Int) % 1000000000000000000 = r
   have c0:0≤r:=by omega
   have c1:r < 1000000000000000000:=by omega
   have hm:IntMulOk (r + 48271 * (k + 1)) (r + 48271 * (k + 1)):=mulL (by omega) (by omega)
   walk_at "rd"
   generalize (r + 48271 * (k + 1)) * (r + 48271 * (k + 1)) = zz
   have z0:=Int.emod_nonneg zz (show (2147483629:Int)≠0 by decide)
   have z1:=Int.emod_lt_of_pos zz (show (0:Int) < 2147483629 by decide)
   generalize zz % 2147483629 = r2 at z0 z1 ⊢
   have Em:IntMulOk (r2 + 69621 * k) (r2 + 69621 * k):=mulL (by omega) (by omega)
   walk_at "rd"
   exact q _ (Int.emod_nonneg _ (by decide)) (Int.emod_lt_of_pos _ (by decide))
theorem dI:aE ["_law_script", "_law_k", "_law_number_here", "_law_way"] ["_law_script", "_law_k"] (ai bA):=⟨rfl,rfl,rfl,by decide +kernel,rfl,by decide +kernel,by decide +kernel⟩
theorem ja (D:Def K mg "_law_number" bA ["_law_script", "_law_k"]) (T:Txt K mg Z) (cn:b6 P w K mg base (bH P w) "_law_cell_at" 1 ["_law_script", "_law_k"] (kC K)) (dy:b6 P w K mg base (bH P w) "_law_mixed" 2 ["_law_script", "_law_k"] (eP K)) (cE:b6 P w K mg base (bH P w) "_law_lowest" 2 ["_law_top", "_law_bottom"] dG):b6 P w K mg base (bH P w) "_law_number" 3 ["_law_script", "_law_k"] (gP K):=by
 refine D.dM dI (fun vs H Q E h=>?_) (fun f cO A outer s H vs Q E hr h=>?_)
 ·obtain ⟨a,ns,k,rfl,_⟩:=h; rfl
 ·obtain ⟨a,ns,k,rfl,hS,k0,k1,q⟩:=h
  refine ⟨_,(af (aw (i:=2) dI.nd rfl (by first | exact Or.inl rfl | exact Or.inr rfl) (ar dy hr aM (aa (pv 0) (aa (pv 1) ag))))
   (af (aw (i:=3) dI.nd rfl (by first | exact Or.inl rfl | exact Or.inr rfl) (au bT (ar cn hr aM (aa (pv 0) (aa ae ag))) ae))
   (af (b7 (aN ip (pv 3) ae (aU _)) (aq (aA (ar cE hr aM (aa (au d5 (au bT (pv 2) ae) ae) (aa (au cA ae (au bT (au eA (pv 2) ae) ae)) ag))))) aT)
   (af (b7 (aN ip (pv 3) ae (aU _)) (aq (aA (cR (aa (au cA (au d5 (au bT (ar cn hr aM (aa (pv 0) (aa (pv 1) ag))) (fc (v:=2000000000000000000) bU ae (fc (v:=1000000000000000000) i6 ae ae ⟨by decide,by decide,by decide⟩ (by decide +kernel)) (mulL (by decide) (by decide)) (by decide +kernel))) (fc (v:=1000000000000000000) i6 ae ae ⟨by decide,by decide,by decide⟩ (by decide +kernel))) (pv 2)) (aa ae ag))))) aT)
   (aq (aA (cR (aa (au d5 (au bT (pv 2) ae) ae) (aa ae ag))))))))),?_⟩
  try dsimp only [dS]
  walk_at "rd"
  refine ⟨a,ns,k,rfl,hS,k0,by omega,fun n n0 n1=>?_⟩
  walk_at "rd"
  refine ⟨a,ns,1,rfl,hS,by decide,fun c=>?_⟩
  walk_at "rd"
  refine if2 (fun _=>?_) (fun _=>?_)
  ·walk_at "rd"
   refine ⟨_,_,rfl,by omega,Sz.GK (by omega) (by omega) (by decide),fun t u p H1 low e1 hp=>?_⟩
   refine q t u p H1 ⟨⟨low.pos,low.co⟩,by have:=low.ub; have:=low.pos; show u≤6; omega,Sz.mono (m:=5) (by have:=low.ta; show t.natAbs < 32; omega) (by decide)⟩ e1 hp
  ·walk_at "rd"
   refine if2 (fun _=>?_) (fun _=>?_)
   ·walk_at "rd"
    refine ⟨a,ns,k,rfl,hS,k0,fun c2=>?_⟩
    walk_at "rd"
    intro p hp
    refine q _ 1 p _ ⟨⟨show (0:Int) < 1 by decide,by simp⟩,show (1:Int)≤6 by decide,?_⟩ (ao.upd hp) ah
    show (_:Int).natAbs < 2 ^ 61
    omega
   ·walk_at "rd"
    intro p hp
    refine q _ 1 p _ ⟨⟨show (0:Int) < 1 by decide,by simp⟩,show (1:Int)≤6 by decide,?_⟩ (ao.upd hp) ah
    show (_:Int).natAbs < 2 ^ 61
    omega
theorem kK:aE ["_law_script", "_law_many"] ["_law_script", "_law_many"] (ai bX):=⟨rfl,rfl,rfl,by decide +kernel,rfl,by decide +kernel,by decide +kernel⟩
theorem kY (D:Def K mg "_law_rows" bX ["_law_script", "_law_many"]) (T:Txt K mg Z) (d7:b6 P w K mg base (bH P w) "_law_number" 3 ["_law_script", "_law_k"] (gP K)):b6 P w K mg base (bH P w) "_law_rows" 4 ["_law_script", "_law_many"] (n5 K):=by
 refine D.dM kK (fun vs H Q E h=>?_) (fun f cO A outer s H vs Q E hr h=>?_)
 ·obtain ⟨a,ns,n,rfl,_⟩:=h; rfl
 ·obtain ⟨a,ns,n,rfl,hS,n8,q⟩:=h
  refine ⟨_,(aq (aA (rB (x0:= "_law_k") (tg:=["_law_k"]) (fr:=[("_law_script",0),("_law_many",1)]) (by walk_at "blk_ok1") rfl (dB rfl T.range (aa (pv 1) ag)) (fun _ _ _ _ _=>(aH (i:=0) (show [("_law_k" : Str),("_law_script" : Str),("_law_many" : Str)].Nodup by decide +kernel) rfl (by first | exact Or.inl rfl | exact Or.inr rfl))) (fun _ _ _ _ _=>bQ) (by intro _ _ _ _ _; exact dZ (tg:=["_law_j"]) (fr:=[("_law_script",1),("_law_k",0)]) (by walk_at "blk_ok") rfl (by exact (dB rfl T.range (aa (pv 2) ag))) (by exact (fun _ _ _ _ _=>(aH (i:=0) (show [("_law_j" : Str),("_law_script" : Str),("_law_k" : Str)].Nodup by decide +kernel) rfl (by first | exact Or.inl rfl | exact Or.inr rfl)))) (by exact (fun _ _ _ _ _=>bQ)) (by exact (fun _ _ _ _ _=>(ar d7 hr aM (aa (pv 1) (aa (au cA (au cA ae (au bU ae (pv 2))) (pv 0)) ag))))))))),?_⟩
  try dsimp only [dS]
  walk_at "rd"
  refine cQ ?_
  refine ⟨_,rfl,(n:Int),rfl,by omega,by omega,?_⟩
  rw [Int.toNat_natCast]
  intro acc cJ
  refine fL (fun i σ' ys H1=>∃ (v:Option V) (cs:List Addr) (R:List (List (Int×Int))),σ' = [v,some (.ref a),some (.int (n:Int))]∧ys = cs.map V.ref∧ao H H1∧FG H1 acc cs R∧acc∉cs∧R.length = i∧∀ fs∈R,fs.length = n∧∀ f∈fs,Nb f)
   ⟨none,[],[],rfl,rfl,ao.upd cJ,⟨ah,rfl,fun i a l z=>by simp at z⟩,by simp,rfl,by simp⟩ ?_ ?_
  ·rintro i σ' ys H1 hi ⟨v,cs,R,rfl,rfl,e1,g1,na,rl,inv⟩
   simp only [Int.zero_add]
   have cl:=g1.len
   walk_at "rd"
   refine cQ ?_
   refine ⟨_,rfl,(n:Int),rfl,by omega,by omega,?_⟩
   rw [Int.toNat_natCast]
   intro sQ jj
   refine fL (fun j σ' zs H2=>∃ (v:Option V) (ps:List Addr) (xs:List (Int×Int)),σ' = [v,some (.ref a),some (.int (i:Int))]∧zs = ps.map V.ref∧ao H1 H2∧H2 sQ = some (.lst zs)∧PR H2 ps xs∧xs.length = j∧∀ f∈xs,Nb f)
    ⟨none,[],[],rfl,rfl,ao.upd jj,ah,.nil,rfl,by simp⟩ ?_ ?_
   ·rintro j σ' zs H2 hj ⟨v,ps,xs,rfl,rfl,e2,a2,rp,xl,fx⟩
    simp only [Int.zero_add]
    walk_at "rd"
    refine ⟨a,ns,_,rfl,(e1.trans e2).seq hS,by omega,by omega,fun t u p H3 nb e3 hp=>?_⟩
    have GV:=rp.len
    refine ⟨e3 _ _ a2,by rw [List.length_map]; exact aV (by omega),eg hj ⟨_,ps ++ [p],xs ++ [(t,u)],rfl,by simp,ao.fresh (e2.trans e3) jj,ah,PR.off (PR.app (rp.same e3) (.cons hp .nil)) (.inr (e3 _ _ a2)),by rw [List.length_append,xl]; rfl,fun f hf=>?_⟩⟩
    rcases List.mem_append.mp hf with z | z
    ·exact fx f z
    ·rw [List.mem_singleton.mp z]; exact nb
   ·rintro σ' zs H2 ⟨v,ps,xs,rfl,rfl,e2,a2,rp,xl,fx⟩
    have g2:=g1.same e2
    have nb:sQ≠acc:=fun z=>by rw [z] at jj; exact absurd g1.top (by rw [jj]; simp)
    refine ⟨g2.top,by rw [List.length_map]; exact aV (by omega),eg hi ⟨_,cs ++ [sQ],R ++ [xs],rfl,by simp,ao.fresh (e1.trans e2) cJ,g2.snoc na nb a2 rp,?_,by rw [List.length_append,rl]; rfl,fun fs fS=>?_⟩⟩
    ·intro z
     rcases List.mem_append.mp z with z | z
     ·exact na z
     ·exact nb (List.mem_singleton.mp z).symm
    ·rcases List.mem_append.mp fS with z | z
     ·exact inv fs z
     ·rw [List.mem_singleton.mp z]; exact ⟨xl,fx⟩
  ·rintro σ' ys H1 ⟨v,cs,R,rfl,rfl,e1,g1,na,rl,inv⟩
   walk_at "rd"
   exact q acc cs R H1 e1 cJ g1 na rl inv
theorem kL:aE ["_law_one", "_law_other"] ["_law_one", "_law_other"] (ai bY):=⟨rfl,rfl,rfl,by decide +kernel,rfl,by decide +kernel,by decide +kernel⟩
theorem kZ (D:Def K mg "_law_plus" bY ["_law_one", "_law_other"]) (T:Txt K mg Z) (cE:b6 P w K mg base (bH P w) "_law_lowest" 2 ["_law_top", "_law_bottom"] dG):b6 P w K mg base (bH P w) "_law_plus" 3 ["_law_one", "_law_other"] fW:=by
 refine D.dM kL (fun vs H Q E h=>?_) (fun f cO A outer s H vs Q E hr h=>?_)
 ·obtain ⟨p,q,f,g,rfl,_⟩:=h; rfl
 ·obtain ⟨p,q,f,g,rfl,hp,hq,f0,g0,⟨z1,z2,z3,z4⟩,k⟩:=h
  have m1:=z1.fA z4
  have m2:=z3.fA z2
  have m3:=z2.fA z4
  refine ⟨_,(aq (aA (ar cE hr aM (aa (au cA (au bU (aK bV (pv 0) ae (fun _ _=>rfl)) (aK bV (pv 1) ae (fun _ _=>rfl))) (au bU (aK bV (pv 1) ae (fun _ _=>rfl)) (aK bV (pv 0) ae (fun _ _=>rfl)))) (aa (au bU (aK bV (pv 0) ae (fun _ _=>rfl)) (aK bV (pv 1) ae (fun _ _=>rfl))) ag))))),?_⟩
  try dsimp only [dS]
  walk_at "rd"
  have:=Int.mul_pos f0 g0
  refine ⟨_,_,rfl,by omega,(z2.mul z4).mono (by decide),fun t u r H1 low e1 wZ=>k t u r H1 low e1 wZ⟩
theorem jI:aE ["_law_one", "_law_other"] ["_law_one", "_law_other"] (ai bN):=⟨rfl,rfl,rfl,by decide +kernel,rfl,by decide +kernel,by decide +kernel⟩
theorem jL (D:Def K mg "_law_times" bN ["_law_one", "_law_other"]) (T:Txt K mg Z) (cE:b6 P w K mg base (bH P w) "_law_lowest" 2 ["_law_top", "_law_bottom"] dG):b6 P w K mg base (bH P w) "_law_times" 3 ["_law_one", "_law_other"] eO:=by
 refine D.dM jI (fun vs H Q E h=>?_) (fun f cO A outer s H vs Q E hr h=>?_)
 ·obtain ⟨p,q,f,g,rfl,_⟩:=h; rfl
 ·obtain ⟨p,q,f,g,rfl,hp,hq,f0,g0,⟨z1,z2,z3,z4⟩,k⟩:=h
  have m1:=z1.fA z3
  have m3:=z2.fA z4
  refine ⟨_,(aq (aA (ar cE hr aM (aa (au bU (aK bV (pv 0) ae (fun _ _=>rfl)) (aK bV (pv 1) ae (fun _ _=>rfl))) (aa (au bU (aK bV (pv 0) ae (fun _ _=>rfl)) (aK bV (pv 1) ae (fun _ _=>rfl))) ag))))),?_⟩
  try dsimp only [dS]
  walk_at "rd"
  have:=Int.mul_pos f0 g0
  refine ⟨_,_,rfl,by omega,(z2.mul z4).mono (by decide),fun t u r H1 low e1 wZ=>k t u r H1 low e1 wZ⟩
theorem nV {n:Nat} (h:n≤4):((n + 1) * (2 * 2 ^ 94)) ^ (n + 1) < 2 ^ 491:=by
 have h1:(n + 1) * (2 * 2 ^ 94)≤2 ^ 3 * (2 * 2 ^ 94):=Nat.mul_le_mul_right _ (by omega)
 have h2:2 ^ 3 * (2 * 2 ^ 94) = 2 ^ 98:=by decide
 rw [h2] at h1
 refine Nat.lt_of_le_of_lt (Nat.pow_le_pow_left h1 _) ?_
 rw [← Nat.pow_mul]
 exact Nat.pow_lt_pow_right (by decide) (by omega)
theorem j6:aE ["rows", "goals", "joined"] ["rows", "goals"] (ai dc):=⟨rfl,rfl,rfl,by decide +kernel,rfl,by decide +kernel,by decide +kernel⟩
theorem pe (D:Def K mg "solved" dc ["rows", "goals"]) (T:Txt K mg Z) (ly:b6 P w K mg base (bH P w) "ratio" 2 ["top", "bottom"] dG) (eB:b6 P w K mg base (bH P w) "made_whole" 3 ["row"] kA) (hU:b6 P w K mg base (bH P w) "cleared" 3 ["rows"] (fG Z.cx)):b6 P w K mg base (bH P w) "solved" 4 ["rows", "goals"] (gO Z.cx):=by
 refine D.xq j6 (fun vs H Q E h=>?_) (fun f cO A outer s H vs Q E hr h=>?_)
 ·obtain ⟨p,o,as,gp,R,gs,n,rfl,_⟩:=h; rfl
 ·obtain ⟨p,o,as,gp,R,gs,n,rfl,g,ho,pr,rl,sZ,hn,iF,eJ,q,qE⟩:=h
  have fn:Dt.sV n R gs:=⟨rl,sZ,fun fs fS=>⟨(iF fs fS).1,fun f hf=>((iF fs fS).2 f hf).1.1⟩,fun g hg=>(eJ g hg).1.1⟩
  have gl:=g.len
  have pl:=pr.len
  refine ⟨_,(af (gc (i:=2) j6.nd rfl (by first | exact Or.inl rfl | exact Or.inr rfl) (tg:=["row", "goal"]) (fr:=[]) (by walk_at "blk_ok") rfl (gX T.zip (aa (pv 0) (aa (pv 1) ag))) (fun _ _ _ _ _=>(gd (K:=K) rfl (n:=2) rfl (bR (aH (i:=0) (show [("row" : Str),("goal" : Str)].Nodup by decide +kernel) rfl (by first | exact Or.inl rfl | exact Or.inr rfl)) (bR (aH (i:=1) (show [("row" : Str),("goal" : Str)].Nodup by decide +kernel) rfl (by first | exact Or.inl rfl | exact Or.inr rfl)) ez)))) (fun _ _ _ _ _=>bQ) (fun _ _ _ _ _=>(ar eB hr aM (aa (au gZ (pv 0) (eS (aa (pv 1) ag))) ag))))
   (aq (aA (dZ (tg:=["k", "row"]) (fr:=[]) (by walk_at "blk_ok") rfl (tR T.enumerate (aa (ar hU hr vb (aa (pv 2) ag)) ag)) (fun _ _ _ _ _=>(gd (K:=K) rfl (n:=2) rfl (bR (aH (i:=0) (show [("k" : Str),("row" : Str)].Nodup by decide +kernel) rfl (by first | exact Or.inl rfl | exact Or.inr rfl)) (bR (aH (i:=1) (show [("k" : Str),("row" : Str)].Nodup by decide +kernel) rfl (by first | exact Or.inl rfl | exact Or.inr rfl)) ez)))) (fun _ _ _ _ _=>bQ) (fun _ _ _ _ _=>(ar ly hr aM (aa (aK (mj (K:=K) rfl) (pv 1) (u9 p5 ae) (fun _ _=>rfl)) (aa (aK (mj (K:=K) rfl) (pv 1) (pv 0) (fun _ _=>rfl)) ag)))))))),?_⟩
  dsimp only [dS]
  walk_at "rd"
  refine cQ ?_
  refine ⟨_,rfl,_,rfl,p,o,rfl,⟨_,aB.of g.top⟩,⟨_,aB.of ho⟩,fun acc cJ=>?_⟩
  refine gB (K:=K) (a:=p) (b:=o) (xs:=as.map V.ref) (ys:=gp.map V.ref) (n:=n) (by rw [List.length_map,List.length_map]; omega) (fun i σ' zs H1=>∃ (v1 v2:Option V) (cs:List Addr) (L:List (List Int)),σ' = [v1,v2]∧zs = cs.map V.ref∧ao H H1∧b9 H1 acc cs L∧acc∉cs∧L.length = i∧∀ (j:Nat) (fs:List (Int×Int)) (g:Int×Int) (l:List Int),R[j]? = some fs→gs[j]? = some g→L[j]? = some l→∃ b,Wh (fs ++ [g]) b l∧b.natAbs≤pd (fs ++ [g]))
   ⟨none,none,[],[],rfl,rfl,ao.upd cJ,⟨ah,rfl,fun i a l z=>by simp at z⟩,by simp,rfl,fun j fs g l _ _ z=>by simp at z⟩ (fun i σ' zs H1 _ ⟨_,_,_,_,_,_,e,_⟩=>⟨aB.of (e _ _ g.top),aB.of (e _ _ ho)⟩) ?_ ?_
  ·rintro j x y rk σ' zs H1 hx hy hj ⟨v1,v2,cs,L,rfl,rfl,e1,g1,na,hL,inv⟩ nJ
   obtain ⟨a,fs,ps,ha,hf,dv,x8⟩:=g.at (i:=j) (by omega)
   obtain ⟨a2,nM,rfl⟩:=cz hx
   rw [ha] at nM
   cases nM
   obtain ⟨c,hc,rfl⟩:=cz hy
   obtain ⟨gg,zu,yc⟩:=pr.at hc
   have fm:=List.mem_of_getElem? hf
   have gm:=List.mem_of_getElem? zu
   obtain ⟨fl,fp⟩:=fn.row fs fm
   have e2:ao H1 (upd H1 rk (.tup [.ref a,.ref c])):=ao.upd nJ
   refine d4 (SqT.of ah) rfl ?_
   generalize upd H1 rk (.tup [.ref a,.ref c]) = H2 at e2 ⊢
   have hX:=e1.trans e2
   walk_at "rd"
   refine ⟨by rw [PySem.sizeLine_eq]; simp,fun q1 w9=>?_⟩
   have e3:ao H2 (upd H2 q1 (.lst [.ref c])):=ao.upd w9
   have x3:upd H2 q1 (.lst [.ref c]) q1 = some (.lst ([c].map V.ref)):=ah
   have GV:=x8.len
   refine ⟨a,q1,_,_,rfl,rfl,(hX.trans e3) _ _ dv,x3,by rw [List.length_map,List.length_map,List.length_singleton,PySem.sizeLine_eq]; omega,fun q2 ud=>?_⟩
   have e4:=e3.trans (ao.upd (o:=.lst (ps.map V.ref ++ [c].map V.ref)) ud)
   have x4:upd (upd H2 q1 (.lst [.ref c])) q2 (.lst (ps.map V.ref ++ [c].map V.ref)) q2 = some (.lst ((ps ++ [c]).map V.ref)):=by rw [List.map_append]; exact ah
   walk_at "rd"
   refine ⟨q2,ps ++ [c],fs ++ [gg],400,rfl,x4,PR.app (x8.same (hX.trans e4)) (.cons ((hX.trans e4) _ _ yc) .nil),⟨fun f hf=>?_,fun f hf=>?_,fun f hf=>?_⟩,by decide,by rw [List.length_append,fl,List.length_singleton]; omega,fun t l H5 e5 ft ht wh bp=>?_⟩
   ·rcases List.mem_append.mp hf with z | z
    ·exact fp f z
    ·rw [List.mem_singleton.mp z]; exact fn.goal gg gm
   ·rcases List.mem_append.mp hf with z | z
    ·exact ((iF fs fm).2 f z).sz.1.mono (by decide)
    ·rw [List.mem_singleton.mp z]; exact (eJ gg gm).nc.sz.1.mono (by decide)
   ·rcases List.mem_append.mp hf with z | z
    ·exact ((iF fs fm).2 f z).sz.2.mono (by decide)
    ·rw [List.mem_singleton.mp z]; exact (eJ gg gm).nc.sz.2.mono (by decide)
   have HW:=(e2.trans e4).trans e5
   have g5:=g1.same HW
   have nt:t≠acc:=fun z=>by rw [z] at ft; exact absurd ((e2.trans e4) _ _ g1.top) (by rw [ft]; simp)
   have cl:=g1.len
   refine ⟨g5.top,by rw [List.length_map]; exact aV (by omega),eg hj ⟨_,_,cs ++ [t],L ++ [l],rfl,by simp,ao.fresh (e1.trans HW) cJ,g5.snoc na nt ht,?_,by rw [List.length_append,hL]; rfl,fun k pD g' l' h1 h2 h3=>?_⟩⟩
   ·intro z
    rcases List.mem_append.mp z with z | z
    ·exact na z
    ·exact nt (List.mem_singleton.mp z).symm
   ·by_cases z:k < L.length
    ·rw [List.getElem?_append_left z] at h3
     exact inv k pD g' l' h1 h2 h3
    ·have kl:=(List.getElem?_eq_some_iff.mp h3).1
     rw [List.length_append,List.length_singleton] at kl
     have ek:k = j:=by omega
     subst ek
     rw [List.getElem?_append_right (by omega),hL,Nat.sub_self] at h3
     cases h3
     rw [hf] at h1
     rw [zu] at h2
     cases h1
     cases h2
     exact ⟨_,wh,bp⟩
  ·rintro σ' zs H1 ⟨v1,v2,cs,L,rfl,rfl,e1,g1,na,hL,inv⟩
   have Bw:jw n R gs L:=⟨by omega,fun i fs g l h1 h2 h3=>let ⟨b,h4,_⟩:=inv i fs g l h1 h2 h3; ⟨b,h4⟩⟩
   have each:∀ (i:Nat) (l:List Int),L[i]? = some l→l.length = n + 1∧∀ x∈l,x.natAbs≤2 ^ 94:=fun i l hl=>by
    have il:=(List.getElem?_eq_some_iff.mp hl).1
    obtain ⟨fs,hf⟩:∃ fs,R[i]? = some fs:=⟨R[i]'(by omega),by simp [show i < R.length by omega]⟩
    obtain ⟨gg,hg⟩:∃ gg,gs[i]? = some gg:=⟨gs[i]'(by omega),by simp [show i < gs.length by omega]⟩
    obtain ⟨b,wh,bp⟩:=inv i fs gg l hf hg hl
    have fm:=List.mem_of_getElem? hf
    have gm:=List.mem_of_getElem? hg
    obtain ⟨fl,fp⟩:=fn.row fs fm
    have len:=wh.len
    rw [List.length_append,fl,List.length_singleton] at len
    refine ⟨len,fun x hx=>?_⟩
    obtain ⟨j,hj⟩:=List.mem_iff_getElem?.mp hx
    have jl:=(List.getElem?_eq_some_iff.mp hj).1
    obtain ⟨f,rV⟩:∃ f,(fs ++ [gg])[j]? = some f:=⟨(fs ++ [gg])[j]'(by rw [List.length_append,List.length_singleton]; omega),by simp [show j < fs.length + 1 by omega]⟩
    have L0:=List.mem_of_getElem? rV
    have b1:=lQ wh (fun f hf=>by
     rcases List.mem_append.mp hf with z | z
     ·exact fp f z
     ·rw [List.mem_singleton.mp z]; exact fn.goal gg gm) rV hj
    have Kz:∀ f∈fs ++ [gg],Nc f:=fun f hf=>by
     rcases List.mem_append.mp hf with z | z
     ·exact (iF fs fm).2 f z
     ·rw [List.mem_singleton.mp z]; exact (eJ gg gm).nc
    have b2:f.1.natAbs≤2 ^ 70:=Nat.le_of_lt (Kz f L0).2.2
    have b3:b.natAbs≤2 ^ 24:=by
     have h1:pd (fs ++ [gg])≤36 ^ n * 6:=by
      rw [gY,rC]
      have h2:gg.2.natAbs≤6:=by have:=(eJ gg gm).1.1; have:=(eJ gg gm).2.1; omega
      have h3:∀ l:List (Int×Int),(∀ f∈l,Nc f)→pd l≤36 ^ l.length:=fun l=>by
       induction l with
       | nil=>intro _; exact Nat.le_refl _
       | cons f l ih=>
        intro h
        rw [List.length_cons,Nat.pow_succ,Nat.mul_comm]
        have:=(h f List.mem_cons_self).1.1
        have:=(h f List.mem_cons_self).2.1
        exact Nat.mul_le_mul (by omega) (ih fun g hg=>h g (List.mem_cons_of_mem _ hg))
      have h4:=h3 fs (iF fs fm).2
      rw [fl] at h4
      exact Nat.mul_le_mul h4 h2
     have h5:36 ^ n≤36 ^ 4:=Nat.pow_le_pow_right (by decide) hn
     have h6:36 ^ n * 6≤36 ^ 4 * 6:=Nat.mul_le_mul_right _ h5
     have h7:36 ^ 4 * 6≤2 ^ 24:=by decide
     omega
    refine Nat.le_trans b1 (Nat.le_trans (Nat.mul_le_mul b2 b3) ?_)
    rw [← Nat.pow_add]
    exact Nat.le_refl _
   have rc:fw L n (n + 1):=⟨hL,fun l hl=>by
    obtain ⟨i,hi⟩:=List.mem_iff_getElem?.mp hl
    exact (each i l hi).1⟩
   have xM:∀ i j,(mx L i j).natAbs≤2 ^ 94:=fun i j=>by
    by_cases z:i < n∧j < n + 1
    ·obtain ⟨l,hl,ll⟩:=rc.at z.1
     obtain ⟨x,hx⟩:∃ x,l[j]? = some x:=⟨l[j]'(by omega),by simp [show j < l.length by omega]⟩
     rw [eI hl hx]
     exact (each i l hl).2 x (List.mem_of_getElem? hx)
    ·rw [rc.out (by omega)]
     exact Nat.zero_le _
   walk_at "rd"
   refine cQ ?_
   refine tJ ?_
   walk_at "rd"
   refine ⟨acc,cs,L,n,n + 1,2 ^ 94,rfl,g1,rc,by omega,by omega,by omega,Nat.one_le_two_pow,xM,Nat.lt_trans (nV hn) (Nat.pow_lt_pow_right (by decide) (by decide)),fun w2 ds W B d H2 e2 g2 r2 cd=>?_,fun qv H2 e2=>qE ((Bw.det fn).mp (qv.E3 (by omega))) H2 (e1.trans e2)⟩
   have L9:dq n R≠0:=fun z=>cd.ba.ne (by rw [← cd.vI]; exact (Bw.det fn).mpr z)
   have q:=q L9
   walk_at "rd"
   have HL:=g2.len
   have GS:=r2.len
   refine ⟨w2,rfl,⟨_,aB.of g2.top⟩,fun sQ jj=>?_⟩
   refine pI (K:=K) (a:=w2) (xs:=ds.map V.ref) (fun i σ' ys H3=>∃ (v v2:Option V) (ps:List Addr) (xs:List (Int×Int)),σ' = [v,v2]∧ys = ps.map V.ref∧ao H2 H3∧H3 sQ = some (.lst ys)∧PR H3 ps xs∧xs.length = i∧(∀ x∈xs,Lw x∧Sz 491 x.1∧Sz 491 x.2)∧∀ j,j < i→fa xs j = (mx W j n:Rat) / (d:Rat))
    ⟨none,none,[],[],rfl,rfl,ao.upd jj,ah,.nil,rfl,by simp,fun j z=>by omega⟩ (fun i σ' ys H3 _ ⟨_,_,_,_,_,_,e,_⟩=>aB.of (e _ _ g2.top)) ?_ ?_
   ·rintro i x rk σ' ys H3 hx hi ⟨v,v2,ps,xs,rfl,rfl,e3,a3,u5,xl,lw,eqs⟩ nJ
    have nK:=hi
    rw [List.length_map,HL,GS] at nK
    obtain ⟨b,l,hb,hl,dv⟩:=g2.at (i:=i) (by omega)
    obtain ⟨b2,xo,rfl⟩:=cz hx
    rw [hb] at xo
    cases xo
    have ll:=r2.row l (List.mem_of_getElem? hl)
    obtain ⟨y,hy⟩:∃ y,l[n]? = some y:=⟨l[n]'(by omega),by simp [show n < l.length by omega]⟩
    obtain ⟨xx,Hl⟩:∃ y,l[i]? = some y:=⟨l[i]'(by omega),by simp [show i < l.length by omega]⟩
    have ey:=eI hl hy
    have L6:=eI hl Hl
    have zH:xx = d:=by rw [← L6,cd.ba.done nK nK,if_pos rfl]
    have dz:Sz 491 d:=Nat.lt_of_le_of_lt (cd.zO Nat.one_le_two_pow (Nat.le_refl _)) (nV hn)
    have yz:Sz 491 y:=by rw [← ey]; exact Nat.lt_of_le_of_lt (cd.xM Nat.one_le_two_pow (Nat.le_refl _) _ _) (nV hn)
    have e4:ao H3 (upd H3 rk (.tup [.int i,.ref b])):=ao.upd nJ
    refine d4 (SqT.of ah) rfl ?_
    generalize upd H3 rk (.tup [.int i,.ref b]) = H4 at e4 ⊢
    have vk:=e4 _ _ (e3 _ _ dv)
    walk_at "rd"
    refine bI (aB.of vk) (uE ll hy) ?_
    walk_at "rd"
    refine bI (aB.of vk) (bG (by rw [List.getElem?_map,Hl]; rfl)) ?_
    walk_at "rd"
    refine ⟨y,xx,rfl,by rw [zH]; exact cd.ba.ne,by rw [zH]; exact dz.mono (by decide),fun t u r H5 low e5 Lg=>?_⟩
    have Bm:=e4.trans e5
    have Cw:PR H5 (ps ++ [r]) (xs ++ [(t,u)]):=PR.app (u5.same Bm) (.cons Lg .nil)
    have GV:=u5.len
    refine ⟨Bm _ _ a3,by rw [List.length_map]; exact aV (by omega),eg hi ⟨_,_,ps ++ [r],xs ++ [(t,u)],rfl,by simp,ao.fresh (e3.trans Bm) jj,ah,PR.off Cw (.inr (Bm _ _ a3)),by rw [List.length_append,xl]; rfl,fun x hx=>?_,fun j hj=>?_⟩⟩
    ·rcases List.mem_append.mp hx with z | z
     ·exact lw x z
     ·rw [List.mem_singleton.mp z]; exact ⟨⟨low.pos,low.co⟩,yz.le low.ta,(show Sz 491 xx by rw [zH]; exact dz).le low.ub⟩
    ·by_cases z:j < i
     ·have:fa (xs ++ [(t,u)]) j = fa xs j:=by
       unfold fa
       rw [List.getD_eq_getElem?_getD,List.getElem?_append_left (by omega),← List.getD_eq_getElem?_getD]
      rw [this]
      exact eqs j z
     ·have ej:j = i:=by omega
      subst ej
      rw [kd (f:=(t,u)) (by rw [List.getElem?_append_right (by omega),xl,Nat.sub_self]; rfl),kU (by rw [zH]; exact cd.ba.ne) low,ey,zH]
   ·rintro σ' ys H3 ⟨v,v2,ps,xs,rfl,rfl,e3,a3,u5,xl,lw,eqs⟩
    rw [List.length_map,HL,GS] at xl eqs
    walk_at "rd"
    have ur:=e1.trans e2
    exact q sQ ps xs H3 (ur.trans e3) (ur.free jj) a3 u5 xl lw (Bw.sol fn cd eqs)
theorem aF:aE ["_law_rows_here", "_law_columns", "_law_total", "_law_k", "_law_part"] ["_law_rows_here", "_law_columns"] (ai aC):=⟨rfl,rfl,rfl,by decide +kernel,rfl,by decide +kernel,by decide +kernel⟩
theorem oE (D:Def K mg "_law_sum_of_ways" aC ["_law_rows_here", "_law_columns"]) (T:Txt K mg Z) (bZ:b6 P w K mg base (bH P w) "_law_plus" 3 ["_law_one", "_law_other"] fW) (bu:b6 P w K mg base (bH P w) "_law_times" 3 ["_law_one", "_law_other"] eO) (m:Nat) (sp:Sp) (N1:m≤4) (oB:(sp = n6∧m = 0)∨∃ k,m = k + 1∧sp = dE k) (cK:b6 P w K mg base (bH P w) "_law_sum_of_ways" (m + 3) ["_law_rows_here", "_law_columns"] sp):b6 P w K mg base (bH P w) "_law_sum_of_ways" (m + 4) ["_law_rows_here", "_law_columns"] (dE m):=by
 refine D.dM aF (fun vs H Q E h=>?_) (fun f cO A outer s H vs Q E hr h=>?_)
 ·obtain ⟨j,hj,p,c,as,R,cs,rfl,_⟩:=h; rfl
 ·obtain ⟨j,hj,p,c,as,R,cs,rfl,g,hc,rl,cl,m4,ent,q⟩:=h
  refine ⟨_,(af (b7 (aN (kX hr.units) (pv 1) (eS ag) (aU _)) (aq (aA (cR (aa ae (aa ae ag))))) aT)
   (af (aw (i:=2) aF.nd rfl (by first | exact Or.inl rfl | exact Or.inr rfl) (cR (aa ae (aa ae ag))))
   (af (eR PassesOwn.never rfl (dB rfl T.range (aa (aI cq (by rfl) T.len dP (aa (pv 1) ag)) ag)) (aH (i:=3) aF.nd rfl (by first | exact Or.inl rfl | exact Or.inr rfl))
   (af (aw (i:=4) aF.nd rfl (by first | exact Or.inl rfl | exact Or.inr rfl) (ar (hk:=by omega) cK hr aM (aa (de dU (pv 0) (dX ae) dY) (aa (au gZ (de dU (pv 1) dY (dX (pv 3))) (de dU (pv 1) (dX (au cA (pv 3) ae)) dY)) ag))))
   (af (aw (i:=4) aF.nd rfl (by first | exact Or.inl rfl | exact Or.inr rfl) (ar (hk:=by omega) bu hr aM (aa (aK aO (aK aO (pv 0) ae (fun _ _=>rfl)) (aK aO (pv 1) (pv 3) (fun _ _=>rfl)) (fun _ _=>rfl)) (aa (pv 4) ag))))
   (af (b7 (aN ip (au bT (pv 3) ae) ae (aU _)) (aq (aw (i:=4) aF.nd rfl (by first | exact Or.inl rfl | exact Or.inr rfl) (cR (aa (au d5 ae (aK bV (pv 4) ae (fun _ _=>rfl))) (aa (aK bV (pv 4) ae (fun _ _=>rfl)) ag))))) aT)
   (aq (aw (i:=2) aF.nd rfl (by first | exact Or.inl rfl | exact Or.inr rfl) (ar (hk:=by omega) bZ hr aM (aa (pv 2) (aa (pv 4) ag)))))))))
   (aq (aA (pv 2)))))),?_⟩
  try dsimp only [dS]
  walk_at "rd"
  refine ⟨Nat.zero_le _,fun z hz=>?_⟩
  have e1:ao H (upd H z (.lst [])):=ao.upd hz
  refine ⟨fD (cs.map fun k:Nat=>(k:Int)),fD [],oh (e1 _ _ hc),oh ah,shaped_ints _,shaped_ints _,?_⟩
  rw [if_neg (by decide),uo]
  generalize upd H z (.lst []) = H1 at e1 ⊢
  walk_at "rd"
  refine if2 (fun h0=>?_) (fun h0=>?_)
  ·have c0:cs = []:=List.map_eq_nil_iff.mp h0
   have j0:j = 0:=by rw [← cl,c0]; rfl
   subst j0
   walk_at "rd"
   intro r wZ
   exact q 1 1 r _ ⟨show (0:Int) < 1 by decide,rfl⟩ (by show qt (1,1) = Dq.det 0 _; rw [gT]; rfl) (show (1:Int).natAbs < 2 by decide) (show (1:Int).natAbs < 2 by decide) (e1.trans (ao.upd wZ)) ah
  ·obtain ⟨i,rfl⟩:∃ i,j = i + 1:=⟨j - 1,by
    have:0 < cs.length:=List.length_pos_iff.mpr fun z=>h0 (by rw [z]; rfl)
    omega⟩
   obtain ⟨k0,rfl,rfl⟩:∃ k,m = k + 1∧sp = dE k:=by
    rcases oB with ⟨_,z⟩ | z
    ·omega
    ·exact z
   walk_at "rd"
   intro t0 Eb
   have e2:ao H1 (upd H1 t0 (.tup [.int 0,.int 1])):=ao.upd Eb
   have x2:upd H1 t0 (.tup [.int 0,.int 1]) t0 = some (.tup [.int 0,.int 1]):=ah
   generalize upd H1 t0 (.tup [.int 0,.int 1]) = H2 at e2 x2 ⊢
   have hX:=e1.trans e2
   walk_at "rd"
   refine fZ ?_
   refine ⟨_,rfl,_,_,rfl,.inl ⟨_,aB.of (hX _ _ hc),rfl⟩,((i + 1:Nat):Int),by rw [List.length_map,List.length_map,cl],by omega,by omega,?_⟩
   rw [Int.toNat_natCast]
   obtain ⟨a0,pW,GX,A3,Hz,zd,GY⟩:=g.at (i:=0) (by omega)
   have L1:=List.mem_of_getElem? Hz
   obtain ⟨FI,KA⟩:=ent pW L1
   have wl:=vH (k:=i) (by omega)
   have wi:i≤3:=by omega
   have big:∀ k,k≤i + 1→70 + (iR i).1 + 1 + k * (6 + (iR i).2 + 1)≤4000∧1 + k * (6 + (iR i).2)≤4000:=fun k hk=>by
    have h1:k * (6 + (iR i).2 + 1)≤4 * (6 + 450 + 1):=Nat.mul_le_mul (by omega) (by omega)
    have h2:k * (6 + (iR i).2)≤4 * (6 + 450):=Nat.mul_le_mul (by omega) (by omega)
    omega
   refine fh (fun k σ H3=>∃ (t u:Int) (r:Addr) (v3 v4:Option V),σ = [some (.ref p),some (.ref c),some (.ref r),v3,v4]∧ao H H3∧H3 r = some (.tup [.int t,.int u])∧Lw (t,u)∧qt (t,u) = sq k (fun b=>Dq.sg b * fa (R.getD 0 []) (cs.getD b 0) * Dq.det i (Dq.mi (fun a b=>fa (R.getD a []) (cs.getD b 0)) b))∧Sz (70 + (iR i).1 + 1 + k * (6 + (iR i).2 + 1)) t∧Sz (1 + k * (6 + (iR i).2)) u)
    ⟨0,1,t0,none,none,rfl,hX,x2,⟨show (0:Int) < 1 by decide,rfl⟩,by rw [gT]; rfl,Sz.mono (m:=0) (by show (0:Int).natAbs < 1; decide) (Nat.zero_le _),Sz.mono (m:=1) (by show (1:Int).natAbs < 2; decide) (by omega)⟩ ?_ ?_
   ·rintro k σ H3 hk ⟨t,u,r,v3,v4,rfl,e3,r3,lw,eq,z1,z2⟩
    simp only [Int.zero_add]
    have bk:=big k (by omega)
    have HD:cs[k]? = some cs[k]:=List.getElem?_eq_getElem (by omega)
    have gk:cs.getD k 0 = cs[k]:=by rw [List.getD_eq_getElem?_getD,HD]; rfl
    have MF:as.map V.ref = V.ref a0 :: (as.drop 1).map V.ref:=by
     cases as with
     | nil=>simp at A3
     | cons x xs=>simp at A3; subst A3; rfl
    have g3:=g.same e3
    walk_at "rd"
    refine vY (a:=p) (x:=V.ref a0) (xs:=(as.drop 1).map V.ref) rfl (by rw [← MF]; exact aB.of g3.top) fun q1 w9=>?_
    have e4:ao H3 (upd H3 q1 (.lst ((as.drop 1).map V.ref))):=ao.upd w9
    have g4:=g3.dropped 1 w9
    generalize upd H3 q1 (.lst ((as.drop 1).map V.ref)) = H4 at e4 g4 ⊢
    have HE:=(e3.trans e4) _ _ hc
    walk_at "rd"
    refine tK (a:=c) (i:=1) (k:=3) (n:=k) (r:=cs.map fun k:Nat=>(k:Int)) rfl rfl (aB.of HE) (by rw [List.length_map]; omega) fun q2 ud=>?_
    have e5:ao H4 (upd H4 q2 (.lst (((cs.map fun k:Nat=>(k:Int)).take k).map V.int))):=ao.upd ud
    have x5:upd H4 q2 (.lst (((cs.map fun k:Nat=>(k:Int)).take k).map V.int)) q2 = some (.lst (((cs.map fun k:Nat=>(k:Int)).take k).map V.int)):=ah
    generalize upd H4 q2 (.lst (((cs.map fun k:Nat=>(k:Int)).take k).map V.int)) = H5 at e5 x5 ⊢
    have LL:=e5 _ _ HE
    refine tI ?_
    walk_at "rd"
    refine r_op (r_var rfl (r_c (om ⟨_,rfl,?_⟩)))
    refine ⟨c,_,rfl,aB.of LL,fun q3 w6=>?_⟩
    rw [show ((k:Int) + 1) = ((k + 1:Nat):Int) by omega,sC (show k + 1≤(cs.map fun k:Nat=>(k:Int)).length by rw [List.length_map]; omega)]
    have e6:ao H5 (upd H5 q3 (.lst (((cs.map fun k:Nat=>(k:Int)).drop (k + 1)).map V.int))):=ao.upd w6
    have x6:upd H5 q3 (.lst (((cs.map fun k:Nat=>(k:Int)).drop (k + 1)).map V.int)) q3 = some (.lst (((cs.map fun k:Nat=>(k:Int)).drop (k + 1)).map V.int)):=ah
    generalize upd H5 q3 (.lst (((cs.map fun k:Nat=>(k:Int)).drop (k + 1)).map V.int)) = H6 at e6 x6 ⊢
    refine ⟨q2,q3,_,_,rfl,rfl,e6 _ _ x5,x6,by rw [List.length_map,List.length_map,List.length_take,List.length_drop,List.length_map,PySem.sizeLine_eq]; omega,fun q4 AZ=>?_⟩
    have eL:((cs.map fun k:Nat=>(k:Int)).take k).map V.int ++ ((cs.map fun k:Nat=>(k:Int)).drop (k + 1)).map V.int = ((cs.take k ++ cs.drop (k + 1)).map fun k:Nat=>(k:Int)).map V.int:=by
     simp [List.map_take,List.map_drop]
    rw [eL]
    have e7:ao H6 (upd H6 q4 (.lst (((cs.take k ++ cs.drop (k + 1)).map fun k:Nat=>(k:Int)).map V.int))):=ao.upd AZ
    have x7:upd H6 q4 (.lst (((cs.take k ++ cs.drop (k + 1)).map fun k:Nat=>(k:Int)).map V.int)) q4 = some (.lst (((cs.take k ++ cs.drop (k + 1)).map fun k:Nat=>(k:Int)).map V.int)):=ah
    generalize upd H6 q4 (.lst (((cs.take k ++ cs.drop (k + 1)).map fun k:Nat=>(k:Int)).map V.int)) = H7 at e7 x7 ⊢
    have xC:=(e5.trans e6).trans e7
    have HU:=e4.trans xC
    have lc:(cs.take k ++ cs.drop (k + 1)).length = i:=by rw [List.length_append,List.length_take,List.length_drop]; omega
    walk_at "rd"
    refine ⟨i,by omega,q1,q4,as.drop 1,R.drop 1,cs.take k ++ cs.drop (k + 1),rfl,g4.same xC,x7,by rw [List.length_drop]; omega,lc,by omega,fun fs fS=>?_,fun t1 u1 r1 H8 G9 eq1 y1 y2 e8 r8=>?_⟩
    ·obtain ⟨h1,h2⟩:=ent fs (List.mem_of_mem_drop fS)
     refine ⟨fun b hb=>h1 b ?_,h2⟩
     rcases List.mem_append.mp hb with z | z
     ·exact List.mem_of_mem_take z
     ·exact List.mem_of_mem_drop z
    have zK:=(e3.trans HU).trans e8
    have minor:wz (R.drop 1) (cs.take k ++ cs.drop (k + 1)) i = Dq.det i (Dq.mi (fun a b=>fa (R.getD a []) (cs.getD b 0)) k):=by
     unfold wz
     refine Dq.bK fun a b ha hb=>?_
     rw [pB (by omega)]
     have:(R.drop 1).getD a [] = R.getD (a + 1) []:=by rw [List.getD_eq_getElem?_getD,List.getD_eq_getElem?_getD,List.getElem?_drop,Nat.add_comm]
     rw [this]
     rfl
    obtain ⟨fk,A2⟩:∃ f,pW[cs[k]]? = some f:=⟨_,List.getElem?_eq_getElem (FI _ (List.getElem_mem _))⟩
    have NK:=GY.len
    have NR:=(List.getElem?_eq_some_iff.mp A2).1
    obtain ⟨ak,HG⟩:∃ a,GX[cs[k]]? = some a:=⟨GX[cs[k]]'(by omega),List.getElem?_eq_getElem _⟩
    obtain ⟨L4,rV,K7⟩:=GY.at HG
    obtain rfl:fk = L4:=by rw [A2] at rV; exact Option.some.inj rV
    have nk:=KA fk (List.mem_of_getElem? A2)
    walk_at "rd"
    refine bI (aB.of (zK _ _ g.top)) (show gE (as.map V.ref) ((0:Nat):Int) = some (V.ref a0) from g.ix A3) ?_
    walk_at "rd"
    refine bI (aB.of (zK _ _ hc)) (bG (j:=k) (v:=V.int (cs[k]:Int)) (by rw [List.getElem?_map,List.getElem?_map,HD]; rfl)) ?_
    refine bI (aB.of (zK _ _ zd)) (bG (j:=cs[k]) (v:=V.ref ak) (by rw [List.getElem?_map,HG]; rfl)) ?_
    walk_at "rd"
    have w4:(iR i).1≤4000∧(iR i).2≤4000:=by omega
    refine ⟨ak,r1,fk,(t1,u1),rfl,zK _ _ K7,r8,nk.1.1,G9.1,⟨nk.sz.1.mono (by decide),nk.sz.2.mono (by decide),y1.mono w4.1,y2.mono w4.2⟩,fun t2 u2 r2 H9 rL e9 r9=>?_⟩
    have p1:Sz (70 + (iR i).1) t2:=Sz.le (nk.sz.1.mul y1) rL.ta
    have p2:Sz (6 + (iR i).2) u2:=Sz.le (nk.sz.2.mul y2) rL.ub
    have GU:qt (t2,u2) = qt fk * qt (t1,u1):=lZ (by have:=nk.1.1; omega) (by have:0 < u1:=G9.1; show u1≠0; omega) rL
    have L8:=zK.trans e9
    have JJ:=(HU.trans e8).trans e9
    have fz:fa (R.getD 0 []) (cs.getD k 0) = qt fk:=by
     rw [gk,List.getD_eq_getElem?_getD,Hz]
     exact kd A2
    walk_at "rd"
    refine K2 (fun σ' H'=>∃ (t3 u3:Int) (r3:Addr),σ' = [some (.ref p),some (.ref c),some (.ref r),some (.int (k:Int)),some (.ref r3)]∧ao H9 H'∧H' r3 = some (.tup [.int t3,.int u3])∧0 < u3∧Sz (70 + (iR i).1) t3∧Sz (6 + (iR i).2) u3∧qt (t3,u3) = Dq.sg k * qt fk * qt (t1,u1)) (fun σ' vF hh=>?_) (fun h key=>?_) (fun h key=>?_)
    ·obtain ⟨t3,u3,rr,rfl,yf,Av,IH,s1,s2,q3⟩:=hh
     walk_at "rd"
     refine ⟨r,rr,(t,u),(t3,u3),rfl,yf _ _ (JJ _ _ r3),Av,lw.1,IH,⟨z1.mono bk.1,z2.mono bk.2,s1.mono (by omega),s2.mono (by omega)⟩,fun t4 u4 r4 tm lq lO JK=>?_⟩
     have q4:=ow (f:=(t,u)) (g:=(t3,u3)) (by have:0 < u:=lw.1; show u≠0; omega) (by show u3≠0; omega) lq
     obtain ⟨m1,m2⟩:=sP (a:=70 + (iR i).1) (b:=6 + (iR i).2) (j:=k) lq z1 z2 s1 s2
     refine ⟨t4,u4,r4,_,_,rfl,(L8.trans yf).trans lO,JK,⟨lq.pos,lq.co⟩,?_,m1,m2⟩
     rw [q4,eq,q3]
     show _ = sq k _ + _
     dsimp only
     rw [fz,← minor,← eq1]
    ·walk_at "rd"
     intro r3 wY
     refine key _ _ ⟨0 - t2,u2,r3,rfl,ao.upd wY,ah,rL.pos,?_,p2,?_⟩
     ·rw [Int.zero_sub]; exact p1.neg
     ·rw [wj,GU,Dq.m8,if_pos (by omega)]
      grind
    ·exact kQ (key _ _ ⟨t2,u2,r2,rfl,fun _ _ e=>e,r9,rL.pos,p1,p2,by rw [GU,Dq.m8,if_neg (by omega)]; grind⟩)
   ·rintro σ H3 ⟨t,u,r,v3,v4,rfl,e3,r3,lw,eq,z1,z2⟩
    walk_at "rd"
    exact q t u r H3 lw eq z1 z2 e3 r3
theorem fu (D:Def K mg "_law_sum_of_ways" aC ["_law_rows_here", "_law_columns"]) (T:Txt K mg Z) (bZ:b6 P w K mg base (bH P w) "_law_plus" 3 ["_law_one", "_law_other"] fW) (bu:b6 P w K mg base (bH P w) "_law_times" 3 ["_law_one", "_law_other"] eO):b6 P w K mg base (bH P w) "_law_sum_of_ways" 8 ["_law_rows_here", "_law_columns"] (dE 4):=by
 have go:∀ m,m≤4→b6 P w K mg base (bH P w) "_law_sum_of_ways" (m + 4) ["_law_rows_here", "_law_columns"] (dE m):=by
  intro m
  induction m with
  | zero=>exact fun h=>oE D T bZ bu 0 n6 h (.inl ⟨rfl,rfl⟩) (D.dM aF (fun vs H Q E h=>h.elim) (fun f cO A outer s H vs Q E hr h=>h.elim))
  | succ k ih=>exact fun h=>oE D T bZ bu (k + 1) (dE k) h (.inr ⟨k,rfl,rfl⟩) (ih (by omega))
 exact go 4 (Nat.le_refl _)
theorem cP:aE ["_law_rows_here", "_law_goals", "_law_caught_here", "e"] ["_law_rows_here", "_law_goals"] (ai bC):=⟨rfl,rfl,rfl,by decide +kernel,rfl,by decide +kernel,by decide +kernel⟩
theorem jc (D:Def K mg "_law_caught" bC ["_law_rows_here", "_law_goals"]) (T:Txt K mg Z) (jk:b6 P w K mg base (bH P w) "solved" 4 ["rows", "goals"] (gO Z.cx)):b6 P w K mg base (bH P w) "_law_caught" 5 ["_law_rows_here", "_law_goals"] (j4 Z.cx):=by
 refine D.dM cP (fun vs H Q E h=>?_) (fun f cO A outer s H vs Q E hr h=>?_)
 ·obtain ⟨p,o,as,gp,R,gs,n,rfl,_⟩:=h; rfl
 ·obtain ⟨p,o,as,gp,R,gs,n,rfl,g,ho,pr,rl,sZ,hn,iF,eJ,z,q⟩:=h
  refine ⟨_,(af (aw (i:=2) cP.nd rfl (by first | exact Or.inl rfl | exact Or.inr rfl) wA)
   (af (q0 jk hr (aa (pv 0) (aa (pv 1) ag)) mK T.nS cP.nd (jn:=3) rfl rfl (fun _=>(aq (aw (i:=2) cP.nd rfl (by first | exact Or.inl rfl | exact Or.inr rfl) (pv 3)))))
   (aq (aA (pv 2))))),?_⟩
  dsimp only [dS]
  walk_at "rd"
  refine ⟨p,o,as,gp,R,gs,n,rfl,g,ho,pr,rl,sZ,hn,iF,eJ,fun no=>absurd z no,fun _ H1 e1=>⟨_,rfl,T.m6,fun x hx=>?_⟩⟩
  walk_at "rd"
  exact q x _ (e1.trans (ao.upd hx)) ah
theorem eG:aE ["_law_rows_here", "_law_goals", "_law_caught_here"] ["_law_rows_here", "_law_goals"] (ai bg):=⟨rfl,rfl,rfl,by decide +kernel,rfl,by decide +kernel,by decide +kernel⟩
theorem iz (D:Def K mg "_law_refused" bg ["_law_rows_here", "_law_goals"]) (T:Txt K mg Z) (jR:b6 P w K mg base (bH P w) "_law_caught" 5 ["_law_rows_here", "_law_goals"] (j4 Z.cx)):b6 P w K mg base (bH P w) "_law_refused" 6 ["_law_rows_here", "_law_goals"] iX:=by
 refine D.dM eG (fun vs H Q E h=>?_) (fun f cO A outer s H vs Q E hr h=>?_)
 ·obtain ⟨p,o,as,gp,R,gs,n,rfl,_⟩:=h; rfl
 ·obtain ⟨p,o,as,gp,R,gs,n,rfl,g,ho,pr,rl,sZ,hn,iF,eJ,z,q⟩:=h
  refine ⟨_,(af (aw (i:=2) eG.nd rfl (by first | exact Or.inl rfl | exact Or.inr rfl) (ar jR hr aM (aa (pv 0) (aa (pv 1) ag))))
   (af (b7 (eQ (aI jv (by rfl) T.isinstance bD (aa (pv 2) (aa (cR (aa (b5 (v:=.ref Z.Flat) rfl T.xI rfl) (aa (b5 (v:=.ref Z.gK) rfl T.pO rfl) (aa (b5 (v:=.ref Z.jA) rfl T.sM rfl) (aa (b5 (v:=.ref Z.mR) rfl T.uA rfl) (aa (b5 (v:=.ref Z.gJ) rfl T.pN rfl) (aa (b5 (v:=.ref Z.eX) rfl T.nR rfl) (aa (b5 (v:=.ref Z.gI) rfl T.pM rfl) (aa (b5 (v:=.ref Z.gH) rfl T.pL rfl) ag))))))))) ag)))) (aq (aA ik)) aT)
   (af (b7 (eQ (aI jv (by rfl) T.isinstance bD (aa (pv 2) (aa (cR (aa (b5 (v:=.ref Z.jz) rfl T.sL rfl) (aa (b5 (v:=.ref Z.jy) rfl T.sJ rfl) (aa (b5 (v:=.ref Z.gG) rfl T.pK rfl) (aa (b5 (v:=.ref Z.mQ) rfl T.uy rfl) (aa (b5 (v:=.ref Z.eh) rfl T.mJ rfl) (aa (b5 (v:=.ref Z.jx) rfl T.sI rfl) ag))))))) ag)))) (aq (aA ik)) aT)
   (aq (aA (i5 (aI ju (by rfl) T.isinstance bD (aa (pv 2) (aa (b5 (v:=.ref Z.cx) rfl T.lF rfl) ag))) (iZ (aI ju (by rfl) T.isinstance bD (aa (pv 2) (aa (gf (v:=.ty "ValueError") rfl T.ValueError jT rfl) ag)))))))))),?_⟩
  dsimp only [dS]
  walk_at "rd"
  refine ⟨p,o,as,gp,R,gs,n,rfl,g,ho,pr,rl,sZ,hn,iF,eJ,z,fun x H0 e0 AV=>?_⟩
  walk_at "rd"
  refine ⟨by rw [PySem.sizeLine_eq]; simp,fun tp xX=>?_⟩
  walk_at "rd"
  refine ot (.exc (by rw [av (aG AV xX)]; exact AV) T.iI) ah (.cons (.ref _) (.cons (.ref _) (.cons (.ref _) (.cons (.ref _) (.cons (.ref _) (.cons (.ref _) (.cons (.ref _) (.cons (.ref _) .nil)))))))) T.m3 ?_
  have e1:ao H0 (upd H0 tp (.tup [.ref Z.Flat,.ref Z.gK,.ref Z.jA,.ref Z.mR,.ref Z.gJ,.ref Z.eX,.ref Z.gI,.ref Z.gH])):=ao.upd xX
  generalize upd H0 tp (.tup [.ref Z.Flat,.ref Z.gK,.ref Z.jA,.ref Z.mR,.ref Z.gJ,.ref Z.eX,.ref Z.gI,.ref Z.gH]) = H1 at e1 ⊢
  have EH:=e1 _ _ AV
  walk_at "rd"
  refine ⟨by rw [PySem.sizeLine_eq]; simp,fun tq Ho=>?_⟩
  walk_at "rd"
  refine ot (.exc (by rw [av (aG EH Ho)]; exact EH) T.iI) ah (.cons (.ref _) (.cons (.ref _) (.cons (.ref _) (.cons (.ref _) (.cons (.ref _) (.cons (.ref _) .nil)))))) T.m4 ?_
  have e2:ao H1 (upd H1 tq (.tup [.ref Z.jz,.ref Z.jy,.ref Z.gG,.ref Z.mQ,.ref Z.eh,.ref Z.jx])):=ao.upd Ho
  generalize upd H1 tq (.tup [.ref Z.jz,.ref Z.jy,.ref Z.gG,.ref Z.mQ,.ref Z.eh,.ref Z.jx]) = H2 at e2 ⊢
  have nM:=e2 _ _ EH
  walk_at "rd"
  refine oq (.exc nM T.iI) (.ref _) T.m2 ?_
  walk_at "rd"
  refine oq (.exc nM T.iI) (.ty _) T.m5 ?_
  exact q _ ((e0.trans e1).trans e2)
theorem bc:aE ["_law_found", "_law_rows_here", "_law_goals", "_law_row", "_law_goal", "_law_total", "_law_number_here", "_law_answer"] ["_law_found", "_law_rows_here", "_law_goals"] (ai aX):=⟨rfl,rfl,rfl,by decide +kernel,rfl,by decide +kernel,by decide +kernel⟩
theorem hE (D:Def K mg "_law_answered" aX ["_law_found", "_law_rows_here", "_law_goals"]) (T:Txt K mg Z) (cL:b6 P w K mg base (bH P w) "_law_is_fraction" 2 ["_law_found"] (gQ K)) (bZ:b6 P w K mg base (bH P w) "_law_plus" 3 ["_law_one", "_law_other"] fW) (bu:b6 P w K mg base (bH P w) "_law_times" 3 ["_law_one", "_law_other"] eO):b6 P w K mg base (bH P w) "_law_answered" 5 ["_law_found", "_law_rows_here", "_law_goals"] ig:=by
 refine D.dM bc (fun vs H Q E h=>?_) (fun f cO A outer s H vs Q E hr h=>?_)
 ·obtain ⟨t,p,o,ps,as,gp,xs,R,gs,n,rfl,_⟩:=h; rfl
 ·obtain ⟨t,p,o,ps,as,gp,xs,R,gs,n,rfl,ht,px,g,ho,pr,rl,sZ,xl,hn,iF,eJ,fx,sol,q⟩:=h
  refine ⟨_,(af (b7 (PW.pt (pw_or (gU (eQ (aI fi (by rfl) T.isinstance bD (aa (pv 0) (aa (gf (v:=.ty "list") rfl T.list lG rfl) ag))))) (pw_or1 (aN me (aI cq (by rfl) T.len dP (aa (pv 0) ag)) (aI cq (by rfl) T.len dP (aa (pv 1) ag)) (aU _))))) (aq (aA ik)) aT)
   (af (eR PassesOwn.never rfl (gX T.zip (aa (pv 1) (aa (pv 2) ag))) (ny (n:=2) rfl (bR (aH (i:=3) bc.nd rfl (by first | exact Or.inl rfl | exact Or.inr rfl)) (bR (aH (i:=4) bc.nd rfl (by first | exact Or.inl rfl | exact Or.inr rfl)) ez)))
   (af (aw (i:=5) bc.nd rfl (by first | exact Or.inl rfl | exact Or.inr rfl) (cR (aa ae (aa ae ag))))
   (af (eR PassesOwn.never rfl (gX T.zip (aa (pv 3) (aa (pv 0) ag))) (ny (n:=2) rfl (bR (aH (i:=6) bc.nd rfl (by first | exact Or.inl rfl | exact Or.inr rfl)) (bR (aH (i:=7) bc.nd rfl (by first | exact Or.inl rfl | exact Or.inr rfl)) ez)))
   (af (b7 (gU (eQ (ar cL hr aM (aa (pv 7) ag)))) (aq (aA ik)) aT)
   (aq (aw (i:=5) bc.nd rfl (by first | exact Or.inl rfl | exact Or.inr rfl) (ar bZ hr aM (aa (pv 5) (aa (ar bu hr aM (aa (pv 6) (aa (pv 7) ag))) ag)))))))
   (aq (b7 (aN (nA hr.units) (pv 5) (pv 4) (aU _)) (aq (aA ik)) aT)))))
   (aq (aA ik)))),?_⟩
  dsimp only [dS]
  walk_at "rd"
  refine kR (.lst ht) (.ty _) wL ?_
  walk_at "rd"
  refine ⟨_,_,rfl,.inl ⟨_,aB.of ht,rfl⟩,?_⟩
  walk_at "rd"
  refine ⟨_,_,rfl,.inl ⟨_,aB.of g.top,rfl⟩,?_⟩
  rw [List.length_map,List.length_map,px.len,g.len,xl,rl]
  walk_at "rd"
  rw [decide_eq_true rfl]
  walk_at "rd"
  have gl:=g.len
  have pl:=pr.len
  have Gi:=px.len
  refine fZ ?_
  refine ⟨_,rfl,_,rfl,p,o,rfl,⟨_,aB.of g.top⟩,⟨_,aB.of ho⟩,oH (K:=K) (a:=p) (b:=o) (xs:=as.map V.ref) (ys:=gp.map V.ref) (fun i σ H1=>∃ v3 v4 v5 v6 v7:Option V,σ = [some (.ref t),some (.ref p),some (.ref o),v3,v4,v5,v6,v7]∧ao H H1) ⟨none,none,none,none,none,rfl,fun _ _ e=>e⟩ (by rw [List.length_map,List.length_map]; omega) (fun i σ H1 _ ⟨_,_,_,_,_,_,e⟩=>⟨aB.of (e _ _ g.top),aB.of (e _ _ ho)⟩) ?_ ?_⟩
  ·rintro i x y rk σ H1 hx hy ⟨v3,v4,v5,v6,v7,rfl,e1⟩ nJ
   obtain ⟨b,hb,rfl⟩:=cz hx
   obtain ⟨c,hc,rfl⟩:=cz hy
   have il:=(List.getElem?_eq_some_iff.mp hb).1
   obtain ⟨b2,fs,qs,xo,hf,dv,Hq⟩:=g.at (i:=i) (by omega)
   rw [hb] at xo
   cases xo
   obtain ⟨gg,zu,yc⟩:=pr.at hc
   obtain ⟨fl,LZ⟩:=iF fs (List.mem_of_getElem? hf)
   have JL:=Hq.len
   have e2:ao H1 (upd H1 rk (.tup [.ref b,.ref c])):=ao.upd nJ
   refine d4 (SqT.of ah) rfl ?_
   generalize upd H1 rk (.tup [.ref b,.ref c]) = H2 at e2 ⊢
   have hX:=e1.trans e2
   walk_at "rd"
   intro t0 Eb
   have e3:ao H2 (upd H2 t0 (.tup [.int 0,.int 1])):=ao.upd Eb
   have x3:upd H2 t0 (.tup [.int 0,.int 1]) t0 = some (.tup [.int 0,.int 1]):=ah
   generalize upd H2 t0 (.tup [.int 0,.int 1]) = H3 at e3 x3 ⊢
   have zL:=hX.trans e3
   walk_at "rd"
   refine fZ ?_
   refine ⟨_,rfl,_,rfl,b,t,rfl,⟨_,aB.of (zL _ _ dv)⟩,⟨_,aB.of (zL _ _ ht)⟩,oH (K:=K) (a:=b) (b:=t) (xs:=qs.map V.ref) (ys:=ps.map V.ref) (fun j σ H4=>∃ (v w:Int) (r:Addr) (v6 v7:Option V),σ = [some (.ref t),some (.ref p),some (.ref o),some (.ref b),some (.ref c),some (.ref r),v6,v7]∧ao H H4∧H4 r = some (.tup [.int v,.int w])∧Lw (v,w)∧qt (v,w) = sq j (fun j=>fa fs j * fa xs j)∧Sz (561 + 1 + j * (497 + 1)) v∧Sz (1 + j * 497) w) ⟨0,1,t0,v6,v7,rfl,zL,x3,⟨show (0:Int) < 1 by decide,rfl⟩,by rw [gT]; rfl,Sz.mono (m:=0) (by show (0:Int).natAbs < 1; decide) (Nat.zero_le _),Sz.mono (m:=1) (by show (1:Int).natAbs < 2; decide) (by omega)⟩ (by rw [List.length_map,List.length_map]; omega) (fun i σ H1 _ ⟨_,_,_,_,_,_,e,_⟩=>⟨aB.of (e _ _ dv),aB.of (e _ _ ht)⟩) ?_ ?_⟩
   ·rintro j x y yP σ H4 vj vi ⟨v,w,r,v6,v7,rfl,e4,r4,lw,eq,z1,z2⟩ zh
    obtain ⟨d,hd,rfl⟩:=cz vj
    obtain ⟨e,he,rfl⟩:=cz vi
    have jl:=(List.getElem?_eq_some_iff.mp hd).1
    obtain ⟨f,rV,LI⟩:=Hq.at hd
    obtain ⟨x,Hn,HA⟩:=px.at he
    have nf:=LZ f (List.mem_of_getElem? rV)
    obtain ⟨lx,GF,GD⟩:=fx x (List.mem_of_getElem? Hn)
    have e5:ao H4 (upd H4 yP (.tup [.ref d,.ref e])):=ao.upd zh
    refine d4 (SqT.of ah) rfl ?_
    generalize upd H4 yP (.tup [.ref d,.ref e]) = H5 at e5 ⊢
    have Bo:=e4.trans e5
    walk_at "rd"
    refine ⟨e,x.1,x.2,rfl,Bo _ _ HA,lx.1,lx.2,?_⟩
    walk_at "rd"
    refine ⟨d,e,f,x,rfl,Bo _ _ LI,Bo _ _ HA,nf.1.1,lx.1,⟨nf.sz.1.mono (by decide),nf.sz.2.mono (by decide),GF.mono (by decide),GD.mono (by decide)⟩,fun t1 u1 r1 H6 rM e6 r6=>?_⟩
    have p1:Sz 561 t1:=Sz.le (nf.sz.1.mul GF) rM.ta
    have p2:Sz 497 u1:=Sz.le (nf.sz.2.mul GD) rM.ub
    have q1:=lZ (by have:=nf.1.1; omega) (by have:=lx.1; omega) rM
    have bj:561 + 1 + j * (497 + 1)≤4000∧1 + j * 497≤4000:=by omega
    walk_at "rd"
    refine ⟨r,r1,(v,w),(t1,u1),rfl,e6 _ _ (e5 _ _ r4),r6,lw.1,rM.pos,⟨z1.mono bj.1,z2.mono bj.2,p1.mono (by decide),p2.mono (by decide)⟩,fun t4 u4 r7 H7 lq e7 JI=>?_⟩
    have q4:=ow (f:=(v,w)) (g:=(t1,u1)) (by have:0 < w:=lw.1; show w≠0; omega) (by have:=rM.pos; show u1≠0; omega) lq
    obtain ⟨m1,m2⟩:=sP (a:=561) (b:=497) (j:=j) lq z1 z2 p1 p2
    refine ⟨t4,u4,r7,_,_,rfl,(Bo.trans e6).trans e7,JI,⟨lq.pos,lq.co⟩,?_,m1,m2⟩
    rw [q4,eq,q1]
    show _ = sq j _ + fa fs j * fa xs j
    rw [kd rV,kd Hn]
   ·rintro σ H4 ⟨v,w,r,v6,v7,rfl,e4,r4,lw,eq,_,_⟩
    rw [List.length_map,JL,fl] at eq
    have hs:=sol i fs gg hf zu
    have ev:(v,w) = gg:=nv lw (eJ gg (List.mem_of_getElem? zu)).1 (eq.trans hs)
    walk_at "rd"
    refine ⟨cG (v,w),cG gg,ec r4,ec (e4 _ _ yc),cM _,cM _,?_⟩
    rw [if_pos rfl,jq,decide_eq_true ev]
    walk_at "rd"
    exact ⟨_,_,_,_,_,rfl,e4⟩
  ·rintro σ H1 ⟨v3,v4,v5,v6,v7,rfl,e1⟩
   walk_at "rd"
   exact q _ e1
theorem wc {ta:TA} {σ : St} {H:Hp} {R:It→Hp→Prop} (h:ta σ H fun vs H1=>∃ a b,vs = [.ref a,.ref b]∧(∃ xs,aB K H1 a xs)∧(∃ ys,aB K H1 b ys)∧R (uJ K a b) H1):y3 K ta σ H R:=h
theorem tL {σ : St} {H:Hp} {Q:VK} {i:Nat} {p:Addr} {as:List Addr} {R:List (List (Int×Int))} (hv : σ[i]? = some (some (.ref p))) (g:FG H p as R) (hn:R.length≤1000)
  (q:∀ acc cs H',ao H H'→H acc = none→FG H' acc cs R→acc∉cs→Q (.ref acc) H') :
  iV (rS K (iu i)) (mw 0) qd (Ay (fun xs H Q=>∃ p ys,xs = [V.ref p]∧(aB K H p ys∨SqT K H p ys)∧∀ (l:Addr),H l = none→Q (V.ref l) (upd H l (HO.lst ys))) (qg (iu 0) vM)) 1 [] σ H Q:=by
 have gl:=g.len
 refine cQ ?_
 refine ⟨_,hv,p,rfl,⟨_,aB.of g.top⟩,fun acc cJ=>?_⟩
 refine dC (K:=K) (a:=p) (xs:=as.map V.ref) (fun i σ' zs Hx=>∃ (cs:List Addr) (v:Option V),σ' = [v]∧zs = cs.map V.ref∧ao H Hx∧cs.length = i∧FG Hx acc cs (R.take i)∧acc∉cs)
  ⟨[],none,rfl,rfl,ao.upd cJ,rfl,⟨ah,rfl,fun i a l z=>by simp at z⟩,by simp⟩ (fun i σ' ys Hx _ ⟨_,_,_,_,e,_⟩=>aB.of (e _ _ g.top)) ?_ ?_
 ·rintro i x σ' zs Hx hx hi ⟨cs,v,rfl,rfl,ex,Ia,gx,ve⟩
  have nK:=hi
  rw [List.length_map,gl] at nK
  obtain ⟨ra,fs,ps,Lf,fS,dv,zg⟩:=g.at nK
  obtain ⟨Cf,ua,rfl⟩:=cz hx
  rw [Lf] at ua
  cases ua
  walk_at "rd"
  refine ⟨ra,_,rfl,.inl (aB.of (ex _ _ dv)),fun c hc=>?_⟩
  have ey:ao Hx (upd Hx c (.lst (ps.map V.ref))):=ao.upd hc
  have cy:upd Hx c (.lst (ps.map V.ref)) c = some (.lst (ps.map V.ref)):=ah
  generalize upd Hx c (.lst (ps.map V.ref)) = Hy at ey cy ⊢
  have gy:=gx.same ey
  have G7:c≠acc:=fun z=>by rw [z] at hc; exact absurd gx.top (by rw [hc]; simp)
  refine ⟨gy.top,by rw [List.length_map]; exact aV (by omega),eg hi ⟨cs ++ [c],_,rfl,by simp,ao.fresh (ex.trans ey) cJ,by simp [Ia],?_,?_⟩⟩
  ·rw [take_snoc fS]; exact gy.snoc ve G7 cy ((zg.same ex).same ey)
  ·intro z
   rcases List.mem_append.mp z with z | z
   ·exact ve z
   ·exact G7 (List.mem_singleton.mp z).symm
 ·rintro σ' zs tm ⟨cs,v,rfl,rfl,lO,Ia,gh,ve⟩
  rw [List.length_map,gl,List.take_length] at gh
  exact q acc cs tm lO cJ gh ve
theorem oU {xs:List Addr} {i:Int} (h0 : -(xs.length:Int)≤i) (h1:i < xs.length):∃ (j:Nat) (a:Addr),j < xs.length∧xs[j]? = some a∧gE (xs.map V.ref) i = some (V.ref a):=by
 unfold gE pU
 rw [List.length_map]
 by_cases z:0≤i
 ·refine ⟨i.toNat,xs[i.toNat]'(by omega),by omega,List.getElem?_eq_getElem _,?_⟩
  rw [if_pos z,if_pos h1]
  show (xs.map V.ref)[i.toNat]? = _
  rw [List.getElem?_map,List.getElem?_eq_getElem (by omega)]
  rfl
 ·refine ⟨(i + xs.length).toNat,xs[(i + xs.length).toNat]'(by omega),by omega,List.getElem?_eq_getElem _,?_⟩
  rw [if_neg z,if_pos (by omega)]
  show (xs.map V.ref)[_]? = _
  rw [List.getElem?_map,List.getElem?_eq_getElem (by omega)]
  rfl
theorem eu:aE ["_law_script", "_law_many", "_law_rows_here", "_law_goals", "_law_at", "_law_by", "_law_handed", "_law_due", "_law_found"] ["_law_script"] (ai fY):=⟨rfl,rfl,rfl,by decide +kernel,rfl,by decide +kernel,by decide +kernel⟩
theorem wD {fa:Addr} {fd:FuncData} (F:xS K "law" "law" fY fa fd) (T:Txt K mg Z)
  (jk:b6 P w K mg base (bH P w) "solved" 4 ["rows", "goals"] (gO Z.cx)) (jQ:b6 P w K mg base (bH P w) "determinant" 4 ["rows"] qo) (cn:b6 P w K mg base (bH P w) "_law_cell_at" 1 ["_law_script", "_law_k"] (kC K)) (dy:b6 P w K mg base (bH P w) "_law_mixed" 2 ["_law_script", "_law_k"] (eP K)) (cL:b6 P w K mg base (bH P w) "_law_is_fraction" 2 ["_law_found"] (gQ K)) (d7:b6 P w K mg base (bH P w) "_law_number" 3 ["_law_script", "_law_k"] (gP K)) (mr:b6 P w K mg base (bH P w) "_law_rows" 4 ["_law_script", "_law_many"] (n5 K)) (bZ:b6 P w K mg base (bH P w) "_law_plus" 3 ["_law_one", "_law_other"] fW) (bu:b6 P w K mg base (bH P w) "_law_times" 3 ["_law_one", "_law_other"] eO) (cK:b6 P w K mg base (bH P w) "_law_sum_of_ways" 8 ["_law_rows_here", "_law_columns"] (dE 4)) (jm:b6 P w K mg base (bH P w) "_law_refused" 6 ["_law_rows_here", "_law_goals"] iX) (iD:b6 P w K mg base (bH P w) "_law_answered" 5 ["_law_found", "_law_rows_here", "_law_goals"] ig):jY P w K mg base (bH P w) 12 fa fd ["_law_script"] (kB K):=by
 refine F.okN eu (fun vs H Q E h=>?_) (fun cO A0 outer s H vs Q E hr h=>?_)
 ·obtain ⟨a,ns,rfl,_⟩:=h; rfl
 ·obtain ⟨a,ns,rfl,hS,hlen,kq⟩:=h
  refine ⟨_,(af (aw (i:=1) eu.nd rfl (by first | exact Or.inl rfl | exact Or.inr rfl) (au bT (ar cn hr aM (aa (pv 0) (aa ae ag))) ae))
   (af (aw (i:=2) eu.nd rfl (by first | exact Or.inl rfl | exact Or.inr rfl) (ar mr hr aM (aa (pv 0) (aa (pv 1) ag))))
   (af (gc (i:=3) eu.nd rfl (by first | exact Or.inl rfl | exact Or.inr rfl) (tg:=["_law_k"]) (fr:=[("_law_script",0)]) (by walk_at "blk_ok") rfl (dB rfl T.range (aa (pv 1) ag)) (fun _ _ _ _ _=>(aH (i:=0) (show [("_law_k" : Str),("_law_script" : Str)].Nodup by decide +kernel) rfl (by first | exact Or.inl rfl | exact Or.inr rfl))) (fun _ _ _ _ _=>bQ) (fun _ _ _ _ _=>(ar d7 hr aM (aa (pv 1) (aa (au cA ae (pv 0)) ag)))))
   (af (b7 (PW.pt (pw_and (aN ip (au bT (au eA (ar cn hr aM (aa (pv 0) (aa ae ag))) ae) ae) ae (aU _)) (pw_and1 (aN mh (pv 1) ae (aU _))))) (af (aw (i:=4) eu.nd rfl (by first | exact Or.inl rfl | exact Or.inr rfl) (au bT (ar dy hr aM (aa (pv 0) (aa ae ag))) (pv 1)))
   (af (aw (i:=5) eu.nd rfl (by first | exact Or.inl rfl | exact Or.inr rfl) (cR (aa (au d5 (au bT (ar dy hr aM (aa (pv 0) (aa ae ag))) ae) ae) (aa ae ag))))
   (aq (b7 (aN mf (pv 1) ae (aU _)) (aq (rj (dZ (tg:=["_law_number_here"]) (fr:=[("_law_by",5)]) (by walk_at "blk_ok") rfl (du (aK aO (pv 2) (au d5 (pv 4) ae) (fun _ _=>rfl))) (fun _ _ _ _ _=>(aH (i:=0) (show [("_law_number_here" : Str),("_law_by" : Str)].Nodup by decide +kernel) rfl (by first | exact Or.inl rfl | exact Or.inr rfl))) (fun _ _ _ _ _=>bQ) (fun _ _ _ _ _=>(ar bu hr aM (aa (pv 1) (aa (pv 0) ag))))) (rA (pv 2) (pv 4) set_list))) (aq (rj (dZ (tg:=["_law_one", "_law_other"]) (fr:=[("_law_by",5)]) (by walk_at "blk_ok") rfl (gX T.zip (aa (aK aO (pv 2) (au d5 (pv 4) ae) (fun _ _=>rfl)) (aa (aK aO (pv 2) (au d5 (pv 4) ae) (fun _ _=>rfl)) ag))) (fun _ _ _ _ _=>(gd (K:=K) rfl (n:=2) rfl (bR (aH (i:=0) (show [("_law_one" : Str),("_law_other" : Str),("_law_by" : Str)].Nodup by decide +kernel) rfl (by first | exact Or.inl rfl | exact Or.inr rfl)) (bR (aH (i:=1) (show [("_law_one" : Str),("_law_other" : Str),("_law_by" : Str)].Nodup by decide +kernel) rfl (by first | exact Or.inl rfl | exact Or.inr rfl)) ez)))) (fun _ _ _ _ _=>bQ) (fun _ _ _ _ _=>(ar bZ hr aM (aa (pv 0) (aa (ar bu hr aM (aa (pv 2) (aa (pv 1) ag))) ag))))) (rA (pv 2) (pv 4) set_list))))))) aT)
   (af (aw (i:=6) eu.nd rfl (by first | exact Or.inl rfl | exact Or.inr rfl) (eS (aa (dZ (tg:=["_law_row"]) (fr:=[]) (by walk_at "blk_ok") rfl (du (pv 2)) (fun _ _ _ _ _=>(aH (i:=0) (show [("_law_row" : Str)].Nodup by decide +kernel) rfl (by first | exact Or.inl rfl | exact Or.inr rfl))) (fun _ _ _ _ _=>bQ) (fun _ _ _ _ _=>(j7 (jS (K:=K) rfl) (by rfl) T.list lG (aa (pv 0) ag)))) (aa (j7 gC (by rfl) T.list lG (aa (pv 3) ag)) ag))))
   (af (aw (i:=7) eu.nd rfl (by first | exact Or.inl rfl | exact Or.inr rfl) (ar cK hr aM (aa (pv 2) (aa (kW rfl T.range T.list (pv 1)) ag))))
   (af (aw (i:=8) eu.nd rfl (by first | exact Or.inl rfl | exact Or.inr rfl) (ar jQ hr aM (aa (aK aO (pv 6) ae (fun _ _=>rfl)) ag)))
   (af (b7 (PW.pt (pw_or (gU (eQ (ar cL hr aM (aa (pv 8) ag)))) (pw_or (aN (nA hr.units) (pv 8) (pv 7) (aU _)) (pw_or1 (aN (nA hr.units) (pv 6) (eS (aa (pv 2) (aa (pv 3) ag))) (aU _)))))) (aq (aA ik)) aT)
   (af (b7 (aN (kX hr.units) (pv 7) (cR (aa ae (aa ae ag))) (aU _)) (aq (aA (i5 (ar jm hr aM (aa (aK aO (pv 6) ae (fun _ _=>rfl)) (aa (aK aO (pv 6) ae (fun _ _=>rfl)) ag))) (iZ (iM (kX hr.units) (pv 6) (eS (aa (pv 2) (aa (pv 3) ag))) (aU _)))))) aT)
   (aq (aA (i5 (ar iD hr aM (aa (ar jk hr aM (aa (aK aO (pv 6) ae (fun _ _=>rfl)) (aa (aK aO (pv 6) ae (fun _ _=>rfl)) ag))) (aa (pv 2) (aa (pv 3) ag)))) (iZ (iM (kX hr.units) (pv 6) (eS (aa (pv 2) (aa (pv 3) ag))) (aU _))))))))))))))),?_⟩
  dsimp only [dS]
  walk_at "rd"
  refine ⟨a,ns,0,rfl,hS,by decide,fun n0=>?_⟩
  walk_at "rd"
  have m0:=Int.emod_nonneg n0 (show (5:Int)≠0 by decide)
  have m1:=Int.emod_lt_of_pos n0 (show (0:Int) < 5 by decide)
  obtain ⟨n,hn⟩:=Int.eq_ofNat_of_zero_le m0
  rw [hn]
  have n4:n≤4:=by omega
  refine ⟨a,ns,n,rfl,hS,by omega,fun p Bp R0 H1 e1 fp g1 G8 Cc wH=>?_⟩
  walk_at "rd"
  refine cQ ?_
  refine ⟨_,rfl,(n:Int),rfl,by omega,by omega,?_⟩
  rw [Int.toNat_natCast]
  intro go zt
  refine fL (fun i σ' ys H2=>∃ (v:Option V) (gp:List Addr) (gs:List (Int×Int)),σ' = [v,some (.ref a)]∧ys = gp.map V.ref∧ao H1 H2∧H2 go = some (.lst ys)∧PR H2 gp gs∧gs.length = i∧∀ g∈gs,Nb g)
   ⟨none,[],[],rfl,rfl,ao.upd zt,ah,.nil,rfl,by simp⟩ ?_ ?_
  ·rintro i σ' ys H2 hi ⟨v,gp,gs,rfl,rfl,e2,x2,rp,LR,LS⟩
   simp only [Int.zero_add]
   have N5:=rp.len
   walk_at "rd"
   refine ⟨a,ns,_,rfl,(e1.trans e2).seq hS,by omega,by omega,fun t u r H3 nb e3 wY=>?_⟩
   refine ⟨e3 _ _ x2,by rw [List.length_map]; exact aV (by omega),eg hi ⟨_,gp ++ [r],gs ++ [(t,u)],rfl,by simp,ao.fresh (e2.trans e3) zt,ah,PR.off (PR.app (rp.same e3) (.cons wY .nil)) (.inr (e3 _ _ x2)),by rw [List.length_append,LR]; rfl,fun g hg=>?_⟩⟩
   rcases List.mem_append.mp hg with z | z
   ·exact LS g z
   ·rw [List.mem_singleton.mp z]; exact nb
  rintro σ' ys H2 ⟨v,gp,gs,rfl,rfl,e2,x2,rp,sZ,EN⟩
  have hX:=e1.trans e2
  have g2:=g1.same e2
  have G2:go≠p:=fun z=>by rw [z] at zt; exact absurd g1.top (by rw [zt]; simp)
  refine r_gname ?_
  try dsimp only
  refine vZ (fun σ' H'=>∃ (as:List Addr) (R:List (List (Int×Int))) (v4 v5:Option V),σ' = [some (.ref a),some (.int (n:Int)),some (.ref p),some (.ref go),v4,v5,none,none,none]∧ao H H'∧FG H' p as R∧R.length = n∧(∀ fs∈R,fs.length = n∧∀ f∈fs,Nc f)∧H' go = some (.lst (gp.map V.ref))∧PR H' gp gs) ?_ ?_
  ·clear g1 G8 Cc wH g2 hX e1 e2 x2 rp G2 zt
   rintro σ' H3 ⟨as,R,v4,v5,rfl,e3,g3,rl,nc,x3,u5⟩
   walk_at "rd"
   refine tL (i:=2) rfl g3 (by omega) fun hp hs H4 e4 N7 g4 NM=>?_
   walk_at "rd"
   refine ⟨go,_,rfl,.inl (aB.of (e4 _ _ x3)),fun hg Ly=>?_⟩
   have e5:ao H4 (upd H4 hg (.lst (gp.map V.ref))):=ao.upd Ly
   have x5:upd H4 hg (.lst (gp.map V.ref)) hg = some (.lst (gp.map V.ref)):=ah
   generalize upd H4 hg (.lst (gp.map V.ref)) = H5 at e5 x5 ⊢
   walk_at "rd"
   refine fun hd Lz=>?_
   have e6:ao H5 (upd H5 hd (.lst [.ref hp,.ref hg])):=ao.upd Lz
   have d6:upd H5 hd (.lst [.ref hp,.ref hg]) hd = some (.lst [.ref hp,.ref hg]):=ah
   generalize upd H5 hd (.lst [.ref hp,.ref hg]) = H6 at e6 d6 ⊢
   have HS:=e5.trans e6
   have ye:=e4.trans HS
   have g6:=g3.same ye
   have EO:=g4.same HS
   have x6:=ye _ _ x3
   have Gj:=e6 _ _ x5
   have Cv:=u5.same ye
   have md:∀ fs∈R,fs.length = n∧∀ f∈fs,Md f:=fun fs fS=>⟨(nc fs fS).1,fun f hf=>Nc.md ((nc fs fS).2 f hf)⟩
   have IE:wz R (List.range n) n = dq n R:=by
    unfold wz dq
    refine Dq.bK fun i j hi hj=>?_
    have ej:(List.range n).getD j 0 = j:=by rw [List.getD_eq_getElem?_getD,List.getElem?_range hj]; rfl
    rw [ej]
   walk_at "rd"
   refine o8 (r_var rfl ⟨n,rfl,by omega,fun cl HC=>?_⟩)
   have e7:ao H6 (upd H6 cl (.lst ((fj n).map V.int))):=ao.upd HC
   have c7:upd H6 cl (.lst ((fj n).map V.int)) cl = some (.lst (((List.range n).map fun k:Nat=>(k:Int)).map V.int)):=ah
   generalize upd H6 cl (.lst ((fj n).map V.int)) = H7 at e7 c7 ⊢
   walk_at "rd"
   refine ⟨n,n4,p,cl,as,R,List.range n,rfl,g6.same e7,c7,rl,List.length_range,n4,fun fs fS=>⟨fun k hk=>by rw [(nc fs fS).1]; exact List.mem_range.mp hk,(nc fs fS).2⟩,fun t u r H8 lw eq z1 z2 e8 r8=>?_⟩
   rw [IE] at eq
   have E1:=e7.trans e8
   walk_at "rd"
   refine bI (aB.of (E1 _ _ d6)) (show gE [V.ref hp,V.ref hg] ((0:Nat):Int) = _ from bG rfl) ?_
   walk_at "rd"
   refine ⟨hp,hs,R,n,2 ^ 600,2 ^ 200,rfl,EO.same E1,rl,by omega,fun fs fS=>(nc fs fS).1,vO (by omega) md,fun t2 u2 r2 H9 DA eq2 _ _ e9 r9=>?_⟩
   have es:(t2,u2) = (t,u):=nv DA lw (eq2.trans eq.symm)
   have L7:=E1.trans e9
   walk_at "rd"
   refine ⟨r2,t2,u2,rfl,r9,DA.1,DA.2,?_⟩
   walk_at "rd"
   refine ⟨cG (t2,u2),cG (t,u),ec r9,ec (e9 _ _ r8),cM _,cM _,?_⟩
   rw [if_pos rfl,jq,decide_eq_true es]
   walk_at "rd"
   refine fun w1 K9=>?_
   have yf:ao H9 (upd H9 w1 (.lst [.ref p,.ref go])):=ao.upd K9
   have gu:=L7.trans yf
   refine ⟨dF R gs,dF R gs,oi (gu _ _ d6) (EO.same gu) (gu _ _ Gj) (Cv.same gu),oi ah (g6.same gu) (gu _ _ x6) (Cv.same gu),fX _ _,fX _ _,?_⟩
   rw [if_pos rfl,vx]
   generalize upd H9 w1 (.lst [.ref p,.ref go]) = vF at yf gu ⊢
   have xu:=EO.same gu
   have vG:=gu _ _ Gj
   have rq:=Cv.same gu
   have zP:=gu _ _ d6
   have HP:=g6.same gu
   have Av:=gu _ _ x6
   walk_at "rd"
   intro w2 y8
   have lO:ao vF (upd vF w2 (.tup [.int 0,.int 1])):=ao.upd y8
   refine ⟨cG (t,u),cG (0,1),ec (lO _ _ (yf _ _ (e9 _ _ r8))),ec ah,cM _,cM _,?_⟩
   rw [if_neg (by decide),jq]
   generalize upd vF w2 (.tup [.int 0,.int 1]) = tm at lO ⊢
   have fin:∀ {yj:Hp},ao tm yj→∀ w3,yj w3 = none→wg false (V.ref hd) (V.ref w3) (upd yj w3 (.lst [.ref p,.ref go])) Q:=fun {yj} ur w3 y6=>by
    have uq:=(lO.trans ur).trans (ao.upd (o:=.lst [.ref p,.ref go]) y6)
    refine ⟨dF R gs,dF R gs,oi (uq _ _ zP) (xu.same uq) (uq _ _ vG) (rq.same uq),oi ah (HP.same uq) (uq _ _ Av) (rq.same uq),fX _ _,fX _ _,?_⟩
    rw [if_neg (by decide),vx]
    exact kq _
   walk_at "rd"
   refine if2 (fun z=>?_) (fun z=>?_)
   ·have dz:dq n R = 0:=by
     rw [← eq,z,gT]; rfl
    walk_at "rd"
    refine bI (aB.of (lO _ _ zP)) (show gE [V.ref hp,V.ref hg] ((0:Nat):Int) = _ from bG rfl) ?_
    walk_at "rd"
    refine bI (aB.of (lO _ _ zP)) (show gE [V.ref hp,V.ref hg] ((1:Nat):Int) = _ from bG rfl) ?_
    walk_at "rd"
    refine ⟨hp,hg,hs,gp,R,gs,n,rfl,xu.same lO,lO _ _ vG,rq.same lO,rl,sZ,n4,nc,EN,dz,fun yj ur=>?_⟩
    walk_at "rd"
    exact fun w3 y6=>fin ur w3 y6
   ·have dz:dq n R≠0:=fun d0=>z (nv lw ⟨show (0:Int) < 1 by decide,rfl⟩ (by rw [eq,d0,gT]; rfl))
    walk_at "rd"
    refine bI (aB.of (lO _ _ zP)) (show gE [V.ref hp,V.ref hg] ((0:Nat):Int) = _ from bG rfl) ?_
    walk_at "rd"
    refine bI (aB.of (lO _ _ zP)) (show gE [V.ref hp,V.ref hg] ((1:Nat):Int) = _ from bG rfl) ?_
    walk_at "rd"
    refine ⟨hp,hg,hs,gp,R,gs,n,rfl,xu.same lO,lO _ _ vG,rq.same lO,rl,sZ,n4,nc,EN,fun _ t4 JN ID yj ur _ Jd J3 Bv Bu sol=>?_,fun d0=>absurd d0 dz⟩
    have sj:=lO.trans ur
    walk_at "rd"
    refine ⟨t4,p,go,JN,as,gp,ID,R,gs,n,rfl,Jd,J3,HP.same sj,sj _ _ Av,rq.same sj,rl,sZ,Bv,n4,nc,EN,Bu,sol,fun Ot uq=>?_⟩
    walk_at "rd"
    exact fun w3 y6=>fin (ur.trans uq) w3 y6
  ·intro S hT
   walk_at "rd"
   refine ⟨a,ns,0,rfl,hX.seq hS,by decide,fun c0=>?_⟩
   have same:S [some (.ref a),some (.int (n:Int)),some (.ref p),some (.ref go),none,none,none,none,none] H2:=hT _ _ ⟨Bp,R0,none,none,rfl,hX,g2,Cc,fun fs fS=>⟨(wH fs fS).1,fun f hf=>((wH fs fS).2 f hf).nc⟩,x2,rp⟩
   walk_at "rd"
   refine if2 (fun h1=>?_) (fun _=>?_)
   rotate_left
   ·walk_at "rd"
    exact same
   walk_at "rd"
   refine if2 (fun jh=>?_) (fun _=>?_)
   rotate_left
   ·walk_at "rd"
    exact same
   have Kx:0 < n:=by omega
   have N6:=g1.len
   walk_at "rd"
   refine ⟨a,ns,60,rfl,hX.seq hS,by decide,by decide,fun k1 NW NV=>?_⟩
   walk_at "rd"
   have a0:=Int.emod_nonneg k1 (show (n:Int)≠0 by omega)
   have a1:=Int.emod_lt_of_pos k1 (show (0:Int) < (n:Int) by omega)
   obtain ⟨at',LO⟩:=Int.eq_ofNat_of_zero_le a0
   rw [LO] at a1 ⊢
   refine ⟨a,ns,61,rfl,hX.seq hS,by decide,by decide,fun k2 NU NT=>?_⟩
   walk_at "rd"
   have b0:=Int.emod_nonneg k2 (show (5:Int)≠0 by decide)
   have b1:=Int.emod_lt_of_pos k2 (show (0:Int) < 5 by decide)
   obtain ⟨uB,LM⟩:∃ b:Int,k2 % 5 - 2 = b:=⟨_,rfl⟩
   rw [LM]
   have bz:uB.natAbs≤2:=by omega
   intro rb Ld
   have e3:ao H2 (upd H2 rb (.tup [.int uB,.int 1])):=ao.upd Ld
   have xb:upd H2 rb (.tup [.int uB,.int 1]) rb = some (.tup [.int uB,.int 1]):=ah
   generalize upd H2 rb (.tup [.int uB,.int 1]) = H3 at e3 xb ⊢
   have g3:=g2.same e3
   have x3:=e3 _ _ x2
   have u5:=rp.same e3
   have zL:=hX.trans e3
   have bs:Sz 2 uB∧Sz 1 (1:Int):=⟨by show uB.natAbs < 4; omega,by show (1:Int).natAbs < 2; decide⟩
   obtain ⟨j1,AF,NY,Ed,He⟩:=oU (xs:=Bp) (i:=(at':Int) - 1) (by omega) (by omega)
   obtain ⟨Ju,LX,GW,vo,Ez,oC,xc⟩:=g3.at (i:=j1) (by omega)
   rw [Ed] at vo
   cases vo
   obtain ⟨L3,zE⟩:=wH LX (List.mem_of_getElem? Ez)
   have JZ:=xc.len
   have put:∀ (ac:Addr) (xp:List Addr) (xs:List (Int×Int)) (H5:Hp),ao H3 H5→H3 ac = none→H5 ac = some (.lst (xp.map V.ref))→PR H5 xp xs→xs.length = n→(∀ f∈xs,Nc f)→S [some (.ref a),some (.int (n:Int)),some (.ref p),some (.ref go),some (.int (at':Int)),some (.ref rb),none,none,none] (upd H5 p (.lst ((Bp.map V.ref).set at' (.ref ac)))):=fun ac xp xs H5 e5 sY x5 Cw xl nx=>by
    have KC:ac≠p:=fun z=>by rw [z] at sY; exact absurd g3.top (by rw [sY]; simp)
    have g5:=(g3.same e5).vR (k:=at') G8 KC x5 Cw
    refine hT _ _ ⟨_,R0.set at' xs,_,_,rfl,ao.fresh (zL.trans e5) fp,g5,by rw [List.length_set]; exact Cc,fun fs fS=>?_,by rw [av G2]; exact e5 _ _ x3,PR.off (u5.same e5) (.inr ((g3.same e5).top))⟩
    rcases List.mem_or_eq_of_mem_set fS with z | z
    ·exact ⟨(wH fs z).1,fun f hf=>((wH fs z).2 f hf).nc⟩
    ·rw [z]; exact ⟨xl,nx⟩
   walk_at "rd"
   refine if2 (fun dh=>?_) (fun N3=>?_)
   ·walk_at "rd"
    refine cQ ?_
    refine iK ?_
    walk_at "rd"
    refine bI (aB.of g3.top) He ?_
    refine ⟨AF,rfl,⟨_,aB.of oC⟩,fun ac sY=>?_⟩
    refine dC (K:=K) (a:=AF) (xs:=GW.map V.ref) (fun j σ' zs H4=>∃ (v:Option V) (xp:List Addr) (xs:List (Int×Int)),σ' = [v,some (.ref rb)]∧zs = xp.map V.ref∧ao H3 H4∧H4 ac = some (.lst zs)∧PR H4 xp xs∧xs.length = j∧∀ f∈xs,Nc f)
     ⟨none,[],[],rfl,rfl,ao.upd sY,ah,.nil,rfl,by simp⟩ (fun j σ' ys H4 _ ⟨_,_,_,_,_,e,_⟩=>aB.of (e _ _ oC)) ?_ ?_
    ·rintro j x σ' zs H4 hx hj ⟨v,xp,xs,rfl,rfl,e4,a4,tQ,xl,fx⟩
     have jl:=hj
     rw [List.length_map] at jl
     obtain ⟨xa,xW,rfl⟩:=cz hx
     obtain ⟨ff,EB,Ee⟩:=xc.at xW
     have nf:=zE ff (List.mem_of_getElem? EB)
     have G3:=nf.nc
     walk_at "rd"
     refine ⟨rb,xa,(uB,1),ff,rfl,e4 _ _ xb,e4 _ _ Ee,show (0:Int) < 1 by decide,nf.1.1,⟨bs.1.mono (by decide),bs.2.mono (by decide),G3.sz.1.mono (by decide),G3.sz.2.mono (by decide)⟩,fun t2 u2 r2 H5 low e5 uc=>?_⟩
     have Gi:=tQ.len
     refine ⟨e5 _ _ a4,by rw [List.length_map]; exact aV (by omega),eg hj ⟨_,xp ++ [r2],xs ++ [(t2,u2)],rfl,by simp,ao.fresh (e4.trans e5) sY,ah,PR.off (PR.app (tQ.same e5) (.cons uc .nil)) (.inr (e5 _ _ a4)),by rw [List.length_append,xl]; rfl,fun f hf=>?_⟩⟩
     rcases List.mem_append.mp hf with z | z
     ·exact fx f z
     ·rw [List.mem_singleton.mp z]
      refine ⟨⟨low.pos,low.co⟩,?_,Sz.mono (Sz.le (bs.1.mul nf.2.2) low.ta) (by decide)⟩
      have h1:=low.ub
      have h2:=nf.2.1
      have h3:=nf.1.1
      have h4:=low.pos
      rw [Int.one_mul] at h1
      show u2≤36
      omega
    ·rintro σ' zs H4 ⟨v,xp,xs,rfl,rfl,e4,a4,tQ,xl,fx⟩
     rw [List.length_map,JZ,L3] at xl
     refine qR ?_
     walk_at "rd"
     refine ⟨p,_,_,at',rfl,rfl,e4 _ _ g3.top,rR (by omega) (by rw [List.length_map]; omega),?_⟩
     exact put ac xp xs H4 e4 sY a4 tQ xl fx
   ·obtain ⟨j2,Cf,NX,ua,K0⟩:=oU (xs:=Bp) (i:=(at':Int) - 2) (by omega) (by omega)
    obtain ⟨Jt,LW,JO,vn,Ey,vm,zf⟩:=g3.at (i:=j2) (by omega)
    rw [ua] at vn
    cases vn
    obtain ⟨N8,ET⟩:=wH LW (List.mem_of_getElem? Ey)
    have NJ:=zf.len
    walk_at "rd"
    refine cQ ?_
    refine wc ?_
    walk_at "rd"
    refine bI (aB.of g3.top) He ?_
    walk_at "rd"
    refine bI (aB.of g3.top) K0 ?_
    walk_at "rd"
    refine ⟨AF,Cf,rfl,⟨_,aB.of oC⟩,⟨_,aB.of vm⟩,fun ac sY=>?_⟩
    refine gB (K:=K) (a:=AF) (b:=Cf) (xs:=GW.map V.ref) (ys:=JO.map V.ref) (n:=n) (by rw [List.length_map,List.length_map]; omega) (fun j σ' zs H4=>∃ (v v':Option V) (xp:List Addr) (xs:List (Int×Int)),σ' = [v,v',some (.ref rb)]∧zs = xp.map V.ref∧ao H3 H4∧H4 ac = some (.lst zs)∧PR H4 xp xs∧xs.length = j∧∀ f∈xs,Nc f)
     ⟨none,none,[],[],rfl,rfl,ao.upd sY,ah,.nil,rfl,by simp⟩ (fun j σ' ys H4 _ ⟨_,_,_,_,_,_,e,_⟩=>⟨aB.of (e _ _ oC),aB.of (e _ _ vm)⟩) ?_ ?_
    ·rintro j x y rk σ' zs H4 hx hy hj ⟨v,v',xp,xs,rfl,rfl,e4,a4,tQ,xl,fx⟩ nJ
     obtain ⟨xa,xW,rfl⟩:=cz hx
     obtain ⟨ya,K6,rfl⟩:=cz hy
     obtain ⟨ff,EB,Ee⟩:=xc.at xW
     obtain ⟨fg,LF,Li⟩:=zf.at K6
     have nf:=zE ff (List.mem_of_getElem? EB)
     have ng:=ET fg (List.mem_of_getElem? LF)
     have e5:ao H4 (upd H4 rk (.tup [.ref xa,.ref ya])):=ao.upd nJ
     refine d4 (SqT.of ah) rfl ?_
     generalize upd H4 rk (.tup [.ref xa,.ref ya]) = H5 at e5 ⊢
     have E2:=e4.trans e5
     walk_at "rd"
     refine ⟨rb,ya,(uB,1),fg,rfl,E2 _ _ xb,E2 _ _ Li,show (0:Int) < 1 by decide,ng.1.1,⟨bs.1.mono (by decide),bs.2.mono (by decide),ng.nc.sz.1.mono (by decide),ng.nc.sz.2.mono (by decide)⟩,fun t2 u2 r2 H6 low e6 uc=>?_⟩
     have z1:Sz 63 t2:=Sz.le (bs.1.mul ng.2.2) low.ta
     have u6:u2≤6:=by
      have h1:=low.ub
      have h2:=ng.2.1
      have h3:=ng.1.1
      have h4:=low.pos
      rw [Int.one_mul] at h1
      omega
     have II:=low.pos
     have z2:Sz 3 u2:=by show u2.natAbs < 8; omega
     walk_at "rd"
     refine ⟨xa,r2,ff,(t2,u2),rfl,(E2.trans e6) _ _ Ee,uc,nf.1.1,II,⟨nf.nc.sz.1.mono (by decide),nf.nc.sz.2.mono (by decide),z1.mono (by decide),z2.mono (by decide)⟩,fun t3 u3 r3 H7 rK e7 wY=>?_⟩
     have Gi:=tQ.len
     have xC:=(e5.trans e6).trans e7
     refine ⟨xC _ _ a4,by rw [List.length_map]; exact aV (by omega),n - (j + 1),by omega,rfl,by omega,_,_,xp ++ [r3],xs ++ [(t3,u3)],rfl,by simp,ao.fresh (e4.trans xC) sY,ah,PR.off (PR.app (tQ.same xC) (.cons wY .nil)) (.inr (xC _ _ a4)),by rw [List.length_append,xl]; rfl,fun f hf=>?_⟩
     rcases List.mem_append.mp hf with z | z
     ·exact fx f z
     ·rw [List.mem_singleton.mp z]
      have f6:Sz 3 ff.2:=by have h1:=nf.1.1; have h2:=nf.2.1; show ff.2.natAbs < 8; omega
      refine ⟨⟨rK.pos,rK.co⟩,?_,?_⟩
      ·have h1:=rK.ub
       rw [Int.natAbs_mul] at h1
       have h2:ff.2.natAbs * u2.natAbs≤6 * 6:=Nat.mul_le_mul (by have:=nf.1.1; have:=nf.2.1; omega) (by omega)
       have h4:=rK.pos
       show u3≤36
       have h5:u3.natAbs≤ff.2.natAbs * u2.natAbs:=h1
       omega
      ·refine Sz.le ?_ rK.ta
       have h1:Sz 66 (ff.1 * u2):=(nf.2.2.mul z2).mono (by decide)
       have h2:Sz 66 (t2 * ff.2):=z1.mul f6
       exact (h1.add h2).mono (by decide)
    ·rintro σ' zs H4 ⟨v,v',xp,xs,rfl,rfl,e4,a4,tQ,xl,fx⟩
     refine qR ?_
     walk_at "rd"
     refine ⟨p,_,_,at',rfl,rfl,e4 _ _ g3.top,rR (by omega) (by rw [List.length_map]; omega),?_⟩
     exact put ac xp xs H4 e4 sY a4 tQ xl fx
end
end xO
end
namespace xO
open PySem L2 Fr Gm Dt
local macro_rules | `(tactic| walk_at "rd1")=>`(tactic| first
 | with_reducible refine r_seq ?_ | with_reducible refine r_asg ?_ | with_reducible refine r_gname ?_ | with_reducible refine r_op ?_ | with_reducible refine r_c ?_
 | ((with_reducible refine' r_var ?hv ?_); case' hv=>exact rfl)
 | with_reducible refine om ?_ | with_reducible refine vX ?_ | with_reducible refine v8 ?_ | with_reducible refine qS ?_ | with_reducible refine qN ?_
 | with_reducible refine qI ?_ | with_reducible refine qH ?_ | with_reducible refine qT ?_ | with_reducible refine qQ ?_ | with_reducible refine nh ?_ | with_reducible refine Cg ?_ | with_reducible refine we ?_
 | with_reducible refine qL ?_ | with_reducible refine qV ?_ | with_reducible refine wa ?_ | with_reducible refine nu ?_ | with_reducible refine uT ?_ | with_reducible refine ni ?_ | with_reducible refine uV ?_
 | with_reducible refine qM ?_ | with_reducible refine nq ?_ | with_reducible refine nr ?_ | with_reducible refine wd ?_ | with_reducible refine qG ?_ | with_reducible refine qO ?_ | with_reducible refine kQ ?_
 | with_reducible refine kS ?_ | with_reducible refine nj ?_ | with_reducible refine qJ ?_ | with_reducible refine DW ?_ | with_reducible refine DX ?_ | with_reducible refine wW ?_ | with_reducible refine y0 ?_
 | ((with_reducible refine v9 ?hc ?_); case' hc=>walk_at "side")
 | ((with_reducible refine' qP ?hp ?hi ?_); (case' hp=>walk_at "seq"); (case' hi=>exact rfl))
 | ((with_reducible refine' bI ?hp ?hi ?_); (case' hp=>walk_at "seq"); (case' hi=>exact rfl))
 | ((with_reducible refine' d4 ?hp ?hi ?_); (case' hp=>walk_at "seq"); (case' hi=>exact rfl))
 | ((with_reducible refine And.intro ?hl ?_); case' hl=>(first | exact uR | exact yE))
 | with_reducible refine yL ?_ | with_reducible refine uX ?_ | with_reducible refine m9 ?_ | with_reducible refine uU ?_ | with_reducible refine qK ?_ | with_reducible refine kP ?_ | with_reducible refine kO ?_ | with_reducible refine lY ?_ | with_reducible refine uW ?_ | with_reducible refine qU ?_ | with_reducible refine ou ?_ | with_reducible refine kM ?_
 | dsimp only)
local macro_rules | `(tactic| walk_at "rd")=>`(tactic| repeat walk_at "rd1")
local macro_rules | `(tactic| walk_at "blk_vis")=>`(tactic| first | exact Or.inl rfl | exact Or.inr (Or.inl rfl) | exact Or.inr (Or.inr rfl))
local macro_rules | `(tactic| walk_at "blk_ok")=>`(tactic| exact ⟨rfl,by decide +kernel,by decide +kernel,rfl,by (first | exact trivial | exact ⟨rfl,trivial⟩ | exact ⟨rfl,rfl,trivial⟩ | exact ⟨rfl,rfl,rfl,trivial⟩ | exact ⟨rfl,rfl,rfl,rfl,trivial⟩),rfl,
 by (first | exact ay | exact aj ⟨rfl,by walk_at "blk_vis",rfl,rfl⟩ ay | exact aj ⟨rfl,by walk_at "blk_vis",rfl,rfl⟩ (aj ⟨rfl,by walk_at "blk_vis",rfl,rfl⟩ ay) | exact aj ⟨rfl,by walk_at "blk_vis",rfl,rfl⟩ (aj ⟨rfl,by walk_at "blk_vis",rfl,rfl⟩ (aj ⟨rfl,by walk_at "blk_vis",rfl,rfl⟩ ay))),
 by (first | exact ay | exact aj rfl ay | exact aj rfl (aj rfl ay) | exact aj rfl (aj rfl (aj rfl ay)))⟩)
local macro_rules | `(tactic| walk_at "blk_ok1")=>`(tactic| exact ⟨rfl,fun _=>rfl,fun _=>rfl,by decide +kernel,rfl,by (first | exact trivial | exact ⟨rfl,trivial⟩ | exact ⟨rfl,rfl,trivial⟩ | exact ⟨rfl,rfl,rfl,trivial⟩ | exact ⟨rfl,rfl,rfl,rfl,trivial⟩),rfl,
 by (first | exact ay | exact aj ⟨rfl,by walk_at "blk_vis",⟨rfl,rfl⟩,rfl⟩ ay | exact aj ⟨rfl,by walk_at "blk_vis",⟨rfl,rfl⟩,rfl⟩ (aj ⟨rfl,by walk_at "blk_vis",⟨rfl,rfl⟩,rfl⟩ ay) | exact aj ⟨rfl,by walk_at "blk_vis",⟨rfl,rfl⟩,rfl⟩ (aj ⟨rfl,by walk_at "blk_vis",⟨rfl,rfl⟩,rfl⟩ (aj ⟨rfl,by walk_at "blk_vis",⟨rfl,rfl⟩,rfl⟩ ay))),
 by (first | exact ay | exact aj rfl ay | exact aj rfl (aj rfl ay) | exact aj rfl (aj rfl (aj rfl ay)))⟩)
local macro_rules | `(tactic| walk_at "side")=>`(tactic| first | assumption | exact (show (0:Int) < _ by decide) | exact lD (by decide) (by decide) | exact lE (by decide) (by decide) | exact mulL (by decide) (by decide))
local macro_rules | `(tactic| walk_at "seq")=>`(tactic| first | assumption | exact SqT.of (by assumption))
theorem all_mk {l:PySem.W.OpenLaw} {w:World} {K:PySem.W.Frag} {h:Heap} {mg:Str→Option Value} {fa:Addr} (X:K.In h) (G:h.Ns mainGlobals mg) (LH:mg "law" = some (.ref fa))
  {eW eV bq js fO fP ic fQ fM lC eE h9 h8 jt fN hZ:Addr}
  (e_MapError:PySem.W.nsIn K mainGlobals "MapError" = some (some (.ref eW)))
  (e_NoNumber:PySem.W.nsIn K mainGlobals "NoNumber" = some (some (.ref eV)))
  (e_NoOne:PySem.W.nsIn K mainGlobals "NoOne" = some (some (.ref bq)))
  (e_NoTie:PySem.W.nsIn K mainGlobals "NoTie" = some (some (.ref js)))
  (e_NoOther:PySem.W.nsIn K mainGlobals "NoOther" = some (some (.ref fO)))
  (e_NoNames:PySem.W.nsIn K mainGlobals "NoNames" = some (some (.ref fP)))
  (e_NoLand:PySem.W.nsIn K mainGlobals "NoLand" = some (some (.ref ic)))
  (e_NoFrame:PySem.W.nsIn K mainGlobals "NoFrame" = some (some (.ref fQ)))
  (e_NoThree:PySem.W.nsIn K mainGlobals "NoThree" = some (some (.ref fM)))
  (e_Flat:PySem.W.nsIn K mainGlobals "Flat" = some (some (.ref lC)))
  (e_NotInside:PySem.W.nsIn K mainGlobals "NotInside" = some (some (.ref eE)))
  (e_NoStep:PySem.W.nsIn K mainGlobals "NoStep" = some (some (.ref h9)))
  (e_NoText:PySem.W.nsIn K mainGlobals "NoText" = some (some (.ref h8)))
  (e_NoMap:PySem.W.nsIn K mainGlobals "NoMap" = some (some (.ref jt)))
  (e_NoSheet:PySem.W.nsIn K mainGlobals "NoSheet" = some (some (.ref fN)))
  (e_Parted:PySem.W.nsIn K mainGlobals "Parted" = some (some (.ref hZ)))
  {f0:Addr} {Kk MP:Option Addr} {Jn:Array (Option Value)} {Kw KZ Ml JY Ik My:Value}
  (a0:PySem.W.nsIn K mainGlobals "common_divisor" = some (some (.ref f0))) (l0:K.lookup f0 = some ⟨Kw,Kk,.func (PySem.W.fnOf "common_divisor" "common_divisor" (aD aR) (az aR) (ai aR) .none KZ Ml JY MP Ik My),Jn⟩) (c0:PySem.W.codeIn K Ik "common_divisor" = true) (k0:PySem.W.keepIn K (.ref f0) = true)
  {f1:Addr} {Kj MO:Option Addr} {Jm:Array (Option Value)} {Kv KY Mj JX Ij Mw:Value}
  (a1:PySem.W.nsIn K mainGlobals "ratio" = some (some (.ref f1))) (l1:K.lookup f1 = some ⟨Kv,Kj,.func (PySem.W.fnOf "ratio" "ratio" (aD dW) (az dW) (ai dW) .none KY Mj JX MO Ij Mw),Jm⟩) (c1:PySem.W.codeIn K Ij "ratio" = true) (k1:PySem.W.keepIn K (.ref f1) = true)
  {f2:Addr} {Ki MN:Option Addr} {uR:Array (Option Value)} {Ku KW Mi JW xH Mv:Value}
  (a2:PySem.W.nsIn K mainGlobals "common_bottom" = some (some (.ref f2))) (l2:K.lookup f2 = some ⟨Ku,Ki,.func (PySem.W.fnOf "common_bottom" "common_bottom" (aD aW) (az aW) (ai aW) .none KW Mi JW MN xH Mv),uR⟩) (c2:PySem.W.codeIn K xH "common_bottom" = true) (k2:PySem.W.keepIn K (.ref f2) = true)
  {f3:Addr} {Kh MM:Option Addr} {yE:Array (Option Value)} {Kt KU Mh JV zR Mu:Value}
  (a3:PySem.W.nsIn K mainGlobals "made_whole" = some (some (.ref f3))) (l3:K.lookup f3 = some ⟨Kt,Kh,.func (PySem.W.fnOf "made_whole" "made_whole" (aD bL) (az bL) (ai bL) .none KU Mh JV MM zR Mu),yE⟩) (c3:PySem.W.codeIn K zR "made_whole" = true) (k3:PySem.W.keepIn K (.ref f3) = true)
  {f4:Addr} {Kg ML:Option Addr} {Jl:Array (Option Value)} {Ks KS Mg JU Ii Mt:Value}
  (a4:PySem.W.nsIn K mainGlobals "led" = some (some (.ref f4))) (l4:K.lookup f4 = some ⟨Ks,Kg,.func (PySem.W.fnOf "led" "led" (aD ij) (az ij) (ai ij) .none KS Mg JU ML Ii Mt),Jl⟩) (c4:PySem.W.codeIn K Ii "led" = true) (k4:PySem.W.keepIn K (.ref f4) = true)
  {f5:Addr} {Kf MK:Option Addr} {Jk:Array (Option Value)} {Kr KR Mf JT Ih Ms:Value}
  (a5:PySem.W.nsIn K mainGlobals "row_cleared" = some (some (.ref f5))) (l5:K.lookup f5 = some ⟨Kr,Kf,.func (PySem.W.fnOf "row_cleared" "row_cleared" (aD bw) (az bw) (ai bw) .none KR Mf JT MK Ih Ms),Jk⟩) (c5:PySem.W.codeIn K Ih "row_cleared" = true) (k5:PySem.W.keepIn K (.ref f5) = true)
  {f6:Addr} {Ke MJ:Option Addr} {Jj:Array (Option Value)} {Kq KQ Me JS Ig Mr:Value}
  (a6:PySem.W.nsIn K mainGlobals "column_cleared" = some (some (.ref f6))) (l6:K.lookup f6 = some ⟨Kq,Ke,.func (PySem.W.fnOf "column_cleared" "column_cleared" (aD aS) (az aS) (ai aS) .none KQ Me JS MJ Ig Mr),Jj⟩) (c6:PySem.W.codeIn K Ig "column_cleared" = true) (k6:PySem.W.keepIn K (.ref f6) = true)
  {f7:Addr} {Kd MI:Option Addr} {Ji:Array (Option Value)} {Ko KP Mc JR Ie Mq:Value}
  (a7:PySem.W.nsIn K mainGlobals "cleared" = some (some (.ref f7))) (l7:K.lookup f7 = some ⟨Ko,Kd,.func (PySem.W.fnOf "cleared" "cleared" (aD cN) (az cN) (ai cN) .none KP Mc JR MI Ie Mq),Ji⟩) (c7:PySem.W.codeIn K Ie "cleared" = true) (k7:PySem.W.keepIn K (.ref f7) = true)
  {f8:Addr} {Kc MH:Option Addr} {Jh:Array (Option Value)} {Kn KO Mb JQ Ic Mp:Value}
  (a8:PySem.W.nsIn K mainGlobals "solved" = some (some (.ref f8))) (l8:K.lookup f8 = some ⟨Kn,Kc,.func (PySem.W.fnOf "solved" "solved" (aD dc) (az dc) (ai dc) .none KO Mb JQ MH Ic Mp),Jh⟩) (c8:PySem.W.codeIn K Ic "solved" = true) (k8:PySem.W.keepIn K (.ref f8) = true)
  {f9:Addr} {Kb MG:Option Addr} {Jg:Array (Option Value)} {Km KN Ma JP Ib Mo:Value}
  (a9:PySem.W.nsIn K mainGlobals "determinant" = some (some (.ref f9))) (l9:K.lookup f9 = some ⟨Km,Kb,.func (PySem.W.fnOf "determinant" "determinant" (aD bx) (az bx) (ai bx) .none KN Ma JP MG Ib Mo),Jg⟩) (c9:PySem.W.codeIn K Ib "determinant" = true) (k9:PySem.W.keepIn K (.ref f9) = true)
  {Bl:Addr} {C7 FZ:Option Addr} {B6:Array (Option Value)} {Du DV Fn CO Ag FF:Value}
  (a10:PySem.W.nsIn K mainGlobals "_law_cell_at" = some (some (.ref Bl))) (l10:K.lookup Bl = some ⟨Du,C7,.func (PySem.W.fnOf "_law_cell_at" "_law_cell_at" (aD bo) (az bo) (ai bo) .none DV Fn CO FZ Ag FF),B6⟩) (c10:PySem.W.codeIn K Ag "_law_cell_at" = true) (k10:PySem.W.keepIn K (.ref Bl) = true)
  {Bk:Addr} {C6 FY:Option Addr} {B5:Array (Option Value)} {Ds DU Fm CM Af FE:Value}
  (a11:PySem.W.nsIn K mainGlobals "_law_whole" = some (some (.ref Bk))) (l11:K.lookup Bk = some ⟨Ds,C6,.func (PySem.W.fnOf "_law_whole" "_law_whole" (aD bM) (az bM) (ai bM) .none DU Fm CM FY Af FE),B5⟩) (c11:PySem.W.codeIn K Af "_law_whole" = true) (k11:PySem.W.keepIn K (.ref Bk) = true)
  {Bj:Addr} {C5 FX:Option Addr} {B4:Array (Option Value)} {Dr DT Fj CL Ae FD:Value}
  (a12:PySem.W.nsIn K mainGlobals "_law_block" = some (some (.ref Bj))) (l12:K.lookup Bj = some ⟨Dr,C5,.func (PySem.W.fnOf "_law_block" "_law_block" (aD bP) (az bP) (ai bP) .none DT Fj CL FX Ae FD),B4⟩) (c12:PySem.W.codeIn K Ae "_law_block" = true) (k12:PySem.W.keepIn K (.ref Bj) = true)
  {Bi:Addr} {C4 FW:Option Addr} {B3:Array (Option Value)} {Dm DS Fh CK Ad FC:Value}
  (a13:PySem.W.nsIn K mainGlobals "_law_mixed" = some (some (.ref Bi))) (l13:K.lookup Bi = some ⟨Dm,C4,.func (PySem.W.fnOf "_law_mixed" "_law_mixed" (aD bO) (az bO) (ai bO) .none DS Fh CK FW Ad FC),B3⟩) (c13:PySem.W.codeIn K Ad "_law_mixed" = true) (k13:PySem.W.keepIn K (.ref Bi) = true)
  {Bh:Addr} {C3 FV:Option Addr} {B1:Array (Option Value)} {Dl DR Fg CJ Ac FA:Value}
  (a14:PySem.W.nsIn K mainGlobals "_law_divisor" = some (some (.ref Bh))) (l14:K.lookup Bh = some ⟨Dl,C3,.func (PySem.W.fnOf "_law_divisor" "_law_divisor" (aD bh) (az bh) (ai bh) .none DR Fg CJ FV Ac FA),B1⟩) (c14:PySem.W.codeIn K Ac "_law_divisor" = true) (k14:PySem.W.keepIn K (.ref Bh) = true)
  {Bg:Addr} {C2 FU:Option Addr} {B0:Array (Option Value)} {Dk DQ Ff CI Ab Fz:Value}
  (a15:PySem.W.nsIn K mainGlobals "_law_lowest" = some (some (.ref Bg))) (l15:K.lookup Bg = some ⟨Dk,C2,.func (PySem.W.fnOf "_law_lowest" "_law_lowest" (aD bB) (az bB) (ai bB) .none DQ Ff CI FU Ab Fz),B0⟩) (c15:PySem.W.codeIn K Ab "_law_lowest" = true) (k15:PySem.W.keepIn K (.ref Bg) = true)
  {Bf:Addr} {C1 FT:Option Addr} {BZ:Array (Option Value)} {Dj DP Fe CH Aa Fy:Value}
  (a16:PySem.W.nsIn K mainGlobals "_law_is_fraction" = some (some (.ref Bf))) (l16:K.lookup Bf = some ⟨Dj,C1,.func (PySem.W.fnOf "_law_is_fraction" "_law_is_fraction" (aD aL) (az aL) (ai aL) .none DP Fe CH FT Aa Fy),BZ⟩) (c16:PySem.W.codeIn K Aa "_law_is_fraction" = true) (k16:PySem.W.keepIn K (.ref Bf) = true)
  {Be:Addr} {C0 FR:Option Addr} {BY:Array (Option Value)} {Di DO Fd CG zZ Fx:Value}
  (a17:PySem.W.nsIn K mainGlobals "_law_number" = some (some (.ref Be))) (l17:K.lookup Be = some ⟨Di,C0,.func (PySem.W.fnOf "_law_number" "_law_number" (aD bA) (az bA) (ai bA) .none DO Fd CG FR zZ Fx),BY⟩) (c17:PySem.W.codeIn K zZ "_law_number" = true) (k17:PySem.W.keepIn K (.ref Be) = true)
  {Bd:Addr} {CZ FQ:Option Addr} {BX:Array (Option Value)} {Dh DN Fc CF zY Fw:Value}
  (a18:PySem.W.nsIn K mainGlobals "_law_rows" = some (some (.ref Bd))) (l18:K.lookup Bd = some ⟨Dh,CZ,.func (PySem.W.fnOf "_law_rows" "_law_rows" (aD bX) (az bX) (ai bX) .none DN Fc CF FQ zY Fw),BX⟩) (c18:PySem.W.codeIn K zY "_law_rows" = true) (k18:PySem.W.keepIn K (.ref Bd) = true)
  {Bc:Addr} {CY FP:Option Addr} {BW:Array (Option Value)} {Dg DM Fb CD zX Fv:Value}
  (a19:PySem.W.nsIn K mainGlobals "_law_plus" = some (some (.ref Bc))) (l19:K.lookup Bc = some ⟨Dg,CY,.func (PySem.W.fnOf "_law_plus" "_law_plus" (aD bY) (az bY) (ai bY) .none DM Fb CD FP zX Fv),BW⟩) (c19:PySem.W.codeIn K zX "_law_plus" = true) (k19:PySem.W.keepIn K (.ref Bc) = true)
  {Bb:Addr} {CW FO:Option Addr} {BV:Array (Option Value)} {Df DL E9 CC zW Fu:Value}
  (a20:PySem.W.nsIn K mainGlobals "_law_times" = some (some (.ref Bb))) (l20:K.lookup Bb = some ⟨Df,CW,.func (PySem.W.fnOf "_law_times" "_law_times" (aD bN) (az bN) (ai bN) .none DL E9 CC FO zW Fu),BV⟩) (c20:PySem.W.codeIn K zW "_law_times" = true) (k20:PySem.W.keepIn K (.ref Bb) = true)
  {A9:Addr} {CV FN:Option Addr} {BU:Array (Option Value)} {De DK E8 CB zV Ft:Value}
  (a21:PySem.W.nsIn K mainGlobals "_law_sum_of_ways" = some (some (.ref A9))) (l21:K.lookup A9 = some ⟨De,CV,.func (PySem.W.fnOf "_law_sum_of_ways" "_law_sum_of_ways" (aD aC) (az aC) (ai aC) .none DK E8 CB FN zV Ft),BU⟩) (c21:PySem.W.codeIn K zV "_law_sum_of_ways" = true) (k21:PySem.W.keepIn K (.ref A9) = true)
  {A8:Addr} {CU FL:Option Addr} {BS:Array (Option Value)} {Dd DJ E7 CA zU Fs:Value}
  (a22:PySem.W.nsIn K mainGlobals "_law_caught" = some (some (.ref A8))) (l22:K.lookup A8 = some ⟨Dd,CU,.func (PySem.W.fnOf "_law_caught" "_law_caught" (aD bC) (az bC) (ai bC) .none DJ E7 CA FL zU Fs),BS⟩) (c22:PySem.W.codeIn K zU "_law_caught" = true) (k22:PySem.W.keepIn K (.ref A8) = true)
  {A7:Addr} {CT FK:Option Addr} {BR:Array (Option Value)} {Dc DI E6 Cz zT Fp:Value}
  (a23:PySem.W.nsIn K mainGlobals "_law_refused" = some (some (.ref A7))) (l23:K.lookup A7 = some ⟨Dc,CT,.func (PySem.W.fnOf "_law_refused" "_law_refused" (aD bg) (az bg) (ai bg) .none DI E6 Cz FK zT Fp),BR⟩) (c23:PySem.W.codeIn K zT "_law_refused" = true) (k23:PySem.W.keepIn K (.ref A7) = true)
  {A6:Addr} {CS FJ:Option Addr} {BQ:Array (Option Value)} {C9 DH E5 Cy zS Fo:Value}
  (a24:PySem.W.nsIn K mainGlobals "_law_answered" = some (some (.ref A6))) (l24:K.lookup A6 = some ⟨C9,CS,.func (PySem.W.fnOf "_law_answered" "_law_answered" (aD aX) (az aX) (ai aX) .none DH E5 Cy FJ zS Fo),BQ⟩) (c24:PySem.W.codeIn K zS "_law_answered" = true) (k24:PySem.W.keepIn K (.ref A6) = true)
  {EV:Addr} {CQ Ai:Option Addr} {BP:Array (Option Value)} {C8 yZ zN yQ xG zQ:Value}
  (a25:PySem.W.nsIn K mainGlobals "law" = some (some (.ref EV))) (l25:K.lookup EV = some ⟨C8,CQ,.func (PySem.W.fnOf "law" "law" (aD fY) (az fY) (ai fY) .none yZ zN yQ Ai xG zQ),BP⟩) (c25:PySem.W.codeIn K xG "law" = true) (k25:PySem.W.keepIn K (.ref EV) = true)
  (z0:PySem.W.nsIn K mainGlobals "abs" = some none)
  (z1:PySem.W.nsIn K mainGlobals "len" = some none)
  (z2:PySem.W.nsIn K mainGlobals "isinstance" = some none)
  (z3:PySem.W.nsIn K mainGlobals "int" = some none)
  (z4:PySem.W.nsIn K mainGlobals "bool" = some none)
  (z5:PySem.W.nsIn K mainGlobals "tuple" = some none)
  (z6:PySem.W.nsIn K mainGlobals "enumerate" = some none)
  (z7:PySem.W.nsIn K mainGlobals "range" = some none)
  (z8:PySem.W.nsIn K mainGlobals "min" = some none)
  (z9:PySem.W.nsIn K mainGlobals "list" = some none)
  (z10:PySem.W.nsIn K mainGlobals "zip" = some none)
  (z11:PySem.W.nsIn K mainGlobals "ValueError" = some none)
  (x_NoOne:PySem.W.excIn K bq [.type "ValueError",.type "Exception",.type "BaseException",.type "object"] "ValueError.__new__" = true)
  (t1_NoOne:PySem.W.findIn K (.ref bq) "__getattribute__" = some (some (.builtin "BaseException.__getattribute__"))) (t7_NoOne:PySem.W.findIn K (.ref bq) "__getattr__" = some none) (t8_NoOne:PySem.W.mroIn K bq (.type "BaseException") = some true) {sG:ClassData} (t2_NoOne:PySem.W.clsIn K bq = some sG) (t3_NoOne:PySem.W.findIn K (.ref bq) "__class__" = some (some (.builtin "object.__class__"))) (t6_NoOne:PySem.W.mroIn K bq (.type "object") = some true)
  (t4:PySem.W.specialIn K (.builtin "object.__class__") "__get__" = some (some (.builtin "getset_descriptor.__get__"))) (t5:PySem.W.takesIn K (.builtin "object.__class__") = some true)
  (f_m1:PySem.W.exmOne K (.ref bq) (.ref bq) = some true)
  (f_m6:PySem.W.exmOne K (.ref bq) (.ref eW) = some true)
  (f_m2:PySem.W.kitOne K (.ref bq) (.ref bq) = some true)
  (f_m3:PySem.W.kitAny K (.ref bq) [.ref lC,.ref fQ,.ref ic,.ref jt,.ref fP,.ref eV,.ref fO,.ref fN] = some false)
  (f_m4:PySem.W.kitAny K (.ref bq) [.ref h9,.ref h8,.ref fM,.ref js,.ref eE,.ref hZ] = some false)
  (f_m5:PySem.W.kitOne K (.ref bq) (.type "ValueError") = some true)
  : ∃ fd:FuncData,(∀ (s:Shared) (v:Value),BindsTo s fd ⟨[v],[]⟩ [("_law_script",v)])∧∀ base:Heap,K.In base→base.Ns mainGlobals mg→jY l.prog w K mg base (bH l.prog w) 12 fa fd ["_law_script"] (kB K):=by
 have e:=LH.symm.trans (PySem.W.mg_of X G a25)
 cases e
 have T:Txt K mg ⟨eW,eV,bq,js,fO,fP,ic,fQ,fM,lC,eE,h9,h8,jt,fN,hZ⟩:=⟨PySem.W.mg_none_of X G z0,PySem.W.mg_none_of X G z1,PySem.W.mg_none_of X G z2,PySem.W.mg_none_of X G z3,PySem.W.mg_none_of X G z4,PySem.W.mg_none_of X G z5,PySem.W.mg_none_of X G z6,PySem.W.mg_none_of X G z7,PySem.W.mg_none_of X G z8,PySem.W.mg_none_of X G z9,PySem.W.mg_none_of X G z10,PySem.W.mg_none_of X G z11,PySem.W.mg_of X G e_MapError,PySem.W.mg_of X G e_NoNumber,PySem.W.mg_of X G e_NoOne,PySem.W.mg_of X G e_NoTie,PySem.W.mg_of X G e_NoOther,PySem.W.mg_of X G e_NoNames,PySem.W.mg_of X G e_NoLand,PySem.W.mg_of X G e_NoFrame,PySem.W.mg_of X G e_NoThree,PySem.W.mg_of X G e_Flat,PySem.W.mg_of X G e_NotInside,PySem.W.mg_of X G e_NoStep,PySem.W.mg_of X G e_NoText,PySem.W.mg_of X G e_NoMap,PySem.W.mg_of X G e_NoSheet,PySem.W.mg_of X G e_Parted,x_NoOne,⟨t1_NoOne,t7_NoOne,t8_NoOne,by rw [t2_NoOne]; rfl,t3_NoOne,t4,t5,t6_NoOne⟩,f_m1,f_m6,f_m2,f_m3,f_m4,f_m5⟩
 have D0:Def K mg "common_divisor" aR ["one", "other"]:=⟨⟨f0,_,ax (st:=aR) l0 c0 k0,PySem.W.mg_of X G a0,(ax (st:=aR) l0 c0 k0).binds (ps:=["one", "other"]) fun _ _ _ _ _ _ us hl=>match us,hl with | [_,_],_=>rfl⟩⟩
 have D1:Def K mg "ratio" dW ["top", "bottom"]:=⟨⟨f1,_,ax (st:=dW) l1 c1 k1,PySem.W.mg_of X G a1,(ax (st:=dW) l1 c1 k1).binds (ps:=["top", "bottom"]) fun _ _ _ _ _ _ us hl=>match us,hl with | [_,_],_=>rfl⟩⟩
 have D2:Def K mg "common_bottom" aW ["row"]:=⟨⟨f2,_,ax (st:=aW) l2 c2 k2,PySem.W.mg_of X G a2,(ax (st:=aW) l2 c2 k2).binds (ps:=["row"]) fun _ _ _ _ _ _ us hl=>match us,hl with | [_],_=>rfl⟩⟩
 have D3:Def K mg "made_whole" bL ["row"]:=⟨⟨f3,_,ax (st:=bL) l3 c3 k3,PySem.W.mg_of X G a3,(ax (st:=bL) l3 c3 k3).binds (ps:=["row"]) fun _ _ _ _ _ _ us hl=>match us,hl with | [_],_=>rfl⟩⟩
 have D4:Def K mg "led" ij ["rows", "column"]:=⟨⟨f4,_,ax (st:=ij) l4 c4 k4,PySem.W.mg_of X G a4,(ax (st:=ij) l4 c4 k4).binds (ps:=["rows", "column"]) fun _ _ _ _ _ _ us hl=>match us,hl with | [_,_],_=>rfl⟩⟩
 have D5:Def K mg "row_cleared" bw ["row", "leader", "column", "last"]:=⟨⟨f5,_,ax (st:=bw) l5 c5 k5,PySem.W.mg_of X G a5,(ax (st:=bw) l5 c5 k5).binds (ps:=["row", "leader", "column", "last"]) fun _ _ _ _ _ _ us hl=>match us,hl with | [_,_,_,_],_=>rfl⟩⟩
 have D6:Def K mg "column_cleared" aS ["rows", "column", "last"]:=⟨⟨f6,_,ax (st:=aS) l6 c6 k6,PySem.W.mg_of X G a6,(ax (st:=aS) l6 c6 k6).binds (ps:=["rows", "column", "last"]) fun _ _ _ _ _ _ us hl=>match us,hl with | [_,_,_],_=>rfl⟩⟩
 have D7:Def K mg "cleared" cN ["rows"]:=⟨⟨f7,_,ax (st:=cN) l7 c7 k7,PySem.W.mg_of X G a7,(ax (st:=cN) l7 c7 k7).binds (ps:=["rows"]) fun _ _ _ _ _ _ us hl=>match us,hl with | [_],_=>rfl⟩⟩
 have D8:Def K mg "solved" dc ["rows", "goals"]:=⟨⟨f8,_,ax (st:=dc) l8 c8 k8,PySem.W.mg_of X G a8,(ax (st:=dc) l8 c8 k8).binds (ps:=["rows", "goals"]) fun _ _ _ _ _ _ us hl=>match us,hl with | [_,_],_=>rfl⟩⟩
 have D9:Def K mg "determinant" bx ["rows"]:=⟨⟨f9,_,ax (st:=bx) l9 c9 k9,PySem.W.mg_of X G a9,(ax (st:=bx) l9 c9 k9).binds (ps:=["rows"]) fun _ _ _ _ _ _ us hl=>match us,hl with | [_],_=>rfl⟩⟩
 have Nr:Def K mg "_law_cell_at" bo ["_law_script", "_law_k"]:=⟨⟨Bl,_,ax (st:=bo) l10 c10 k10,PySem.W.mg_of X G a10,(ax (st:=bo) l10 c10 k10).binds (ps:=["_law_script", "_law_k"]) fun _ _ _ _ _ _ us hl=>match us,hl with | [_,_],_=>rfl⟩⟩
 have Nq:Def K mg "_law_whole" bM ["_law_found"]:=⟨⟨Bk,_,ax (st:=bM) l11 c11 k11,PySem.W.mg_of X G a11,(ax (st:=bM) l11 c11 k11).binds (ps:=["_law_found"]) fun _ _ _ _ _ _ us hl=>match us,hl with | [_],_=>rfl⟩⟩
 have Np:Def K mg "_law_block" bP ["_law_script", "_law_k"]:=⟨⟨Bj,_,ax (st:=bP) l12 c12 k12,PySem.W.mg_of X G a12,(ax (st:=bP) l12 c12 k12).binds (ps:=["_law_script", "_law_k"]) fun _ _ _ _ _ _ us hl=>match us,hl with | [_,_],_=>rfl⟩⟩
 have Nn:Def K mg "_law_mixed" bO ["_law_script", "_law_k"]:=⟨⟨Bi,_,ax (st:=bO) l13 c13 k13,PySem.W.mg_of X G a13,(ax (st:=bO) l13 c13 k13).binds (ps:=["_law_script", "_law_k"]) fun _ _ _ _ _ _ us hl=>match us,hl with | [_,_],_=>rfl⟩⟩
 have Nm:Def K mg "_law_divisor" bh ["_law_one", "_law_other"]:=⟨⟨Bh,_,ax (st:=bh) l14 c14 k14,PySem.W.mg_of X G a14,(ax (st:=bh) l14 c14 k14).binds (ps:=["_law_one", "_law_other"]) fun _ _ _ _ _ _ us hl=>match us,hl with | [_,_],_=>rfl⟩⟩
 have Nl:Def K mg "_law_lowest" bB ["_law_top", "_law_bottom"]:=⟨⟨Bg,_,ax (st:=bB) l15 c15 k15,PySem.W.mg_of X G a15,(ax (st:=bB) l15 c15 k15).binds (ps:=["_law_top", "_law_bottom"]) fun _ _ _ _ _ _ us hl=>match us,hl with | [_,_],_=>rfl⟩⟩
 have Nk:Def K mg "_law_is_fraction" aL ["_law_found"]:=⟨⟨Bf,_,ax (st:=aL) l16 c16 k16,PySem.W.mg_of X G a16,(ax (st:=aL) l16 c16 k16).binds (ps:=["_law_found"]) fun _ _ _ _ _ _ us hl=>match us,hl with | [_],_=>rfl⟩⟩
 have Nj:Def K mg "_law_number" bA ["_law_script", "_law_k"]:=⟨⟨Be,_,ax (st:=bA) l17 c17 k17,PySem.W.mg_of X G a17,(ax (st:=bA) l17 c17 k17).binds (ps:=["_law_script", "_law_k"]) fun _ _ _ _ _ _ us hl=>match us,hl with | [_,_],_=>rfl⟩⟩
 have Nh:Def K mg "_law_rows" bX ["_law_script", "_law_many"]:=⟨⟨Bd,_,ax (st:=bX) l18 c18 k18,PySem.W.mg_of X G a18,(ax (st:=bX) l18 c18 k18).binds (ps:=["_law_script", "_law_many"]) fun _ _ _ _ _ _ us hl=>match us,hl with | [_,_],_=>rfl⟩⟩
 have Ng:Def K mg "_law_plus" bY ["_law_one", "_law_other"]:=⟨⟨Bc,_,ax (st:=bY) l19 c19 k19,PySem.W.mg_of X G a19,(ax (st:=bY) l19 c19 k19).binds (ps:=["_law_one", "_law_other"]) fun _ _ _ _ _ _ us hl=>match us,hl with | [_,_],_=>rfl⟩⟩
 have Nd:Def K mg "_law_times" bN ["_law_one", "_law_other"]:=⟨⟨Bb,_,ax (st:=bN) l20 c20 k20,PySem.W.mg_of X G a20,(ax (st:=bN) l20 c20 k20).binds (ps:=["_law_one", "_law_other"]) fun _ _ _ _ _ _ us hl=>match us,hl with | [_,_],_=>rfl⟩⟩
 have Na:Def K mg "_law_sum_of_ways" aC ["_law_rows_here", "_law_columns"]:=⟨⟨A9,_,ax (st:=aC) l21 c21 k21,PySem.W.mg_of X G a21,(ax (st:=aC) l21 c21 k21).binds (ps:=["_law_rows_here", "_law_columns"]) fun _ _ _ _ _ _ us hl=>match us,hl with | [_,_],_=>rfl⟩⟩
 have M9:Def K mg "_law_caught" bC ["_law_rows_here", "_law_goals"]:=⟨⟨A8,_,ax (st:=bC) l22 c22 k22,PySem.W.mg_of X G a22,(ax (st:=bC) l22 c22 k22).binds (ps:=["_law_rows_here", "_law_goals"]) fun _ _ _ _ _ _ us hl=>match us,hl with | [_,_],_=>rfl⟩⟩
 have M8:Def K mg "_law_refused" bg ["_law_rows_here", "_law_goals"]:=⟨⟨A7,_,ax (st:=bg) l23 c23 k23,PySem.W.mg_of X G a23,(ax (st:=bg) l23 c23 k23).binds (ps:=["_law_rows_here", "_law_goals"]) fun _ _ _ _ _ _ us hl=>match us,hl with | [_,_],_=>rfl⟩⟩
 have M7:Def K mg "_law_answered" aX ["_law_found", "_law_rows_here", "_law_goals"]:=⟨⟨A6,_,ax (st:=aX) l24 c24 k24,PySem.W.mg_of X G a24,(ax (st:=aX) l24 c24 k24).binds (ps:=["_law_found", "_law_rows_here", "_law_goals"]) fun _ _ _ _ _ _ us hl=>match us,hl with | [_,_,_],_=>rfl⟩⟩
 refine ⟨PySem.W.fnOf "law" "law" (aD fY) (az fY) (ai fY) .none yZ zN yQ Ai xG zQ,fun s v=>.of_eq rfl,fun base hK hG=>?_⟩
 have eo:=gi (P:=l.prog) (w:=w) (base:=base) D0 T
 have oY:=rD (P:=l.prog) (w:=w) (base:=base) D1 T eo
 have eK:=g9 (P:=l.prog) (w:=w) (base:=base) D2 T eo
 have gL:=jJ (P:=l.prog) (w:=w) (base:=base) D3 T eK
 have Ap:=wC (P:=l.prog) (w:=w) (base:=base) D4 T
 have jV:=i8 (P:=l.prog) (w:=w) (base:=base) D5 T
 have ie:=gj (P:=l.prog) (w:=w) (base:=base) D6 T jV
 have kn:=nB (P:=l.prog) (w:=w) (base:=base) D7 T Ap ie
 have mT:=pe (P:=l.prog) (w:=w) (base:=base) D8 T oY gL kn
 have jW:=i9 (P:=l.prog) (w:=w) (base:=base) D9 T oY eK gL kn
 have fb:=iB (P:=l.prog) (w:=w) (base:=base) Nr T
 have lK:=jK (P:=l.prog) (w:=w) (base:=base) Nq T
 have lL:=jN (P:=l.prog) (w:=w) (base:=base) Np T
 have gM:=jM (P:=l.prog) (w:=w) (base:=base) Nn T lL
 have eZ:=iA (P:=l.prog) (w:=w) (base:=base) Nm T
 have d8:=jb (P:=l.prog) (w:=w) (base:=base) Nl T eZ
 have dR:=fv (P:=l.prog) (w:=w) (base:=base) Nk T lK eZ
 have fE:=ja (P:=l.prog) (w:=w) (base:=base) Nj T fb gM d8
 have mU:=kY (P:=l.prog) (w:=w) (base:=base) Nh T fE
 have eY:=kZ (P:=l.prog) (w:=w) (base:=base) Ng T d8
 have eF:=jL (P:=l.prog) (w:=w) (base:=base) Nd T d8
 have fR:=fu (P:=l.prog) (w:=w) (base:=base) Na T eY eF
 have jX:=jc (P:=l.prog) (w:=w) (base:=base) M9 T mT
 have jB:=iz (P:=l.prog) (w:=w) (base:=base) M8 T jX
 have iG:=hE (P:=l.prog) (w:=w) (base:=base) M7 T dR eY eF
 exact wD (ax (st:=fY) l25 c25 k25) T mT jW fb gM dR fE mU eY eF fR jB iG
theorem walk {l:PySem.W.OpenLaw} {q:Program} {loose:List Str} {XP:(Str→Option Value)→Heap→Prop} {YP:World→Heap→Prop} {d:DefRec} {K:Params→PySem.W.Frag} (hn:l.most = some 63) (uf:d.params.defaults = [])
  (hY:∀ (w:World) (h:Heap),YP w h→(K w.params).In h)
  (F:∀ (w:World) (mg:Str→Option Value) (fa:Addr) (h:Heap),(K w.params).In h→h.Ns mainGlobals mg→mg d.name = some (.ref fa)→
   ∃ fd:FuncData,(∀ (s:Shared) (u:Value),BindsTo s fd ⟨[u],[]⟩ [("_law_script",u)])∧∀ base:Heap,(K w.params).In base→base.Ns mainGlobals mg→jY l.prog w (K w.params) mg base (bH l.prog w) 12 fa fd ["_law_script"] (kB (K w.params))) :
  PySem.W.WalkO q loose XP YP l.row.toRowW d [] (fun f vs=>PySem.call f vs):=
 L2.tD (n:=63) (k:=12) (x:= "_law_script") (CX:=fun w=>bH l.prog w) (sp:=fun w=>kB (K w.params)) hn (by decide) uf ⟨rfl,by decide,by decide⟩ hY F (fun _ _ a ns hl _ hS=>⟨a,ns,rfl,hS,hl,fun _=>rfl⟩) fun _ _ _ _ _ z=>pF z
end xO
theorem PySem.W.Fast.tw16596835068149735688:True:=trivial
theorem PySem.W.Fast.tw8168955318457301568:True:=trivial
theorem PySem.W.Fast.tw13340346833981466281:True:=trivial
theorem PySem.W.Fast.tw15654898146317557952:True:=trivial
theorem PySem.W.Fast.tw6707680354183869361:True:=trivial
theorem PySem.W.Fast.tw14363521279334426659:True:=trivial
theorem PySem.W.Fast.tw7012630026341590660:True:=trivial
theorem PySem.W.Fast.tw534218170090293606:True:=trivial
theorem PySem.W.Fast.tw14964436421309084025:True:=trivial
theorem PySem.W.Fast.tw12751115372715512325:True:=trivial
theorem PySem.W.Fast.tw10790429497980027684:True:=trivial
theorem PySem.W.Fast.tw8630405765932905335:True:=trivial
theorem PySem.W.Fast.tw12459253811099679246:True:=trivial
theorem PySem.W.Fast.tw15297425715843870227:True:=trivial
theorem PySem.W.Fast.tw2822424164605596215:True:=trivial
theorem PySem.W.Fast.tw14847003452922362788:True:=trivial
theorem PySem.W.Fast.tw463828536187538869:True:=trivial
theorem PySem.W.Fast.tw16332288408273624806:True:=trivial
theorem PySem.W.Fast.tw6568844740047463483:True:=trivial
theorem PySem.W.Fast.tw16510141777720232627:True:=trivial
theorem PySem.W.Fast.tw2107802911643359752:True:=trivial
theorem PySem.W.Fast.tw2236412976600232992:True:=trivial
theorem PySem.W.Fast.tw385504960109667399:True:=trivial
theorem PySem.W.Fast.tw1046319546617690849:True:=trivial
theorem PySem.W.Fast.tw8257350396906124249:True:=trivial
theorem PySem.W.Fast.tw7259627222032085306:True:=trivial
theorem PySem.W.Fast.tw10558848908498592478:True:=trivial
theorem PySem.W.Fast.tw6528565754866302680:True:=trivial
theorem PySem.W.Fast.tw12682112090915982573:True:=trivial
theorem PySem.W.Fast.tw13904704933840735619:True:=trivial
theorem PySem.W.Fast.tw15117717711052692382:True:=trivial
theorem PySem.W.Fast.tw16573462673667011064:True:=trivial
theorem PySem.W.Fast.tw10808634612064221986:True:=trivial
theorem PySem.W.Fast.tw119032029866801120:True:=trivial
theorem PySem.W.Fast.tw16831639807730361823:True:=trivial
theorem PySem.W.Fast.tw12411047059871910405:True:=trivial
theorem PySem.W.Fast.tw1847663517732752123:True:=trivial
theorem PySem.W.Fast.tw586341646443209894:True:=trivial
theorem PySem.W.Fast.tw8971117500943167738:True:=trivial
theorem PySem.W.Fast.tw9977478095206529076:True:=trivial
theorem PySem.W.Fast.tw4323704060612788140:True:=trivial
theorem PySem.W.Fast.tw11223292068698982098:True:=trivial
theorem PySem.W.Fast.tw6826351437105741305:True:=trivial
open PySem PySem.W PyProof.Rows
set_option maxRecDepth 100000 in
set_option maxHeartbeats 0 in
theorem PySem.Challenge.cw_standup_k04_one_answer_or_none_holds : PySem.Challenge.rw_standup_k04_one_answer_or_none.Holds := by
 w_on; o_law; k_head; (case hw=>w_witness2)
 k_fill
 refine xO.walk (l:=PySem.Challenge.rw_standup_k04_one_answer_or_none) rfl rfl (fun w h Y=>PySem.W.kIn_of Y) ?F
 case F=>
  intro w mg fa h KX G zp
  refine' xO.all_mk KX G zp ?e_MapError ?e_NoNumber ?e_NoOne ?e_NoTie ?e_NoOther ?e_NoNames ?e_NoLand ?e_NoFrame ?e_NoThree ?e_Flat ?e_NotInside ?e_NoStep ?e_NoText ?e_NoMap ?e_NoSheet ?e_Parted ?a0 ?l0 ?c0 ?k0 ?a1 ?l1 ?c1 ?k1 ?a2 ?l2 ?c2 ?k2 ?a3 ?l3 ?c3 ?k3 ?a4 ?l4 ?c4 ?k4 ?a5 ?l5 ?c5 ?k5 ?a6 ?l6 ?c6 ?k6 ?a7 ?l7 ?c7 ?k7 ?a8 ?l8 ?c8 ?k8 ?a9 ?l9 ?c9 ?k9 ?a10 ?l10 ?c10 ?k10 ?a11 ?l11 ?c11 ?k11 ?a12 ?l12 ?c12 ?k12 ?a13 ?l13 ?c13 ?k13 ?a14 ?l14 ?c14 ?k14 ?a15 ?l15 ?c15 ?k15 ?a16 ?l16 ?c16 ?k16 ?a17 ?l17 ?c17 ?k17 ?a18 ?l18 ?c18 ?k18 ?a19 ?l19 ?c19 ?k19 ?a20 ?l20 ?c20 ?k20 ?a21 ?l21 ?c21 ?k21 ?a22 ?l22 ?c22 ?k22 ?a23 ?l23 ?c23 ?k23 ?a24 ?l24 ?c24 ?k24 ?a25 ?l25 ?c25 ?k25 ?z0 ?z1 ?z2 ?z3 ?z4 ?z5 ?z6 ?z7 ?z8 ?z9 ?z10 ?z11 ?x_NoOne ?t1_NoOne ?t7_NoOne ?t8_NoOne ?t2_NoOne ?t3_NoOne ?t6_NoOne ?t4 ?t5 ?f_m1 ?f_m6 ?f_m2 ?f_m3 ?f_m4 ?f_m5
  (case e_MapError=>k_is)
  (case e_NoNumber=>k_is)
  (case e_NoOne=>k_is)
  (case e_NoTie=>k_is)
  (case e_NoOther=>k_is)
  (case e_NoNames=>k_is)
  (case e_NoLand=>k_is)
  (case e_NoFrame=>k_is)
  (case e_NoThree=>k_is)
  (case e_Flat=>k_is)
  (case e_NotInside=>k_is)
  (case e_NoStep=>k_is)
  (case e_NoText=>k_is)
  (case e_NoMap=>k_is)
  (case e_NoSheet=>k_is)
  (case e_Parted=>k_is)
  (case a0=>k_is)
  (case l0=>k_is)
  (case c0=>k_is)
  (case k0=>k_is)
  (case a1=>k_is)
  (case l1=>k_is)
  (case c1=>k_is)
  (case k1=>k_is)
  (case a2=>k_is)
  (case l2=>k_is)
  (case c2=>k_is)
  (case k2=>k_is)
  (case a3=>k_is)
  (case l3=>k_is)
  (case c3=>k_is)
  (case k3=>k_is)
  (case a4=>k_is)
  (case l4=>k_is)
  (case c4=>k_is)
  (case k4=>k_is)
  (case a5=>k_is)
  (case l5=>k_is)
  (case c5=>k_is)
  (case k5=>k_is)
  (case a6=>k_is)
  (case l6=>k_is)
  (case c6=>k_is)
  (case k6=>k_is)
  (case a7=>k_is)
  (case l7=>k_is)
  (case c7=>k_is)
  (case k7=>k_is)
  (case a8=>k_is)
  (case l8=>k_is)
  (case c8=>k_is)
  (case k8=>k_is)
  (case a9=>k_is)
  (case l9=>k_is)
  (case c9=>k_is)
  (case k9=>k_is)
  (case a10=>k_is)
  (case l10=>k_is)
  (case c10=>k_is)
  (case k10=>k_is)
  (case a11=>k_is)
  (case l11=>k_is)
  (case c11=>k_is)
  (case k11=>k_is)
  (case a12=>k_is)
  (case l12=>k_is)
  (case c12=>k_is)
  (case k12=>k_is)
  (case a13=>k_is)
  (case l13=>k_is)
  (case c13=>k_is)
  (case k13=>k_is)
  (case a14=>k_is)
  (case l14=>k_is)
  (case c14=>k_is)
  (case k14=>k_is)
  (case a15=>k_is)
  (case l15=>k_is)
  (case c15=>k_is)
  (case k15=>k_is)
  (case a16=>k_is)
  (case l16=>k_is)
  (case c16=>k_is)
  (case k16=>k_is)
  (case a17=>k_is)
  (case l17=>k_is)
  (case c17=>k_is)
  (case k17=>k_is)
  (case a18=>k_is)
  (case l18=>k_is)
  (case c18=>k_is)
  (case k18=>k_is)
  (case a19=>k_is)
  (case l19=>k_is)
  (case c19=>k_is)
  (case k19=>k_is)
  (case a20=>k_is)
  (case l20=>k_is)
  (case c20=>k_is)
  (case k20=>k_is)
  (case a21=>k_is)
  (case l21=>k_is)
  (case c21=>k_is)
  (case k21=>k_is)
  (case a22=>k_is)
  (case l22=>k_is)
  (case c22=>k_is)
  (case k22=>k_is)
  (case a23=>k_is)
  (case l23=>k_is)
  (case c23=>k_is)
  (case k23=>k_is)
  (case a24=>k_is)
  (case l24=>k_is)
  (case c24=>k_is)
  (case k24=>k_is)
  (case a25=>k_is)
  (case l25=>k_is)
  (case c25=>k_is)
  (case k25=>k_is)
  (case z0=>k_is)
  (case z1=>k_is)
  (case z2=>k_is)
  (case z3=>k_is)
  (case z4=>k_is)
  (case z5=>k_is)
  (case z6=>k_is)
  (case z7=>k_is)
  (case z8=>k_is)
  (case z9=>k_is)
  (case z10=>k_is)
  (case z11=>k_is)
  (case x_NoOne=>k_exc)
  (case t1_NoOne=>k_is)
  (case t7_NoOne=>k_is)
  (case t8_NoOne=>k_is)
  (case t2_NoOne=>k_is)
  (case t3_NoOne=>k_is)
  (case t6_NoOne=>k_is)
  (case t4=>k_is)
  (case t5=>k_is)
  (case f_m1=>kts_exm)
  (case f_m6=>kts_exm)
  (case f_m2=>kit_is)
  (case f_m3=>kit_is)
  (case f_m4=>kit_is)
  (case f_m5=>kit_is)
