import PyProof.Rows.All
import Wide.All
import OpenK.AllK
import Wide.FinOn
import Lean
import PyProof.EqAt
import PyProof.EqKinds
import PyProof.TupleCall
import KE.KRevIter
import KE.KIntText
import KE.KDictList
import PyProof.Rows.TupDisplay
import PyProof.Rows.SetFrom
import PyProof.Walks
import PySem.Challenge.RW_standup_k23_a_place_put_in
set_option Elab.async false
set_option linter.all false
set_option maxRecDepth 100000
set_option maxHeartbeats 4000000
namespace L2
open PySem PySem.Spec PyProof.Rows
abbrev Key:=Sum Int Str
def mV:Key→Value→Bool
 | .inl k,v=>Value.isInt k v
 | .inr x,v=>Value.isStrOf x v
def JK (w:World):Key→Int
 | .inl k=>hashInt k
 | .inr x=>hashStr w x
theorem bS:∀ {k:Key} {v:Value},mV k v = true→(∃ i t,k = Sum.inl i∧v = Value.int i t)∨(∃ x t,k = Sum.inr x∧v = Value.str x t)
 | .inl i,v,h=>by
  obtain ⟨t,e⟩:=Value.isInt_shape (k:=i) (v:=v) h
  exact .inl ⟨i,t,rfl,e⟩
 | .inr x,v,h=>by
  obtain ⟨t,e⟩:=Value.isStrOf_shape (x:=x) (v:=v) h
  exact .inr ⟨x,t,rfl,e⟩
theorem u9 (i:Int) (t:Tok):mV (.inl i) (.int i t) = true:=by simp [mV,Value.isInt]
theorem u7 (x:Str) (t:Tok):mV (.inr x) (.str x t) = true:=by simp [mV,Value.isStrOf]
theorem Cp (a b:Int):decide ((Sum.inl a:Key) = Sum.inl b) = (a == b):=by
 by_cases e:a = b
 ·subst e; simp
 ·have h:¬ (Sum.inl a:Key) = Sum.inl b:=fun q=>e (Sum.inl.inj q)
  rw [decide_eq_false h]
  exact (beq_eq_false_iff_ne.mpr e).symm
theorem Cm (a b:Str):decide ((Sum.inr a:Key) = Sum.inr b) = decide (a = b):=by
 by_cases e:a = b
 ·subst e; simp
 ·have h:¬ (Sum.inr a:Key) = Sum.inr b:=fun q=>e (Sum.inr.inj q)
  rw [decide_eq_false h,decide_eq_false e]
theorem Co (a:Int) (b:Str):decide ((Sum.inl a:Key) = Sum.inr b) = false:=decide_eq_false (fun q=>nomatch q)
theorem Cn (a:Str) (b:Int):decide ((Sum.inr a:Key) = Sum.inl b) = false:=decide_eq_false (fun q=>nomatch q)
def cL (prog:Program) (w:World):PySem.KeyKind prog w Key where
 is:=mV
 hash:=JK w
 inj:=fun v a b ha hb=>by
  rcases bS ha with ⟨i,t,rfl,rfl⟩ | ⟨x,t,rfl,rfl⟩
  ·rcases bS hb with ⟨j,u,rfl,e⟩ | ⟨y,u,rfl,e⟩
   ·injection e with e1 _; rw [e1]
   ·exact nomatch e
  ·rcases bS hb with ⟨j,u,rfl,e⟩ | ⟨y,u,rfl,e⟩
   ·exact nomatch e
   ·injection e with e1 _; rw [e1]
 byValue:=fun k v h=>by
  rcases bS h with ⟨i,t,rfl,rfl⟩ | ⟨x,t,rfl,rfl⟩ <;> rfl
 pyHash:=fun hv h=>by
  rcases bS hv with ⟨i,t,rfl,rfl⟩ | ⟨x,t,rfl,rfl⟩
  ·exact wpAny_pyHash_int h
  ·exact wpAny_pyHash_str h
 eqBool:=fun hu hv h=>by
  rcases bS hu with ⟨i,t,rfl,rfl⟩ | ⟨x,t,rfl,rfl⟩
  ·rcases bS hv with ⟨j,u,rfl,rfl⟩ | ⟨y,u,rfl,rfl⟩
   ·rw [Cp] at h; exact wpAny_eqBool_int h
   ·rw [Co] at h; exact SeqAt.EqAt.int_str i t y u _ _ _ _ h
  ·rcases bS hv with ⟨j,u,rfl,rfl⟩ | ⟨y,u,rfl,rfl⟩
   ·rw [Cn] at h; exact SeqAt.EqAt.str_int x t j u _ _ _ _ h
   ·rw [Cm] at h; exact wpAny_eqBool_str h
 «strs»:=fun k x t v h=>by
  rcases bS h with ⟨i,u,rfl,e⟩ | ⟨y,u,rfl,e⟩
  ·exact nomatch e
  ·injection e with e1 _
   subst e1
   cases v <;> rfl
theorem p7 (prog:Program) (w:World) (i:Int) (t:Tok):(cL prog w).is (.inl i) (.int i t) = true:=u9 i t
theorem p6 (prog:Program) (w:World) (x:Str) (t:Tok):(cL prog w).is (.inr x) (.str x t) = true:=u7 x t
end L2
namespace L2
open PySem PySem.Spec PyProof.Rows
inductive V where
 | cX | bl (b:Bool) | int (i:Int) | str (x:Str) | uz (b:Array UInt8) | yN (b:UInt64) | ref (a:Addr) | ty (n:String)
 deriving DecidableEq
def RelV:V→Value→Prop
 | .cX,u=>u = Value.none
 | .bl b,u=>u = Value.bool b
 | .int i,u=>∃ t,u = Value.int i t
 | .str x,u=>∃ t,u = Value.str x t
 | .uz b,u=>∃ t,u = Value.bytes b t
 | .yN b,u=>∃ t,u = Value.float b t
 | .ref a,u=>u = Value.ref a
 | .ty n,u=>u = Value.type n
abbrev Vals:List V→List Value→Prop:=Paired RelV
theorem Vals.length {xs:List V} {us:List Value} (r:Vals xs us):xs.length = us.length:=Paired.length r
theorem Vals.get:∀ {xs:List V} {us:List Value} {i:Nat} {x:V},Vals xs us→xs[i]? = some x→∃ u,us[i]? = some u∧RelV x u
 | _,_,_,_,.nil,e=>by simp at e
 | _,_,0,_,.cons r _,e=>by simp at e; subst e; exact ⟨_,rfl,r⟩
 | _,_,i + 1,x,.cons _ t,e=>by
  obtain ⟨u,h1,h2⟩:=Vals.get (i:=i) (x:=x) t (by simpa using e)
  exact ⟨u,by simpa using h1,h2⟩
theorem Vals.set {x:V} {u:Value} (r:RelV x u):∀ {xs:List V} {us:List Value} (i:Nat),Vals xs us→Vals (xs.set i x) (us.set i u)
 | _,_,_,.nil=>.nil
 | _,_,0,.cons _ t=>.cons r t
 | _,_,i + 1,.cons q t=>.cons q (Vals.set r i t)
theorem Vals.append:∀ {xs ys:List V} {us ws:List Value},Vals xs us→Vals ys ws→Vals (xs ++ ys) (us ++ ws)
 | _,_,_,_,.nil,s=>s
 | _,_,_,_,.cons r t,s=>.cons r (Vals.append t s)
theorem Vals.take:∀ {xs:List V} {us:List Value} (n:Nat),Vals xs us→Vals (xs.take n) (us.take n)
 | _,_,0,_=>.nil
 | _,_,_ + 1,.nil=>.nil
 | _,_,n + 1,.cons r t=>.cons r (Vals.take n t)
theorem Vals.drop:∀ {xs:List V} {us:List Value} (n:Nat),Vals xs us→Vals (xs.drop n) (us.drop n)
 | _,_,0,r=>r
 | _,_,_ + 1,.nil=>.nil
 | _,_,n + 1,.cons _ t=>Vals.drop n t
def sP:Option V→Option Value→Prop
 | some v,some u=>RelV v u
 | none,none=>True
 | _,_=>False
def KV {κ : Type}:List (κ×V)→List (κ×Value)→Prop:=Paired fun (p : κ×V) (q : κ×Value)=>p.1 = q.1∧RelV p.2 q.2
def kV:Key→V
 | .inl i=>.int i
 | .inr x=>.str x
inductive HO where
 /-- a list -/
 | lst (xs:List V)
 /-- a tuple (never changes) -/
 | tup (xs:List V)
 /-- a dict DB keys are ints and texts; one DB keys are tuples of ints and texts (vX empty one is both) -/
 | dK (aI:List (Key×V)) | dT (aI:List (List Key×V))
 /-- a set of ints: aO members,aO size -/
 | set (S:Int→Bool) (n:Nat)
 /-- an instance of vX class at C,aO dict at dx,aO attributes -/
 | ins (C dx:Addr) (fs:List (Str×V))
 /-- vX dict of vX instance at x -/
 | own (x:Addr)
 /-- vX dict of an exception -/
 | xd (fs:List (Str×V))
 /-- a bound method,f of x -/
 | met (f x:Addr)
 /-- a range object lo,lo + 1,.. below hi -/
 | Gf (lo hi:Int)
 /-- a DF O1 is known to vX object (vX wt; a dict while a loop walks it): read,never written while it is so -/
 | kR (o:Obj) (u:HO)
 /-- a code object's table -/
 | AM (ps:Array Value)
 /-- any other DF,by Hi is true of aO one object (a def of one's own: TN a S n:=HO.ext fun h=>..) -/
 | ext (φ : Heap→Prop)
abbrev Hp:=Addr→Option HO
def upd (H:Hp) (a:Addr) (o:HO):Hp:=fun b=>if b = a then some o else H b
theorem ae {H:Hp} {a:Addr} {o:HO}:upd H a o a = some o:=by unfold upd; rw [if_pos rfl]
theorem aq {H:Hp} {a b:Addr} {o:HO} (h:b≠a):upd H a o b = H b:=by unfold upd; rw [if_neg h]
theorem Ez {H:Hp} {a b:Addr} {o u:HO} (h:H a = some o) (h':H b = some u) (d:o≠u):a≠b:=by
 intro e; subst e; rw [h] at h'; exact d (Option.some.inj h')
theorem aw {H:Hp} {a b:Addr} {o:HO} (h:H a = some o) (h':H b = none):a≠b:=by
 intro e; subst e; rw [h] at h'; cases h'
section
variable (P:Program) (w:World)
def bg (H:Hp) (h:Heap) (a:Addr):HO→Prop
 | .lst xs=>xs.length≤sizeLine∧∃ (aO:List Value) (n:Nat),Vals xs aO∧h.get? a = some { cls:=.type "list",data:=.seq aO.toArray n }
 | .tup xs=>xs.length≤sizeLine∧∃ aO:List Value,Vals xs aO∧IsTup h a aO.toArray
 | .dK aI=>aI.length≤sizeLine∧(a == sysModules) = false∧∃ vs,KV aI vs∧h.DictOf (cL P w) a vs
 | .dT aI=>aI.length≤sizeLine∧(a == sysModules) = false∧∃ xs:List (List Key×Addr×Value),
   Paired (fun (p:List Key×V) (q:List Key×Addr×Value)=>p.1 = q.1∧H q.2.1 = some (.tup (p.1.map kV))∧RelV p.2 q.2.2) aI xs∧
   ∃ o es ep,h.get? a = some o∧o.ExactDict∧o.data = .dict es ep∧es.toList = xs.map (entryOfKey (tupleKind (cL P w)))∧(xs.map (·.1)).Nodup
 | .set S n=>h.SetOf (intKind P w) a S n
 | .ins C dx fs=>H dx = some (.own a)∧fs.length≤1000∧dx≠a∧h.get? a = some (PySem.W.instObj C dx)∧
   ∃ mA,h.Ns1 dx mA∧(∀ f,sP (fs.lookup f) (mA f))∧PySem.Within mA (fs.map (·.1))
 | .own _=>∃ o,h.get? a = some o
 | .xd fs=>∃ mA,h.Ns1 a mA∧∀ f,sP (fs.lookup f) (mA f)
 | .Gf lo hi=>∃ t u v,h.get? a = some { cls:=.type "range",data:=.fields #[.int lo t,.int hi u,.int 1 v] }
 | .kR o u=>h.get? a = some o∧bg H h a u
 | .AM ps=>h.get? a = some { cls:=.none,data:=.fields ps }
 | .met f x=>h.get? a = some (PySem.W.methodObj (.ref f) (.ref x))
 | .ext φ=>φ h∧(∃ o,h.get? a = some o)∧∀ h1 h2:Heap,φ h1→(∀ o,h1.get? a = some o→h2.get? a = some o)→φ h2
def gy (H:Hp) (h:Heap):Prop:=∀ a o,H a = some o→bg P w H h a o
end
section
variable {P:Program} {w:World} {H H':Hp} {h h':Heap} {a:Addr} {o:HO}
theorem bg.lt (x:bg P w H h a o):a < h.objs.size:=by
 cases o with
 | lst xs=>obtain ⟨_,_,_,_,e⟩:=x; exact Heap.lt_size e
 | tup xs=>obtain ⟨_,_,_,p⟩:=x; exact p.lt
 | dK aI=>obtain ⟨_,_,_,_,o,_,_,e,_⟩:=x; exact Heap.lt_size e
 | dT aI=>obtain ⟨_,_,_,_,o,_,_,e,_⟩:=x; exact Heap.lt_size e
 | set S n=>obtain ⟨o,_,_,_,e,_⟩:=x; exact Heap.lt_size e
 | ins C dx fs=>obtain ⟨_,_,_,e,_⟩:=x; exact Heap.lt_size e
 | own y=>obtain ⟨_,e⟩:=x; exact Heap.lt_size e
 | xd fs=>obtain ⟨_,⟨_,_,_,e,_⟩,_⟩:=x; exact Heap.lt_size e
 | Gf lo hi=>obtain ⟨_,_,_,e⟩:=x; exact Heap.lt_size e
 | kR ob u=>obtain ⟨e,_⟩:=x; exact Heap.lt_size e
 | AM ps=>exact Heap.lt_size (show h.get? a = some _ from x)
 | met f y=>exact Heap.lt_size (show h.get? a = some _ from x)
 | ext φ=>obtain ⟨_,⟨_,e⟩,_⟩:=x; exact Heap.lt_size e
theorem Paired.zF {α β : Type} {F G : α→β→Prop}:∀ {l₁ : List α} {l₂ : List β},Paired F l₁ l₂→(∀ a b,F a b→G a b)→Paired G l₁ l₂
 | _,_,.nil,_=>.nil
 | _,_,.cons r t,f=>.cons (f _ _ r) (Paired.zF t f)
theorem bg.ff (x:bg P w H h a o) (k:∀ b u,(b = a∨H b = some (.own a))→h.get? b = some u→h'.get? b = some u)
  (ho:∀ b,H b = some (.own a)→H' b = some (.own a)) (ht:∀ b xs,H b = some (.tup xs)→H' b = some (.tup xs)):bg P w H' h' a o:=by
 induction o with
 | lst xs=>obtain ⟨z,aO,n,r,e⟩:=x; exact ⟨z,aO,n,r,k _ _ (.inl rfl) e⟩
 | tup xs=>obtain ⟨z,aO,r,ob,e,c⟩:=x; exact ⟨z,aO,r,ob,k _ _ (.inl rfl) e,c⟩
 | dK aI=>obtain ⟨z,y,vs,r,ob,es,ep,e,c⟩:=x; exact ⟨z,y,vs,r,ob,es,ep,k _ _ (.inl rfl) e,c⟩
 | dT aI=>
  obtain ⟨z,y,xs,r,ob,es,ep,e,c⟩:=x
  exact ⟨z,y,xs,Paired.zF r fun p q z=>⟨z.1,ht _ _ z.2.1,z.2.2⟩,ob,es,ep,k _ _ (.inl rfl) e,c⟩
 | set S n=>obtain ⟨ob,es,ep,t,e,c⟩:=x; exact ⟨ob,es,ep,t,k _ _ (.inl rfl) e,c⟩
 | ins C dx fs=>
  obtain ⟨d,z,ne,e,mA,⟨od,es,ep,e2,c⟩,r⟩:=x
  exact ⟨ho _ d,z,ne,k _ _ (.inl rfl) e,mA,⟨od,es,ep,k _ _ (.inr d) e2,c⟩,r⟩
 | own y=>obtain ⟨ob,e⟩:=x; exact ⟨ob,k _ _ (.inl rfl) e⟩
 | xd fs=>obtain ⟨mA,⟨od,es,ep,e,c⟩,r⟩:=x; exact ⟨mA,⟨od,es,ep,k _ _ (.inl rfl) e,c⟩,r⟩
 | Gf lo hi=>obtain ⟨t,u,v,e⟩:=x; exact ⟨t,u,v,k _ _ (.inl rfl) e⟩
 | kR ob u ih=>obtain ⟨e,q⟩:=x; exact ⟨k _ _ (.inl rfl) e,ih q⟩
 | AM ps=>
  have e:h.get? a = some { cls:=.none,data:=.fields ps }:=x
  show h'.get? a = some { cls:=.none,data:=.fields ps }
  exact k a _ (.inl rfl) e
 | met f y=>
  have e:h.get? a = some (PySem.W.methodObj (.ref f) (.ref y)):=x
  show h'.get? a = some (PySem.W.methodObj (.ref f) (.ref y))
  exact k a _ (.inl rfl) e
 | ext φ=>obtain ⟨p,⟨o,e⟩,st⟩:=x; exact ⟨st _ _ p fun o q=>k _ _ (.inl rfl) q,⟨o,k _ _ (.inl rfl) e⟩,st⟩
theorem gy.lt (x:gy P w H h) (e:H a = some o):a < h.objs.size:=(x a o e).lt
theorem gy.fresh (x:gy P w H h) (e:h.objs.size≤a):H a = none:=by
 cases q:H a with
 | none=>rfl
 | some u=>exact absurd (Nat.lt_of_lt_of_le (x.lt q) e) (Nat.lt_irrefl _)
theorem gy.kept (x:gy P w H h) (k:∀ b u,h.get? b = some u→h'.get? b = some u):gy P w H h':=fun a o e=>
 (x a o e).ff (fun b u _ q=>k b u q) (fun _ q=>q) fun _ _ q=>q
theorem gy.laid (x:gy P w H h) (k:∀ b u,h.get? b = some u→h'.get? b = some u) (hp:h.objs.size≤a) (new:bg P w (upd H a o) h' a o):gy P w (upd H a o) h':=fun b u e=>by
 have hn:=x.fresh hp
 by_cases hb:b = a
 ·subst hb; rw [ae] at e; cases e; exact new
 ·rw [aq hb] at e
  exact (x b u e).ff (fun c v _ q=>k c v q) (fun c q=>by rw [aq (aw q hn)]; exact q) fun c xs q=>by rw [aq (aw q hn)]; exact q
end
def Rd (H:Hp) (a:Addr) (u:HO):Prop:=H a = some u∨∃ o,H a = some (.kR o u)
theorem Rd.ok {P:Program} {w:World} {H:Hp} {h:Heap} {a:Addr} {u:HO} (r:Rd H a u) (x:gy P w H h):bg P w H h a u:=by
 rcases r with r | ⟨o,r⟩
 ·exact x a u r
 ·obtain ⟨_,q⟩:=x a _ r
  exact q
def F0:Option HO→Prop
 | some (.lst _)=>True
 | some (.dK _)=>True
 | some (.dT _)=>True
 | some (.set _ _)=>True
 | some (.ins _ _ _)=>True
 | some (.ext _)=>True
 | _=>False
section
variable {P:Program} {w:World} {H:Hp} {h h':Heap} {x e:Addr} {o':HO}
theorem gy.write (ok:gy P w H h) (mu:F0 (H x)) (he:e = x∨H e = some (.own x)) (k:∀ b u,b≠e→h.get? b = some u→h'.get? b = some u) (Du:∃ u,h'.get? e = some u)
  (new:bg P w (upd H x o') h' x o'):gy P w (upd H x o') h':=fun b u q=>by
 have Er:∀ c y,H c = some (.own y)→c≠x:=fun c y r z=>by subst z; rw [r] at mu; exact mu
 have Jv:∀ c xs,H c = some (.tup xs)→c≠x:=fun c xs r z=>by subst z; rw [r] at mu; exact mu
 by_cases hb:b = x
 ·subst hb; rw [ae] at q; cases q; exact new
 ·rw [aq hb] at q
  by_cases CU:b = e
  ·have q':H b = some (.own x):=by
    rcases he with z | z
    ·exact absurd (CU.trans z) hb
    ·rw [CU]; exact z
   rw [q] at q'; cases q'
   obtain ⟨v,hv⟩:=Du
   exact ⟨v,by rw [CU]; exact hv⟩
  ·refine (ok b u q).ff (fun c v hc r=>k c v ?_ r) (fun c r=>by rw [aq (Er c b r)]; exact r) fun c xs r=>by rw [aq (Jv c xs r)]; exact r
   rcases hc with rfl | hc
   ·exact CU
   ·rintro rfl
    rcases he with z | z
    ·exact Er c b hc z
    ·rw [hc] at z; cases z; exact hb rfl
end
structure Un (fs ex:List Addr) (H H':Hp) (h h':Heap):Prop where
 keep:∀ b o,h.get? b = some o→H b = none→b∉fs→b∉ex→h'.get? b = some o
 slot:∀ b o,h.get? b = some o→H b = none→b∈fs→b∉ex→∃ sl,h'.get? b = some { o with slots:=sl }
 free:∀ b o,h.get? b = some o→H b = none→b∉ex→H' b = none
 there:∀ b o,h.get? b = some o→b∉ex→∃ o',h'.get? b = some o'
 jR:∀ b xs,H b = some (.tup xs)→H' b = some (.tup xs)
 jA:∀ b o u,H b = some (.kR o u)→H' b = some (.kR o u)
 jS:∀ b ps,H b = some (.AM ps)→∃ more,H' b = some (.AM (ps ++ more))
section
variable {fs Fc ex Va:List Addr} {H H1 H2:Hp} {h h1 h2 h':Heap} {a x e:Addr} {o:HO}
theorem Un.any (u:Un fs ex H H1 h h1) {b:Addr} {ob:Obj} (q:h.get? b = some ob) (n:H b = none) (hx:b∉ex):∃ sl,h1.get? b = some { ob with slots:=sl }:=by
 by_cases hb:b∈fs
 ·exact u.slot b ob q n hb hx
 ·exact ⟨ob.slots,u.keep b ob q n hb hx⟩
theorem Un.kept (k:∀ b u,h.get? b = some u→h'.get? b = some u):Un fs ex H H h h':=
 ⟨fun b ob q _ _ _=>k b ob q,fun b ob q _ _ _=>⟨ob.slots,k b ob q⟩,fun _ _ _ n _=>n,fun b ob q _=>⟨ob,k b ob q⟩,fun _ _ q=>q,fun _ _ _ q=>q,fun _ ps q=>⟨#[],by rw [q]; simp⟩⟩
theorem Un.refl:Un fs ex H H h h:=Un.kept fun _ _ q=>q
theorem Un.laid (k:∀ b u,h.get? b = some u→h'.get? b = some u) (hp:h.objs.size≤a) (hn:H a = none):Un fs ex H (upd H a o) h h' where
 keep:=fun b u q _ _ _=>k b u q
 slot:=fun b u q _ _ _=>⟨u.slots,k b u q⟩
 free:=fun b u q n _=>by rw [aq (Nat.ne_of_lt (Nat.lt_of_lt_of_le (Heap.lt_size q) hp))]; exact n
 there:=fun b u q _=>⟨u,k b u q⟩
 jR:=fun b xs q=>by rw [aq (aw q hn)]; exact q
 jA:=fun b u xs q=>by rw [aq (aw q hn)]; exact q
 jS:=fun b ps q=>⟨#[],by rw [aq (aw q hn),q]; simp⟩
theorem Un.write (mu:F0 (H x)) (he:e = x∨H e = some (.own x)) (k:∀ b u,b≠e→h.get? b = some u→h'.get? b = some u) (Du:∃ u,h'.get? e = some u):Un fs ex H (upd H x o) h h':=by
 have hx:∀ b,H b = none→b≠x:=fun b n z=>by subst z; rw [n] at mu; exact mu
 have hb:∀ b,H b = none→b≠e:=fun b n z=>by
  subst z
  rcases he with r | r
  ·exact hx b n r
  ·rw [n] at r; cases r
 have hm:∀ b u,H b = some u→¬ F0 (some u)→b≠x:=fun b u q nm z=>by subst z; rw [q] at mu; exact nm mu
 refine ⟨fun b u q n _ _=>k b u (hb b n) q,fun b u q n _ _=>⟨u.slots,k b u (hb b n) q⟩,fun b u q n _=>by rw [aq (hx b n)]; exact n,fun b u q _=>?_,
  fun b xs q=>by rw [aq (hm b _ q fun z=>z)]; exact q,fun b u xs q=>by rw [aq (hm b _ q fun z=>z)]; exact q,fun b ps q=>⟨#[],by rw [aq (hm b _ q fun z=>z),q]; simp⟩⟩
 by_cases CU:b = e
 ·subst CU; exact Du
 ·exact ⟨u,k b u CU q⟩
end
def F7 (h:Heap) (H:Hp):List Addr:=(List.range h.objs.size).filter fun a=>(H a).isSome
def oE (h:Heap) (H:Hp):Heap:=PySem.W.hideAll h (F7 h H)
theorem vf (h:Heap) (H:Hp):(oE h H).objs.size = h.objs.size:=PySem.W.hideAll_size _ _
theorem xX {h:Heap} {H:Hp} {b:Addr} {o:Obj} (e:h.get? b = some o) (n:H b = none):(oE h H).get? b = some o:=
 PySem.W.hideAll_get _ e fun hm=>by
  have q:(H b).isSome = true:=(List.mem_filter.mp hm).2
  rw [n] at q; simp at q
theorem zA {h:Heap} {H:Hp} {b:Addr} {o:Obj} (e:(oE h H).get? b = some o):h.get? b = some o∧H b = none:=by
 have e':h.get? b = some o:=PySem.W.of_hideAll (F7 h H) e
 refine ⟨e',?_⟩
 cases q:H b with
 | none=>rfl
 | some x=>
  have hm:b∈F7 h H:=List.mem_filter.mpr ⟨List.mem_range.mpr (Heap.lt_size e'),by simp [q]⟩
  have z:(oE h H).get? b = none:=PySem.W.hideAll_none (F7 h H) hm
  rw [z] at e; cases e
def Ay (g h:Heap) (L:Addr):List (Addr×Obj):=(List.range h.objs.size).filterMap fun a=>if a = L∨(g.get? a).isSome = true then none else (h.get? a).map fun o=>(a,o)
def rest (g h:Heap) (L d:Addr):List (Addr×Obj):=(Ay g h L).filter fun p=>decide (p.1≠d)
end L2
namespace L2
open PySem PySem.Spec PyProof.Rows
structure Mod (K:PySem.W.Frag) (mg:Str→Option Value) (base:Heap):Prop where
 EE:K.In base
 glob:base.Ns mainGlobals mg
 blt:∃ mb,base.Ns builtinsNs mb∧∀ x:Str,x≠ "__name__"→mb x = bootBuiltins x
 nolimit:base.NoLimit
structure Cx where
 prog:Program
 w:World
 K:PySem.W.Frag
 mg:Str→Option Value
 base:Heap
 A:Around
 N:List Str
 s₀ : Shared
 H₀ : Hp
 env:Env
 outer:List Env
 stack:List Env
 ex:List Addr
 fn:Str→Bool
 calm:Bool
 pn:List (Addr×Obj)
 xe:Value→Shared→Prop
def gF (l:List Env):List Addr:=l.filterMap (·.frame)
abbrev Cx.fs (X:Cx):List Addr:=gF X.outer
def He (sc:Scope) (x:Str):Prop:=sc.names.lookup x = some .local∨sc.names.lookup x = some .cell∨sc.names.lookup x = some .free
def Loc (sc:Scope) (x:Str):Prop:=sc.names.lookup x = some .local∨sc.names.lookup x = some .cell
def Look (env:Env) (h:Heap) (m:Str→Option Value) (x:Str) (u:Value):Prop:=
 (env.kindOf x = some .local∧m x = some u)∨((env.kindOf x = some .cell∨env.kindOf x = some .free)∧∃ c,env.cells.lookup x = some c∧h.IsCell c (some u))
structure Cx.Ok (X:Cx):Prop where
 mod:Mod X.K X.mg X.base
 kind:X.env.scope.kind = .function
 glob:X.env.globals = mainGlobals
 blt:X.env.builtins = builtinsNs
 above:X.s₀.heap.objs.size≤X.env.locals
 inj:∀ x y c,X.env.cells.lookup x = some c→X.env.cells.lookup y = some c→x = y
 has:∀ x,(X.env.kindOf x = some .cell∨X.env.kindOf x = some .free)→∃ c,X.env.cells.lookup x = some c
 Dy:∀ x c,X.fn x = true→X.env.cells.lookup x = some c→X.s₀.heap.objs.size≤c
 hd:X.calm = true→X.A.handled = none
 frames:X.A.frames = some X.stack
 vH:X.stack = X.outer∨(X.stack = X.env :: X.outer∧X.env.frame = some X.env.locals)
 K9:∀ b∈X.ex,b≠X.env.locals∧∀ x c,X.env.cells.lookup x = some c→c≠b
 bs:∀ b o,X.base.get? b = some o→X.s₀.heap.get? b = some o∧X.H₀ b = none
 Bp:X.base.objs.size≤X.s₀.heap.objs.size
 u3:∀ b o,X.base.get? b = some o→b∉X.ex
 ya:∀ b∈X.ex,b∉X.fs
 iX:X.s₀.heap.FunFrames X.base X.outer
 CW:∀ b∈X.fs,X.H₀ b = none
structure Inv (X:Cx) (pins:List (Addr×Obj)) (σ : List (Option V)) (H:Hp) (s:Shared):Prop where
 ok:X.Ok
 os:s.os = X.s₀.os
 bare:AllBare s.gens
 base:Un X.fs X.ex X.H₀ H X.s₀.heap s.heap
 loc:∃ m,s.heap.Ns X.env.locals m∧∀ (i:Nat) (x:Str) (v:V),X.N[i]? = some x→σ[i]? = some (some v)→He X.env.scope x→∃ u,RelV v u∧Look X.env s.heap m x u
 cell:∀ x c,X.env.cells.lookup x = some c→∃ v,s.heap.IsCell c v
 free:H X.env.locals = none
 d4:∀ x c,X.env.cells.lookup x = some c→H c = none
 pin:∀ p∈X.pn ++ pins,s.heap.get? p.1 = some p.2∧H p.1 = none∧p.1≠X.env.locals∧p.1∉X.fs∧∀ v,p.2.data≠.cell v
 bA:gy X.prog X.w H s.heap
 len : σ.length = X.N.length
section
variable {X:Cx} {pins:List (Addr×Obj)} {σ : List (Option V)} {H H':Hp} {s:Shared} {h':Heap}
theorem Cx.Ok.Jx (ok:X.Ok) {b:Addr} {o:Obj} (e:X.base.get? b = some o):b∉X.fs:=fun hb=>by
 have:=(ok.iX.mem hb).1
 rw [e] at this; cases this
theorem Inv.bs (I:Inv X pins σ H s):∀ b o,X.base.get? b = some o→s.heap.get? b = some o∧H b = none:=fun b o e=>
 ⟨I.base.keep b o (I.ok.bs b o e).1 (I.ok.bs b o e).2 (I.ok.Jx e) (I.ok.u3 b o e),I.base.free b o (I.ok.bs b o e).1 (I.ok.bs b o e).2 (I.ok.u3 b o e)⟩
theorem Inv.bk (I:Inv X pins σ H s):∀ b o,X.base.get? b = some o→s.heap.get? b = some o:=fun b o e=>(I.bs b o e).1
theorem Inv.mod (I:Inv X pins σ H s):Mod X.K X.mg X.base:=I.ok.mod
theorem Inv.lH (I:Inv X pins σ H s):X.K.In s.heap:=I.ok.mod.EE.keeps I.bk
theorem Inv.lt (I:Inv X pins σ H s):X.env.locals < s.heap.objs.size:=let ⟨_,hn,_⟩:=I.loc; hn.lt
theorem Inv.sz (I:Inv X pins σ H s):X.s₀.heap.objs.size≤s.heap.objs.size:=Nat.le_trans I.ok.above (Nat.le_of_lt I.lt)
theorem Inv.Jw (I:Inv X pins σ H s) {a:Addr} (h:s.heap.objs.size≤a):a∉X.fs:=fun hb=>by
 obtain ⟨_,o,ho,_⟩:=I.ok.iX.mem hb
 exact absurd (Nat.lt_of_lt_of_le (Heap.lt_size ho) (Nat.le_trans I.sz h)) (Nat.lt_irrefl _)
theorem Inv.Ap (I:Inv X pins σ H s):∀ x c,X.env.cells.lookup x = some c→c≠X.env.locals:=fun x c e z=>by
 obtain ⟨v,o,ho,hd⟩:=I.cell x c e
 obtain ⟨m,⟨o',es,ep,ve,Dv,_⟩,_⟩:=I.loc
 rw [z,ve] at ho; cases ho; rw [Dv] at hd; cases hd
theorem Inv.iX (I:Inv X pins σ H s):s.heap.FunFrames X.base X.outer:=by
 have all:∀ (l:List Env),(∀ b∈gF l,b∈X.fs)→X.s₀.heap.FunFrames X.base l→s.heap.FunFrames X.base l:=by
  intro l
  induction l with
  | nil=>intro _ _; trivial
  | cons env r ih=>
   intro hs hl
   obtain ⟨hk,⟨L,o,hf,hn,ho,hd⟩,hr⟩:=hl
   have hL:L∈X.fs:=hs L (by unfold gF; rw [List.filterMap_cons,hf]; exact List.mem_cons_self)
   obtain ⟨sl,e⟩:=I.base.slot L o ho (I.ok.CW L hL) hL fun z=>I.ok.ya L z hL
   exact ⟨hk,⟨L,_,hf,hn,e,hd⟩,ih (fun b hb=>hs b (by unfold gF; rw [List.filterMap_cons,hf]; exact List.mem_cons_of_mem _ hb)) hr⟩
 exact all X.outer (fun _ hb=>hb) I.ok.iX
theorem Inv.stack (I:Inv X pins σ H s):s.heap.FunFrames X.base X.stack:=by
 rcases I.ok.vH with e | ⟨e,hf⟩
 ·rw [e]; exact I.iX
 ·rw [e]
  obtain ⟨m,hn,_⟩:=I.loc
  refine .cons (by rw [I.ok.kind]; decide) hf hn ?_ I.iX
  exact Heap.get?_none_of_le (Nat.le_trans I.ok.Bp I.ok.above)
theorem Inv.gH (I:Inv X pins σ H s):∀ b∈gF X.stack,b∈X.env.locals :: X.fs:=fun b hb=>by
 rcases I.ok.vH with e | ⟨e,hf⟩
 ·rw [e] at hb; exact List.mem_cons_of_mem _ hb
 ·rw [e] at hb
  unfold gF at hb
  rw [List.filterMap_cons,hf] at hb
  exact hb
theorem Inv.nI (I:Inv X pins σ H s):∀ b∈gF X.stack,H b = none:=fun b hb=>by
 rcases List.mem_cons.mp (I.gH b hb) with e | hb
 ·rw [e]; exact I.free
 ·obtain ⟨_,o,ho,_⟩:=I.ok.iX.mem hb
  exact I.base.free b o ho (I.ok.CW b hb) fun z=>I.ok.ya b z hb
theorem Inv.step {g':Array GenState} {t':Nat} {d':Drawn} {ch:List Addr} (I:Inv X pins σ H s)
  (yM:∀ b∈ch,(b∈X.ex∨X.s₀.heap.objs.size≤b)∧b≠X.env.locals∧(∀ x c,X.env.cells.lookup x = some c→c≠b)∧∀ p∈X.pn ++ pins,p.1≠b)
  (keep:∀ b o,b≠X.env.locals→b∉X.fs→b∉ch→s.heap.get? b = some o→H b = none→h'.get? b = some o)
  (slot:∀ b o,b≠X.env.locals→b∈X.fs→b∉ch→s.heap.get? b = some o→H b = none→∃ sl,h'.get? b = some { o with slots:=sl }) (free:∀ b o,b∉ch→s.heap.get? b = some o→H b = none→H' b = none)
  (there:∀ b o,b∉ch→s.heap.get? b = some o→∃ o',h'.get? b = some o')
  (jR:∀ b xs,H b = some (.tup xs)→H' b = some (.tup xs)) (jA:∀ b o u,H b = some (.kR o u)→H' b = some (.kR o u)) (jS:∀ b ps,H b = some (.AM ps)→∃ more,H' b = some (.AM (ps ++ more)))
  (ns:∀ m,s.heap.Ns X.env.locals m→h'.Ns X.env.locals m) (bA:gy X.prog X.w H' h') (hg:AllBare g') :
  Inv X pins σ H' { s with heap:=h',gens:=g',drawn:=d',toks:=t' }:=by
 have Nj:∀ b o,X.s₀.heap.get? b = some o→b≠X.env.locals:=fun b o e=>Nat.ne_of_lt (Nat.lt_of_lt_of_le (Heap.lt_size e) I.ok.above)
 have Gv:∀ b o,X.s₀.heap.get? b = some o→b∉X.ex→b∉ch:=fun b o e hx hb=>by
  rcases (yM b hb).1 with z | z
  ·exact hx z
  ·exact absurd (Nat.lt_of_lt_of_le (Heap.lt_size e) z) (Nat.lt_irrefl _)
 have cellK:∀ x c,X.env.cells.lookup x = some c→∀ v,s.heap.IsCell c v→h'.IsCell c v:=fun x c e v ⟨o,ho,hd⟩=>by
  have ua:c∉ch:=fun z=>(yM c z).2.2.1 x c e rfl
  by_cases hc:c∈X.fs
  ·obtain ⟨sl,q⟩:=slot c o (I.Ap x c e) hc ua ho (I.d4 x c e)
   exact ⟨_,q,hd⟩
  ·exact ⟨o,keep c o (I.Ap x c e) hc ua ho (I.d4 x c e),hd⟩
 refine ⟨I.ok,I.os,hg,⟨fun b o e n hb hx=>?_,fun b o e n hb hx=>?_,fun b o e n hx=>?_,fun b o e hx=>?_,fun b xs e=>jR b xs (I.base.jR b xs e),fun b o xs e=>jA b o xs (I.base.jA b o xs e),fun b ps e=>?_⟩,?_,fun x c e=>?_,?_,fun x c e=>?_,fun p hp=>?_,bA,I.len⟩
 ·exact keep b o (Nj b o e) hb (Gv b o e hx) (I.base.keep b o e n hb hx) (I.base.free b o e n hx)
 ·obtain ⟨sl,e1⟩:=I.base.slot b o e n hb hx
  obtain ⟨HY,e2⟩:=slot b _ (Nj b o e) hb (Gv b o e hx) e1 (I.base.free b o e n hx)
  exact ⟨HY,e2⟩
 ·obtain ⟨o',e1⟩:=I.base.there b o e hx
  exact free b o' (Gv b o e hx) e1 (I.base.free b o e n hx)
 ·obtain ⟨o',e1⟩:=I.base.there b o e hx
  exact there b o' (Gv b o e hx) e1
 ·obtain ⟨m1,e1⟩:=I.base.jS b ps e
  obtain ⟨m2,e2⟩:=jS b _ e1
  exact ⟨m1 ++ m2,by rw [e2,Array.append_assoc]⟩
 ·obtain ⟨m,hn,hl⟩:=I.loc
  refine ⟨m,ns m hn,fun i x v e1 e2 e3=>?_⟩
  obtain ⟨u,r,l⟩:=hl i x v e1 e2 e3
  refine ⟨u,r,?_⟩
  rcases l with l | ⟨k,c,e,z⟩
  ·exact .inl l
  ·exact .inr ⟨k,c,e,cellK x c e _ z⟩
 ·obtain ⟨v,z⟩:=I.cell x c e
  exact ⟨v,cellK x c e v z⟩
 ·obtain ⟨m,⟨o,_,_,ho,_⟩,_⟩:=I.loc
  exact free _ o (fun z=>(yM _ z).2.1 rfl) ho I.free
 ·obtain ⟨v,o,ho,hd⟩:=I.cell x c e
  exact free c o (fun z=>(yM c z).2.2.1 x c e rfl) ho (I.d4 x c e)
 ·obtain ⟨e,n,ne,nf,d⟩:=I.pin p hp
  have ua:p.1∉ch:=fun z=>(yM p.1 z).2.2.2 p hp rfl
  exact ⟨keep p.1 p.2 ne nf ua e n,free p.1 p.2 ua e n,ne,nf,d⟩
theorem Inv.un {t':Nat} (I:Inv X pins σ H s) (u:Un X.fs [] H H' s.heap h') (bA:gy X.prog X.w H' h'):Inv X pins σ H' { s with heap:=h',toks:=t' }:=by
 obtain ⟨m,⟨o,es,ep,ho,r⟩,_⟩:=id I.loc
 obtain ⟨sl,hL⟩:=u.any ho I.free (by simp)
 exact I.step (g':=s.gens) (d':=s.drawn) (ch:=[]) (fun _ z=>nomatch z) (fun b o _ hb _ e n=>u.keep b o e n hb (by simp)) (fun b o _ hb _ e n=>u.slot b o e n hb (by simp)) (fun b o _ e n=>u.free b o e n (by simp)) (fun b o _ e=>u.there b o e (by simp)) u.jR u.jA u.jS (fun m' hm=>by
  obtain ⟨o',vo,La,ve,r'⟩:=hm
  rw [ho] at ve; cases ve
  exact ⟨_,vo,La,hL,r'⟩) bA I.bare
theorem Inv.call {g':Array GenState} {t':Nat} {d':Drawn} {ch:List Addr} (I:Inv X pins σ H s) (u:Un (gF X.stack) ch H H' s.heap h') (bA:gy X.prog X.w H' h') (hg:AllBare g')
  (yM:∀ b∈ch,(b∈X.ex∨X.s₀.heap.objs.size≤b)∧b≠X.env.locals∧(∀ x c,X.env.cells.lookup x = some c→c≠b)∧∀ p∈X.pn ++ pins,p.1≠b) :
  Inv X pins σ H' { s with heap:=h',gens:=g',drawn:=d',toks:=t' }:=by
 obtain ⟨m,⟨o,es,ep,ho,r⟩,_⟩:=id I.loc
 obtain ⟨sl,hL⟩:=u.any ho I.free fun z=>(yM _ z).2.1 rfl
 exact I.step (ch:=ch) yM (fun b o hL hb hc e n=>u.keep b o e n (fun z=>(List.mem_cons.mp (I.gH b z)).elim hL hb) hc) (fun b o _ _ hc e n=>u.any e n hc) (fun b o hc e n=>u.free b o e n hc) (fun b o hc e=>u.there b o e hc) u.jR u.jA u.jS (fun m' hm=>by
  obtain ⟨o',vo,La,ve,r'⟩:=hm
  rw [ho] at ve; cases ve
  exact ⟨_,vo,La,hL,r'⟩) bA hg
theorem Inv.turned {t':Nat} {it:Addr} (I:Inv X pins σ H s) (k:∀ b o,b≠it→s.heap.get? b = some o→h'.get? b = some o) (hn:H it = none) (hL:it≠X.env.locals)
  (h1:it∈X.ex∨X.s₀.heap.objs.size≤it) (h2:∀ x c,X.env.cells.lookup x = some c→c≠it) (h3:∀ p∈X.pn ++ pins,p.1≠it):Inv X pins σ H { s with heap:=h',toks:=t' }:=by
 have Ng:∀ b u,H b = some u→b≠it:=fun b u e z=>by rw [z,hn] at e; cases e
 refine I.step (g':=s.gens) (d':=s.drawn) (ch:=[it]) (fun b hb=>?_) (fun b o _ _ hc e _=>k b o (fun z=>hc (by simp [z])) e) (fun b o _ _ hc e _=>⟨o.slots,k b o (fun z=>hc (by simp [z])) e⟩) (fun _ _ _ _ n=>n)
  (fun b o hc e=>⟨o,k b o (fun z=>hc (by simp [z])) e⟩) (fun _ _ e=>e) (fun _ _ _ e=>e) (fun b ps e=>⟨#[],by rw [e]; simp⟩) (fun m hm=>?_) (fun b u e=>?_) I.bare
 ·have e:b = it:=by simpa using hb
  subst e
  exact ⟨h1,hL,h2,h3⟩
 ·obtain ⟨o,es,ep,ho,r⟩:=hm
  exact ⟨o,es,ep,k _ o (Ne.symm hL) ho,r⟩
 ·refine (I.bA b u e).ff (fun c v hc q=>k c v ?_ q) (fun _ q=>q) fun _ _ q=>q
  rcases hc with z | z
  ·rw [z]; exact Ng b u e
  ·exact Ng c _ z
theorem Inv.tok (I:Inv X pins σ H s) (t:Nat):Inv X pins σ H { s with toks:=t }:=I.un (h':=s.heap) (t':=t) Un.refl I.bA
theorem Inv.kept {t':Nat} (I:Inv X pins σ H s) (k:∀ b u,s.heap.get? b = some u→h'.get? b = some u):Inv X pins σ H { s with heap:=h',toks:=t' }:=I.un (Un.kept k) (I.bA.kept k)
theorem Inv.laid {a:Addr} {o:HO} {t':Nat} (I:Inv X pins σ H s) (k:∀ b u,s.heap.get? b = some u→h'.get? b = some u) (hp:s.heap.objs.size≤a) (new:bg X.prog X.w (upd H a o) h' a o) :
  Inv X pins σ (upd H a o) { s with heap:=h',toks:=t' }:=I.un (Un.laid k hp (I.bA.fresh hp)) (I.bA.laid k hp new)
theorem Inv.write {x e:Addr} {o:HO} {t':Nat} (I:Inv X pins σ H s) (mu:F0 (H x)) (he:e = x∨H e = some (.own x)) (k:∀ b u,b≠e→s.heap.get? b = some u→h'.get? b = some u) (Du:∃ u,h'.get? e = some u)
  (new:bg X.prog X.w (upd H x o) h' x o):Inv X pins σ (upd H x o) { s with heap:=h',toks:=t' }:=I.un (Un.write mu he k Du) (I.bA.write mu he k Du new)
theorem Inv.nZ {A7:List (Addr×Obj)} (I:Inv X pins σ H s) (h:∀ p∈A7,s.heap.get? p.1 = some p.2∧H p.1 = none∧p.1≠X.env.locals∧p.1∉X.fs∧∀ v,p.2.data≠.cell v):Inv X A7 σ H s:=
 ⟨I.ok,I.os,I.bare,I.base,I.loc,I.cell,I.free,I.d4,fun p hp=>(List.mem_append.mp hp).elim (fun z=>I.pin p (List.mem_append_left _ z)) (h p),I.bA,I.len⟩
theorem ki {N:List Str} (hN:N.Nodup) {i j:Nat} {x:Str} (a:N[i]? = some x) (b:N[j]? = some x):i = j:=by
 obtain ⟨h1,e1⟩:=List.getElem?_eq_some_iff.mp a
 obtain ⟨h2,e2⟩:=List.getElem?_eq_some_iff.mp b
 exact (List.getElem_inj hN).mp (e1.trans e2.symm)
theorem mF {M:Model} {A:Around} {E:Value→Shared→Prop} {i:Nat} {x:Str} {v:V} {u:Value} {Q:Unit→Shared→Prop} (I:Inv X pins σ H s) (hN:X.N.Nodup) (hi:X.N[i]? = some x) (hx:Loc X.env.scope x) (r:RelV v u)
  (h:∀ s',Inv X pins (σ.set i (some v)) H s'→(∃ a,Heap.SameBut a s.heap s'.heap∧(a = X.env.locals∨X.env.cells.lookup x = some a))→Q () s') (hf:X.fn x = true∨X.env.scope.names.lookup x = some .local:=by first | exact .inl rfl | exact .inr rfl | assumption):wpAny M A (storeName X.env x u) Q E s:=by
 obtain ⟨m,hn,hl⟩:=id I.loc
 have CS:(X.env.scope.kind == .class || (X.env.scope.kind == .module && X.env.locals != X.env.globals)) = false:=by rw [I.ok.kind]; rfl
 have hiσ : i < σ.length:=by rw [I.len]; exact (List.getElem?_eq_some_iff.mp hi).1
 have Ap:=I.Ap
 have tracked:∀ {a:Addr} {h':Heap},(∃ o,s.heap.get? a = some o∧H a = none)→Heap.SameBut a s.heap h'→gy X.prog X.w H h':=fun {a h'} ha hs b ob e=>by
  obtain ⟨_,_,um⟩:=ha
  refine (I.bA b ob e).ff (fun c w' hc q=>(hs.2 c ?_).trans q) (fun _ q=>q) fun _ _ q=>q
  rintro rfl
  rcases hc with rfl | hc
  ·rw [um] at e; cases e
  ·rw [um] at hc; cases hc
 rcases hx with hk | hk
 ·refine wpAny_storeName_local hk hn (fun h' zU hs=>?_) CS
  obtain ⟨oL,_,_,NT,_⟩:=id hn
  refine h _ ⟨I.ok,I.os,I.bare,⟨fun b o e n hb hx=>?_,fun b o e n hb hx=>?_,I.base.free,fun b o e hx=>?_,I.base.jR,I.base.jA,I.base.jS⟩,⟨_,zU,fun j y v' e1 e2 e3=>?_⟩,fun y c e=>?_,I.free,I.d4,fun p hp=>?_,tracked ⟨oL,NT,I.free⟩ hs,by simpa using I.len⟩ ⟨_,hs,.inl rfl⟩
  ·exact (hs.2 b (Nat.ne_of_lt (Nat.lt_of_lt_of_le (Heap.lt_size e) I.ok.above))).trans (I.base.keep b o e n hb hx)
  ·obtain ⟨sl,e1⟩:=I.base.slot b o e n hb hx
   exact ⟨sl,(hs.2 b (Nat.ne_of_lt (Nat.lt_of_lt_of_le (Heap.lt_size e) I.ok.above))).trans e1⟩
  ·obtain ⟨o',e1⟩:=I.base.there b o e hx
   exact ⟨o',(hs.2 b (Nat.ne_of_lt (Nat.lt_of_lt_of_le (Heap.lt_size e) I.ok.above))).trans e1⟩
  ·by_cases hj:j = i
   ·subst hj
    rw [hi] at e1; cases e1
    rw [List.getElem?_set_self hiσ] at e2
    cases e2
    exact ⟨u,r,.inl ⟨hk,by simp⟩⟩
   ·rw [List.getElem?_set_ne (Ne.symm hj)] at e2
    obtain ⟨u',r',q⟩:=hl j y v' e1 e2 e3
    refine ⟨u',r',?_⟩
    rcases q with ⟨k,e⟩ | ⟨k,c,e,z⟩
    ·refine .inl ⟨k,?_⟩
     have:y≠x:=fun e=>hj (ki hN e1 (e▸hi))
     simp [this,e]
    ·exact .inr ⟨k,c,e,z.sameBut hs (Ap y c e)⟩
  ·obtain ⟨w',z⟩:=I.cell y c e
   exact ⟨w',z.sameBut hs (Ap y c e)⟩
  ·obtain ⟨e,n,ne,nf,d⟩:=I.pin p hp
   exact ⟨(hs.2 p.1 ne).trans e,n,ne,nf,d⟩
 ·have KO:X.fn x = true:=by
   rcases hf with z | z
   ·exact z
   ·rw [z] at hk; cases hk
  obtain ⟨c,hc⟩:=I.ok.has x (.inl hk)
  obtain ⟨w',z⟩:=I.cell x c hc
  refine wpAny_storeName_cell I.ok.kind hk hc z (fun h' uo hs=>?_)
  obtain ⟨oc,NS,Ku⟩:=id z
  refine h { s with heap:=h' } ⟨I.ok,I.os,I.bare,⟨fun b o e n hb hx=>?_,fun b o e n hb hx=>?_,I.base.free,fun b o e hx=>?_,I.base.jR,I.base.jA,I.base.jS⟩,⟨m,hn.sameBut hs (Ne.symm (Ap x c hc)),fun j y v' e1 e2 e3=>?_⟩,fun y c' e=>?_,I.free,I.d4,fun p hp=>?_,tracked ⟨oc,NS,I.d4 x c hc⟩ hs,by simpa using I.len⟩ ⟨c,hs,.inr hc⟩
  ·exact (hs.2 b (Nat.ne_of_lt (Nat.lt_of_lt_of_le (Heap.lt_size e) (I.ok.Dy x c KO hc)))).trans (I.base.keep b o e n hb hx)
  ·obtain ⟨sl,e1⟩:=I.base.slot b o e n hb hx
   exact ⟨sl,(hs.2 b (Nat.ne_of_lt (Nat.lt_of_lt_of_le (Heap.lt_size e) (I.ok.Dy x c KO hc)))).trans e1⟩
  ·obtain ⟨o',e1⟩:=I.base.there b o e hx
   exact ⟨o',(hs.2 b (Nat.ne_of_lt (Nat.lt_of_lt_of_le (Heap.lt_size e) (I.ok.Dy x c KO hc)))).trans e1⟩
  ·by_cases hj:j = i
   ·subst hj
    rw [hi] at e1; cases e1
    rw [List.getElem?_set_self hiσ] at e2
    cases e2
    exact ⟨u,r,.inr ⟨.inl hk,c,hc,uo⟩⟩
   ·rw [List.getElem?_set_ne (Ne.symm hj)] at e2
    obtain ⟨u',r',q⟩:=hl j y v' e1 e2 e3
    refine ⟨u',r',?_⟩
    rcases q with q | ⟨k,c',e,z'⟩
    ·exact .inl q
    ·refine .inr ⟨k,c',e,z'.sameBut hs ?_⟩
     rintro rfl
     exact hj (ki hN e1 (I.ok.inj _ _ _ e hc▸hi))
  ·by_cases E4:c' = c
   ·subst E4; exact ⟨_,uo⟩
   ·obtain ⟨w2,z2⟩:=I.cell y c' e
    exact ⟨w2,z2.sameBut hs E4⟩
  ·obtain ⟨e,n,ne,nf,d⟩:=I.pin p hp
   refine ⟨(hs.2 p.1 ?_).trans e,n,ne,nf,d⟩
   intro q
   rw [q,NS] at e
   have q':oc = p.2:=Option.some.inj e
   exact d w' (by rw [← q']; exact Ku)
theorem fU {M:Model} {A:Around} {E:Value→Shared→Prop} {i:Nat} {x:Str} {v:V} {u:Value} {Q:Unit→Shared→Prop} (I:Inv X pins σ H s) (hN:X.N.Nodup) (hi:X.N[i]? = some x) (hx:Loc X.env.scope x) (r:RelV v u)
  (h:∀ s',Inv X pins (σ.set i (some v)) H s'→Q () s') (hf:X.fn x = true∨X.env.scope.names.lookup x = some .local:=by first | exact .inl rfl | exact .inr rfl | assumption):wpAny M A (storeName X.env x u) Q E s:=
 mF I hN hi hx r (fun s' I' _=>h s' I') hf
theorem Inv.Bo {s':Shared} {ch:List Addr} (I:Inv X pins σ H s) (ho:s'.os = s.os) (u:Un (gF X.stack) ch H H' s.heap s'.heap) (bA:gy X.prog X.w H' s'.heap) (hg:AllBare s'.gens)
  (yM:∀ b∈ch,(b∈X.ex∨X.s₀.heap.objs.size≤b)∧b≠X.env.locals∧(∀ x c,X.env.cells.lookup x = some c→c≠b)∧∀ p∈X.pn ++ pins,p.1≠b):Inv X pins σ H' s':=by
 obtain ⟨h',g',d',t',o'⟩:=s'
 have e:o' = s.os:=ho
 subst e
 exact I.call (g':=g') (t':=t') (d':=d') u bA hg yM
end
abbrev XK:=Value→Option Addr→Hp→Prop
abbrev St:=List (Option V)
abbrev VK:=V→Hp→Prop
abbrev TE:=St→Hp→VK→Prop
abbrev TT:=St→Hp→(Bool→Hp→Prop)→Prop
abbrev TA:=St→Hp→(List V→Hp→Prop)→Prop
structure Ends where
 nx:St→Hp→Prop
 rt:VK
 bk:St→Hp→Prop:=fun _ _=>False
 ct:St→Hp→Prop:=fun _ _=>False
abbrev TS:=Ends→St→Hp→Prop
def EP (X:Cx) (pins:List (Addr×Obj)) (σ : St) (Q:VK) (u:Value) (s':Shared):Prop:=∃ v H',Inv X pins σ H' s'∧RelV v u∧Q v H'
def TP (X:Cx) (pins:List (Addr×Obj)) (σ : St) (Q:Bool→Hp→Prop) (b:Bool) (s':Shared):Prop:=∃ H',Inv X pins σ H' s'∧Q b H'
def AP (X:Cx) (pins:List (Addr×Obj)) (σ : St) (Q:List V→Hp→Prop) (us:List Value) (s':Shared):Prop:=∃ vs H',Inv X pins σ H' s'∧Vals vs us∧Q vs H'
def SP (X:Cx) (pins:List (Addr×Obj)) (D:Ends) (f:Flow) (s':Shared):Prop:=
 match f with
 | .next=>∃ σ' H',Inv X pins σ' H' s'∧D.nx σ' H'
 | .brk=>∃ σ' H',Inv X pins σ' H' s'∧D.bk σ' H'
 | .cont=>∃ σ' H',Inv X pins σ' H' s'∧D.ct σ' H'
 | .ret u=>∃ v σ' H',Inv X pins σ' H' s'∧RelV v u∧D.rt v H'
def PE (X:Cx) (e:Expr) (t:TE):Prop:=
 ∀ (pins:List (Addr×Obj)) (s:Shared) (σ : St) (H:Hp) (Q:VK),Inv X pins σ H s→t σ H Q→wpAny (model X.prog X.w) X.A (eval e X.env) (EP X pins σ Q) X.xe s
def PT (X:Cx) (e:Expr) (t:TT):Prop:=
 ∀ (pins:List (Addr×Obj)) (s:Shared) (σ : St) (H:Hp) (Q:Bool→Hp→Prop),Inv X pins σ H s→t σ H Q→wpAny (model X.prog X.w) X.A (isTrue e X.env (eval e X.env)) (TP X pins σ Q) X.xe s
def PW (X:Cx) (e:Expr) (t:TT):Prop:=
 ∀ (whole:Sem Value) (pins:List (Addr×Obj)) (s:Shared) (σ : St) (H:Hp) (Q:Bool→Hp→Prop),Inv X pins σ H s→t σ H Q→wpAny (model X.prog X.w) X.A (isTrue e X.env whole) (TP X pins σ Q) X.xe s
theorem PW.pt {X:Cx} {e:Expr} {t:TT} (h:PW X e t):PT X e t:=h _
def PA (X:Cx) (es:List Expr) (t:TA):Prop:=
 ∀ (pos:Pos) (pins:List (Addr×Obj)) (s:Shared) (σ : St) (H:Hp) (Q:List V→Hp→Prop),Inv X pins σ H s→t σ H Q→wpAny (model X.prog X.w) X.A (spliced (backTo pos (starEach es X.env))) (AP X pins σ Q) X.xe s
def PS (X:Cx) (st:Stmt) (t:TS):Prop:=
 ∀ (pins:List (Addr×Obj)) (s:Shared) (σ : St) (H:Hp) (D:Ends),Inv X pins σ H s→t D σ H→wpAny (model X.prog X.w) X.A (exec st X.env) (SP X pins D) X.xe s
def qK (X:Cx) (st:List Stmt) (t:TS):Prop:=
 ∀ (pins:List (Addr×Obj)) (s:Shared) (σ : St) (H:Hp) (D:Ends),Inv X pins σ H s→t D σ H→wpAny (model X.prog X.w) X.A (execs st X.env) (SP X pins D) X.xe s
theorem cS {α : Type} {t:Sem α} {Q Q' : α→Shared→Prop} {M:Model} {A:Around} {E:Value→Shared→Prop} {s:Shared} (h:wpAny M A t Q E s) (hQ:∀ a s,Q a s→Q' a s):wpAny M A t Q' E s:=wpAny_mono h hQ fun _ _ x=>x
end L2
namespace L2
open PySem PySem.Spec PyProof.Rows
section
variable {X:Cx}
theorem bin {a b:Expr} {ta tb:TE} (ha:PE X a ta) (hb:PE X b tb) {pins:List (Addr×Obj)} {s:Shared} {σ : St} {H:Hp} {R:V→V→Hp→Prop} (I:Inv X pins σ H s) (h:ta σ H fun x H1=>tb σ H1 fun y H2=>R x y H2)
  {α : Type} {Q : α→Shared→Prop} {f:Value→Value→Sem α}
  (hf:∀ v u s2 x y H2,Inv X pins σ H2 s2→RelV x v→RelV y u→R x y H2→wpAny (model X.prog X.w) X.A (f v u) Q X.xe s2) :
  wpAny (model X.prog X.w) X.A (eval a X.env) (fun v s₁=>wpAny (model X.prog X.w) X.A (eval b X.env) (fun u s₂=>wpAny (model X.prog X.w) X.A (f v u) Q X.xe s₂) X.xe s₁) X.xe s:=by
 refine cS (ha pins s σ H _ I h) fun v s1 ⟨x,H1,I1,r1,q1⟩=>?_
 refine cS (hb pins s1 σ H1 _ I1 q1) fun u s2 ⟨y,H2,I2,r2,q2⟩=>?_
 exact hf v u s2 x y H2 I2 r1 r2 q2
def fS (i:Nat):TE:=fun σ H Q=>∃ v,σ[i]? = some (some v)∧Q v H
def tC (v:V):TE:=fun _ H Q=>Q v H
theorem B4 {i:Nat} {x:Str} {pos:Pos} (hN:X.N[i]? = some x) (hv:He X.env.scope x) (hd:(x == ("__debug__" : Str)) = false:=by decide) (su:(x == ("__classdict__" : Str)) = false:=by decide):PE X (.Name x pos) (fS i):=by
 intro pins s σ H Q I h
 obtain ⟨v,e,h⟩:=h
 obtain ⟨m,hn,hl⟩:=I.loc
 obtain ⟨u,r,l⟩:=hl i x v hN e hv
 have fin:EP X pins σ Q u s:=⟨v,H,I,r,h⟩
 rcases l with ⟨hk,hm⟩ | ⟨hk,c,hc,Bd⟩
 ·exact wpAny_Name (wpAny_loadName_local I.ok.kind hk hn hm fin) hd
 ·rcases hk with hk | hk
  ·exact wpAny_Name (wpAny_loadName_cell I.ok.kind hk hc Bd fin) hd
  ·exact wpAny_Name (wpAny_loadName_free I.ok.kind hk hc Bd fin su) hd
theorem ao {i j pos}:PE X (.Constant (.int i) j pos) (tC (.int i)):=fun _ _ _ H _ I h=>wpAny_Constant_int ⟨.int i,H,I.tok _,⟨_,rfl⟩,h⟩
theorem fo {b j pos}:PE X (.Constant (.bool b) j pos) (tC (.bl b)):=fun _ _ _ H _ I h=>Constant_bool ⟨.bl b,H,I,rfl,h⟩
theorem B6 {j pos}:PE X (.Constant .none j pos) (tC .cX):=fun _ _ _ H _ I h=>Constant_none ⟨.cX,H,I,rfl,h⟩
theorem xh {x j pos}:PE X (.Constant (.str x) j pos) (tC (.str x)):=fun _ _ _ H _ I h=>Calls.Constant_str ⟨.str x,H,I.tok _,⟨_,rfl⟩,h⟩
def Gl (X:Cx) (x:Str):Prop:=X.env.kindOf x = some .globalImplicit
theorem iu {E:Value→Shared→Prop} {pins:List (Addr×Obj)} {s:Shared} {σ : St} {H:Hp} {x:Str} {u:Value} {pos:Pos} {Q:Value→Shared→Prop} (I:Inv X pins σ H s) (hg:Gl X x) (hm:X.mg x = some u) (h:Q u s)
  (hd:(x == ("__debug__" : Str)) = false:=by decide):wpAny (model X.prog X.w) X.A (eval (.Name x pos) X.env) Q E s:=
 Calls.Name_function_global I.ok.kind hg (Calls.loadGlobal_global (by rw [I.ok.glob]; exact I.mod.glob.keeps I.bk) hm h) hd
theorem dU {E:Value→Shared→Prop} {pins:List (Addr×Obj)} {s:Shared} {σ : St} {H:Hp} {x:Str} {u:Value} {pos:Pos} {Q:Value→Shared→Prop} (I:Inv X pins σ H s) (hg:Gl X x) (hm:X.mg x = none) (hv:bootBuiltins x = some u) (h:Q u s)
  (hn:x≠ "__name__":=by decide) (hd:(x == ("__debug__" : Str)) = false:=by decide):wpAny (model X.prog X.w) X.A (eval (.Name x pos) X.env) Q E s:=by
 obtain ⟨mb,h1,h2⟩:=I.mod.blt
 exact Calls.Name_function_global I.ok.kind hg (Calls.loadGlobal_builtin (by rw [I.ok.glob]; exact I.mod.glob.keeps I.bk) hm (by rw [I.ok.blt]; exact h1.keeps I.bk) ((h2 x hn).trans hv) h) hd
theorem b7 {x:Str} {v:V} {u:Value} {pos:Pos} (hg:Gl X x) (hm:X.mg x = some u) (r:RelV v u) (hd:(x == ("__debug__" : Str)) = false:=by decide):PE X (.Name x pos) (tC v):=
 fun _ _ _ H _ I h=>iu I hg hm ⟨v,H,I,r,h⟩ hd
theorem ic {x:Str} {v:V} {u:Value} {pos:Pos} (hg:Gl X x) (hm:X.mg x = none) (hv:bootBuiltins x = some u) (r:RelV v u) (hn:x≠ "__name__":=by decide) (hd:(x == ("__debug__" : Str)) = false:=by decide):PE X (.Name x pos) (tC v):=
 fun _ _ _ H _ I h=>dU I hg hm hv ⟨v,H,I,r,h⟩ hn hd
def Ga (ta tb:TE) (k:Int→Int→Hp→Prop):St→Hp→Prop:=fun σ H=>ta σ H fun x H1=>tb σ H1 fun y H2=>∃ i j,x = .int i∧y = .int j∧k i j H2
def Pj (ta tb:TE):TE:=fun σ H Q=>Ga ta tb (fun i j H2=>Q (.int (i + j)) H2) σ H
def O4 (ta tb:TE):TE:=fun σ H Q=>Ga ta tb (fun i j H2=>Q (.int (i - j)) H2) σ H
def O8 (ta tb:TE):TE:=fun σ H Q=>Ga ta tb (fun i j H2=>(-(2 ^ 64) < i∧i < 2 ^ 64)∧Q (.int (i * j)) H2) σ H
variable {a b:Expr} {ta tb:TE} {pos:Pos}
def PC (X:Cx) (op:CmpOp) (a b:Expr) (t:TE):Prop:=
 ∀ (pins:List (Addr×Obj)) (s:Shared) (σ : St) (H:Hp) (Q:VK),Inv X pins σ H s→t σ H Q→
  wpAny (model X.prog X.w) X.A (eval a X.env) (fun v s₁=>wpAny (model X.prog X.w) X.A (eval b X.env) (fun u s₂=>wpAny (model X.prog X.w) X.A (compareOp op v u) (EP X pins σ Q) X.xe s₂) X.xe s₁) X.xe s
theorem xw (b:Expr) {op:CmpOp} (h:op≠.In) (h2:op≠.NotIn):behindInMarks op b = false:=by
 have e1:(op == CmpOp.In) = false:=by cases op <;> first | rfl | exact absurd rfl h
 have e2:(op == CmpOp.NotIn) = false:=by cases op <;> first | rfl | exact absurd rfl h2
 cases b <;> simp [behindInMarks,e1,e2]
def uM (p:Int→Int→Bool) (ta tb:TE):TE:=fun σ H Q=>Ga ta tb (fun i j H2=>Q (.bl (p i j)) H2) σ H
abbrev Uv:TE→TE→TE:=uM fun i j=>decide (i < j)
abbrev Uw:TE→TE→TE:=uM fun i j=>decide (i≤j)
abbrev Uy:TE→TE→TE:=uM fun i j=>decide (j < i)
abbrev Uz:TE→TE→TE:=uM fun i j=>decide (j≤i)
abbrev Pe:TE→TE→TE:=uM fun i j=>decide (i = j)
abbrev O7:TE→TE→TE:=uM fun i j=>!decide (i = j)
def O9 (ta:TE):TE:=fun σ H Q=>ta σ H fun x H1=>Q (.bl (decide (x = .cX))) H1
def MH (ta:TE):TE:=fun σ H Q=>ta σ H fun x H1=>Q (.bl (!decide (x = .cX))) H1
def tB (t:TE):TT:=fun σ H Q=>t σ H fun x H1=>∃ c,x = .bl c∧Q c H1
theorem rM {op:CmpOp} {t:TE} (h:PC X op a b t) (h1:behindInMarks op b = false:=by first | exact xw _ (by decide) (by decide) | rfl):PT X (.Compare a [op] [b] pos) (tB t):=by
 intro pins s σ H Q I hw
 refine wpAny_isTrue_Compare1 (cS (h pins s σ H _ I hw) fun v s1 h1=>cS h1 fun u s2 h2=>cS h2 fun c s3 ⟨x,H1,I1,r1,q1⟩=>?_) h1
 obtain ⟨d,rfl,q⟩:=q1
 cases r1
 exact wpAny_truthy_bool ⟨H1,I1,q⟩
theorem fE {e:Expr} {t:TE} (h:PE X e t) (he:∀ whole,isTrue e X.env whole = (do let v ← whole; standAt e.pos; holding [v] (truthy v)):=by intro _; rfl):PT X e (tB t):=by
 intro pins s σ H Q I hw
 refine isTrue_plain (cS (h pins s σ H _ I hw) fun v s1 ⟨x,H1,I1,r1,q1⟩=>?_) (he _)
 obtain ⟨d,rfl,q⟩:=q1
 cases r1
 exact wpAny_truthy_bool ⟨H1,I1,q⟩
variable {tA F9:TT} {rest:List Expr}
def DP (t u:TT):TT:=fun σ H Q=>t σ H fun c H1=>if c = true then u σ H1 Q else Q false H1
def MG (t u:TT):TT:=fun σ H Q=>t σ H fun c H1=>if c = true then Q true H1 else u σ H1 Q
def DK (t:TT):TT:=fun σ H Q=>t σ H fun c H1=>Q (!c) H1
theorem pw_and1 (ha:PT X a tA):PW X (.BoolOp .And [a] pos) tA:=by
 intro wh pins s σ H Q I h
 refine isTrue_and (cS (ha pins s σ H Q I h) fun c s1 e=>?_)
 cases c with
 | true=>exact isTrue_and_nil e
 | false=>exact e
theorem pw_or1 (ha:PT X a tA):PW X (.BoolOp .Or [a] pos) tA:=by
 intro wh pins s σ H Q I h
 refine isTrue_or (cS (ha pins s σ H Q I h) fun c s1 e=>?_)
 cases c with
 | false=>exact isTrue_or_nil e
 | true=>exact e
theorem pw_and (ha:PT X a tA) (hb:PW X (.BoolOp .And (b :: rest) pos) F9):PW X (.BoolOp .And (a :: b :: rest) pos) (DP tA F9):=by
 intro wh pins s σ H Q I h
 refine isTrue_and (cS (ha pins s σ H _ I h) fun c s1 ⟨H1,I1,q1⟩=>?_)
 cases c with
 | true=>exact hb wh pins s1 σ H1 Q I1 q1
 | false=>exact ⟨H1,I1,q1⟩
theorem pw_or (ha:PT X a tA) (hb:PW X (.BoolOp .Or (b :: rest) pos) F9):PW X (.BoolOp .Or (a :: b :: rest) pos) (MG tA F9):=by
 intro wh pins s σ H Q I h
 refine isTrue_or (cS (ha pins s σ H _ I h) fun c s1 ⟨H1,I1,q1⟩=>?_)
 cases c with
 | true=>exact ⟨H1,I1,q1⟩
 | false=>exact hb wh pins s1 σ H1 Q I1 q1
theorem gI (ha:PT X a tA):PT X (.UnaryOp .Not a pos) (DK tA):=by
 intro pins s σ H Q I h
 exact isTrue_not (ha pins s σ H (fun c H1=>Q (!c) H1) I h)
def AR (ta tb:TE):TE:=fun σ H Q=>ta σ H fun x H1=>∃ c,x = .bl c∧if c = true then tb σ H1 Q else Q (.bl false) H1
def O6 (ta tb:TE):TE:=fun σ H Q=>ta σ H fun x H1=>∃ c,x = .bl c∧if c = true then Q (.bl true) H1 else tb σ H1 Q
def AO (ta:TE):TE:=fun σ H Q=>ta σ H fun x H1=>∃ c,x = .bl c∧Q (.bl (!c)) H1
theorem xi {op} {t:TE} (h:PE X a t):PE X (.BoolOp op [a] pos) t:=fun pins s σ H Q I hw=>BoolOp_one (h pins s σ H Q I hw)
theorem xj (ha:PE X a ta) (hb:PE X (.BoolOp .And (b :: rest) pos) tb):PE X (.BoolOp .And (a :: b :: rest) pos) (AR ta tb):=by
 intro pins s σ H Q I h
 refine BoolOp_and (cS (ha pins s σ H _ I h) fun v s1 ⟨x,H1,I1,r1,q1⟩=>?_)
 obtain ⟨c,rfl,q1⟩:=q1
 cases r1
 refine wpAny_truthy_bool ?_
 cases c with
 | true=>exact hb pins s1 σ H1 Q I1 q1
 | false=>exact ⟨.bl false,H1,I1,rfl,q1⟩
theorem B5 (ha:PE X a ta):PE X (.UnaryOp .Not a pos) (AO ta):=by
 intro pins s σ H Q I h
 refine UnaryOp_ (cS (ha pins s σ H _ I h) fun v s1 ⟨x,H1,I1,r1,q1⟩=>?_)
 obtain ⟨c,rfl,q1⟩:=q1
 cases r1
 exact not_of (wpAny_truthy_bool ⟨.bl (!c),H1,I1,rfl,q1⟩)
def Ux (t:TT) (ta tb:TE):TE:=fun σ H Q=>t σ H fun c H1=>if c = true then ta σ H1 Q else tb σ H1 Q
end
end L2
namespace L2
open PySem PySem.Spec PyProof.Rows
def ay (K:PySem.W.Frag) (H:Hp) (a:Addr) (xs:List V):Prop:=
 Rd H a (.lst xs)∨
  ∃ (o:Obj) (aO:Array Value) (n:Nat),K.lookup a = some o∧o.cls = .type "list"∧o.dict = none∧o.data = .seq aO n∧aO.size≤sizeLine∧Vals xs aO.toList
def SqT (K:PySem.W.Frag) (H:Hp) (a:Addr) (xs:List V):Prop:=
 Rd H a (.tup xs)∨
  ∃ (o:Obj) (aO:Array Value) (n:Nat),K.lookup a = some o∧o.cls = .type "tuple"∧o.data = .seq aO n∧aO.size≤sizeLine∧Vals xs aO.toList
def Mj:Value→Option V
 | .none=>some .cX
 | .bool b=>some (.bl b)
 | .int i _=>some (.int i)
 | .str x _=>some (.str x)
 | .bytes b _=>some (.uz b)
 | .float b _=>some (.yN b)
 | .ref a=>some (.ref a)
 | .type n=>some (.ty n)
 | _=>none
theorem RelV.abs {x:V} {u:Value} (r:RelV x u):Mj u = some x:=by
 cases x with
 | cX=>cases r; rfl
 | bl _=>cases r; rfl
 | int _=>obtain ⟨t,rfl⟩:=r; rfl
 | str _=>obtain ⟨t,rfl⟩:=r; rfl
 | uz _=>obtain ⟨t,rfl⟩:=r; rfl
 | yN _=>obtain ⟨t,rfl⟩:=r; rfl
 | ref _=>cases r; rfl
 | ty _=>cases r; rfl
theorem RelV.inj {x y:V} {u:Value} (r:RelV x u) (q:RelV y u):x = y:=Option.some.inj (r.abs.symm.trans q.abs)
theorem Vals.inj:∀ {xs ys:List V} {us:List Value},Vals xs us→Vals ys us→xs = ys
 | _,_,_,.nil,.nil=>rfl
 | _,_,_,.cons r t,.cons r' t'=>by rw [r.inj r',Vals.inj t t']
section
variable {X:Cx} {pins:List (Addr×Obj)} {σ : St} {H:Hp} {s:Shared} {a:Addr} {xs ys:List V}
theorem ay.of {K:PySem.W.Frag} (h:H a = some (.lst xs)):ay K H a xs:=.inl (.inl h)
theorem SqT.of {K:PySem.W.Frag} (h:H a = some (.tup xs)):SqT K H a xs:=.inl (.inl h)
theorem Inv.list (I:Inv X pins σ H s) (h:ay X.K H a xs):∃ aO:List Value,Vals xs aO∧PlainL s.heap a aO.toArray∧xs.length≤sizeLine:=by
 rcases h with h | ⟨o,aO,n,hk,hc,hd,hs,hz,r⟩
 ·obtain ⟨z,aO,n,r,e⟩:=h.ok I.bA
  exact ⟨aO,r,⟨_,n,e,rfl,rfl,rfl⟩,z⟩
 ·refine ⟨aO.toList,r,⟨o,n,I.lH a o hk,hc,hd,by simpa using hs⟩,?_⟩
  have e:=r.length
  simp only [Array.length_toList] at e
  omega
theorem Inv.tuple (I:Inv X pins σ H s) (h:SqT X.K H a xs):∃ aO:List Value,Vals xs aO∧IsTup s.heap a aO.toArray∧xs.length≤sizeLine:=by
 rcases h with h | ⟨o,aO,n,hk,hc,hs,hz,r⟩
 ·obtain ⟨z,aO,r,p⟩:=h.ok I.bA
  exact ⟨aO,r,p,z⟩
 ·refine ⟨aO.toList,r,⟨o,I.lH a o hk,hc,n,by simpa using hs⟩,?_⟩
  have e:=r.length
  simp only [Array.length_toList] at e
  omega
theorem Inv.iq (I:Inv X pins σ H s) (h:ay X.K H a xs) (h':ay X.K H a ys):xs = ys:=by
 obtain ⟨aO,r,⟨o,n,e,_,_,d⟩,_⟩:=I.list h
 obtain ⟨its',r',⟨o',n',e',_,_,d'⟩,_⟩:=I.list h'
 rw [e] at e'; cases e'
 rw [d] at d'
 injection d' with d1 _
 have:aO = its':=by simpa using congrArg Array.toList d1
 subst this
 exact r.inj r'
end
abbrev Cx.jP (X:Cx) (E:Value→Shared→Prop):Cx:={ X with xe:=E }
abbrev Cx.zB (X:Cx):Cx:=X.jP fun _ _=>False
theorem Cx.Ok.jP {X:Cx} (ok:X.Ok) (E:Value→Shared→Prop):(X.jP E).Ok:=
 ⟨ok.mod,ok.kind,ok.glob,ok.blt,ok.above,ok.inj,ok.has,ok.Dy,ok.hd,ok.frames,ok.vH,ok.K9,ok.bs,ok.Bp,ok.u3,ok.ya,ok.iX,ok.CW⟩
theorem Cx.Ok.fz {X:Cx} {E:Value→Shared→Prop} (ok:(X.jP E).Ok):X.Ok:=
 ⟨ok.mod,ok.kind,ok.glob,ok.blt,ok.above,ok.inj,ok.has,ok.Dy,ok.hd,ok.frames,ok.vH,ok.K9,ok.bs,ok.Bp,ok.u3,ok.ya,ok.iX,ok.CW⟩
section
variable {X:Cx} {pins:List (Addr×Obj)} {σ : St} {H:Hp} {s:Shared} {E:Value→Shared→Prop}
theorem Inv.jP (I:Inv X pins σ H s) (E:Value→Shared→Prop):Inv (X.jP E) pins σ H s:=⟨I.ok.jP E,I.os,I.bare,I.base,I.loc,I.cell,I.free,I.d4,I.pin,I.bA,I.len⟩
theorem Inv.fz (I:Inv (X.jP E) pins σ H s):Inv X pins σ H s:=⟨I.ok.fz,I.os,I.bare,I.base,I.loc,I.cell,I.free,I.d4,I.pin,I.bA,I.len⟩
theorem SP.fz {D:Ends} {f:Flow} {s':Shared} (h:SP (X.jP E) pins D f s'):SP X pins D f s':=by
 cases f with
 | next=>obtain ⟨σ',H',I,q⟩:=h; exact ⟨σ',H',I.fz,q⟩
 | brk=>obtain ⟨σ',H',I,q⟩:=h; exact ⟨σ',H',I.fz,q⟩
 | cont=>obtain ⟨σ',H',I,q⟩:=h; exact ⟨σ',H',I.fz,q⟩
 | ret u=>obtain ⟨v,σ',H',I,r,q⟩:=h; exact ⟨v,σ',H',I.fz,r,q⟩
theorem qK.zB {st:List Stmt} {t:TS} (h:qK X.zB st t):qK X st t:=fun pins s σ H D I hw=>
 wpAny_mono (h pins s σ H D (I.jP _) hw) (fun _ _ q=>q.fz) fun _ _ z=>False.elim z
end
section
variable {X:Cx} {st:Stmt} {rest:List Stmt} {t u:TS} {e:Expr} {te:TE} {pos:Pos}
def AQ:TS:=fun D σ H=>D.nx σ H
def BC (t u:TS):TS:=fun D σ H=>t { D with nx:=u D } σ H
theorem aR:qK X [] AQ:=fun _ _ σ H _ I h=>wpAny_execs_nil ⟨σ,H,I,h⟩
theorem ag (h1:PS X st t) (h2:qK X rest u):qK X (st :: rest) (BC t u):=by
 intro pins s σ H D I h
 refine wpAny_execs_cons (cS (h1 pins s σ H { D with nx:=u D } I h) fun f s1 q=>?_)
 cases f with
 | next=>
  obtain ⟨σ',H',I',q⟩:=q
  exact h2 pins s1 σ' H' D I' q
 | ret v=>exact q
 | brk=>exact q
 | cont=>exact q
theorem ak (h1:PS X st t):qK X [st] t:=by
 intro pins s σ H D I h
 refine wpAny_execs_cons (cS (h1 pins s σ H D I h) fun f s1 q=>?_)
 cases f with
 | next=>exact wpAny_execs_nil q
 | ret v=>exact q
 | brk=>exact q
 | cont=>exact q
def HD:TS:=fun D σ H=>D.bk σ H
def MM:TS:=fun D σ H=>D.ct σ H
theorem Inv.quiet {pins:List (Addr×Obj)} {σ : St} {H:Hp} {s:Shared} (I:Inv X pins σ H s):interactive X.env = false:=by simp [interactive,I.ok.kind]
def wc (te:TE):TS:=fun D σ H=>te σ H fun _ H1=>D.nx σ H1
theorem bR (he:PE X e te) (hs:swapsWith e none pos.line X.env = pure false:=by rfl):PS X (.Expr e pos) (wc te):=by
 intro pins s σ H D I h
 exact wpAny_Expr_any (cS (he pins s σ H _ I h) fun v s1 ⟨x,H1,I1,r1,q1⟩=>⟨σ,H1,I1,q1⟩) I.quiet hs
def DH (te:TE):TS:=fun D σ H=>te σ H D.rt
theorem aU (he:PE X e te):PS X (.Return (some e) pos) (DH te):=by
 intro pins s σ H D I h
 exact wpAny_Return_some (cS (he pins s σ H _ I h) fun v s1 ⟨x,H1,I1,r1,q1⟩=>⟨x,σ,H1,I1,r1,q1⟩)
def MF:TS:=fun D _ H=>D.rt .cX H
def BD (c:TT) (t u:TS):TS:=fun D σ H=>c σ H fun b H1=>if b = true then t D σ H1 else u D σ H1
theorem bF {c:Expr} {a b:List Stmt} {tc:TT} (hc:PT X c tc) (ha:qK X a t) (hb:qK X b u):PS X (.If c a b pos) (BD tc t u):=by
 intro pins s σ H D I h
 refine wpAny_If (cS (hc pins s σ H _ I h) fun d s1 ⟨H1,I1,q1⟩=>?_)
 cases d with
 | true=>exact ha pins s1 σ H1 D I1 q1
 | false=>exact hb pins s1 σ H1 D I1 q1
def Ho:TS:=fun _ _ _=>False
end
abbrev TG:=V→St→Hp→(St→Hp→Prop)→Prop
abbrev yQ:=List V→St→Hp→(St→Hp→Prop)→Prop
def PG (X:Cx) (target:Expr) (t:TG):Prop:=
 ∀ (pins:List (Addr×Obj)) (s:Shared) (σ : St) (H:Hp) (v:V) (u:Value) (Q:St→Hp→Prop),Inv X pins σ H s→RelV v u→t v σ H Q→
  wpAny (model X.prog X.w) X.A (assign target X.env u) (fun _ s'=>∃ σ' H',Inv X pins σ' H' s'∧Q σ' H') X.xe s
def FZ (X:Cx) (ts:List Expr) (t:yQ):Prop:=
 ∀ (pins:List (Addr×Obj)) (s:Shared) (σ : St) (H:Hp) (vs:List V) (us:List Value) (Q:St→Hp→Prop),Inv X pins σ H s→Vals vs us→t vs σ H Q→
  wpAny (model X.prog X.w) X.A (assignInOrder ((assignEach ts X.env).map (·.2)) us) (fun _ s'=>∃ σ' H',Inv X pins σ' H' s'∧Q σ' H') X.xe s
abbrev yD:=V→V→V→Hp→(Hp→Prop)→Prop
def FY (X:Cx) (t:yD):Prop:=
 ∀ (pins:List (Addr×Obj)) (s:Shared) (σ : St) (H:Hp) (o i v:V) (ov iv u:Value) (Q:Hp→Prop),Inv X pins σ H s→RelV o ov→RelV i iv→RelV v u→t o i v H Q→
  wpAny (model X.prog X.w) X.A (setItem ov iv u) (fun _ s'=>∃ H',Inv X pins σ H' s'∧Q H') X.xe s
abbrev Hf:=V→V→Hp→VK→Prop
def Vj (X:Cx) (op:Operator) (t:Hf):Prop:=
 ∀ (pins:List (Addr×Obj)) (s:Shared) (σ : St) (H:Hp) (x y:V) (v u:Value) (Q:VK),Inv X pins σ H s→RelV x v→RelV y u→t x y H Q→
  wpAny (model X.prog X.w) X.A (inplaceOp op v u) (EP X pins σ Q) X.xe s
section
variable {X:Cx} {pos:Pos}
def jr (i:Nat):TG:=fun v σ H Q=>Q (σ.set i (some v)) H
theorem aJ {i:Nat} {x:Str} (hN:X.N.Nodup) (hi:X.N[i]? = some x) (hx:Loc X.env.scope x) (hf:X.fn x = true∨X.env.scope.names.lookup x = some .local:=by first | exact .inl rfl | exact .inr rfl | assumption):PG X (.Name x pos) (jr i):=by
 intro pins s σ H v u Q I r h
 exact wpAny_assign_Name (fU I hN hi hx r (fun s' I'=>⟨_,H,I',h⟩) hf)
def Fb:yQ:=fun vs σ H Q=>vs = []∧Q σ H
def Bj (t:TG) (u:yQ):yQ:=fun vs σ H Q=>∃ v r,vs = v :: r∧t v σ H fun σ' H'=>u r σ' H' Q
theorem n6:FZ X [] Fb:=by
 intro pins s σ H vs us Q I r h
 obtain ⟨e,h⟩:=h
 subst e
 cases r
 exact assignInOrder_nil ⟨σ,H,I,h⟩
theorem fk {e:Expr} {es:List Expr} {t:TG} {u:yQ} (h1:PG X e t) (h2:FZ X es u)
  (hs:(assignEach (e :: es) X.env).map (·.2) = assign e X.env :: (assignEach es X.env).map (·.2):=by rfl):FZ X (e :: es) (Bj t u):=by
 intro pins s σ H vs us Q I r h
 obtain ⟨v,vr,e1,h⟩:=h
 subst e1
 cases r with
 | cons r rr=>
  rw [hs]
  refine assignInOrder_cons (cS (h1 pins s σ H _ _ _ I r h) fun _ s1 ⟨σ1,H1,I1,q1⟩=>?_)
  exact h2 pins s1 σ1 H1 _ _ Q I1 rr q1
def CV (K:PySem.W.Frag) (n:Nat) (t:yQ):TG:=fun v σ H Q=>∃ a xs,v = .ref a∧SqT K H a xs∧xs.length = n∧t xs σ H Q
theorem rO {es:List Expr} {k:Nat} {t:yQ} {n:Nat} (hc:X.calm = true) (h:FZ X es t)
  (hn:(assignEach es X.env).length = n:=by rfl) (CC:(assignEach es X.env).findIdx? (·.1) = none:=by rfl):PG X (.Tuple es k pos) (CV X.K n t):=by
 intro pins s σ H v u Q I r hw
 obtain ⟨a,xs,e1,hq,hl,hw⟩:=hw
 subst e1
 cases r
 obtain ⟨aO,rv,ht,hz⟩:=I.tuple hq
 refine assign_Tuple_tuple (I.ok.hd hc) ht (by simp [hn,← hl,rv.length]) CC fun h' hx=>?_
 have I1:Inv X pins σ H { s with heap:=h' }:=I.kept (t':=s.toks) fun b o e=>hx b o (Nat.ne_of_lt (Heap.lt_size e)) e
 exact h pins _ σ H xs _ Q I1 (by simpa using rv) hw
def E9 (to ti:TE) (t:yD):TG:=fun v σ H Q=>to σ H fun o H1=>ti σ H1 fun i H2=>t o i v H2 fun H3=>Q σ H3
theorem B3 {o i:Expr} {to ti:TE} {t:yD} (ho:PE X o to) (hi:PE X i ti) (hs:FY X t)
  (ha:∀ v,assign (.Subscript o i pos) X.env v = (do
   let ov ← holding [v] (eval o X.env)
   let iv ← holding [v,ov] (eval i X.env)
   standAt pos
   holding [v,ov,iv] (setItem ov iv v)
   release [v,ov,iv] []):=by intro _; rfl):PG X (.Subscript o i pos) (E9 to ti t):=by
 intro pins s σ H v u Q I r h
 rw [ha]
 refine wpAny_bind (wpAny_holding (cS (ho pins s σ H _ I h) fun ov s1 ⟨x,H1,I1,r1,q1⟩=>?_))
 refine wpAny_bind (wpAny_holding (cS (hi pins s1 σ H1 _ I1 q1) fun iv s2 ⟨y,H2,I2,r2,q2⟩=>?_))
 refine wpAny_bind (wpAny_standAt (wpAny_bind (wpAny_holding (cS (hs pins s2 σ H2 x y v ov iv u _ I2 r1 r2 r q2) fun _ s3 ⟨H3,I3,q3⟩=>?_))))
 exact wpAny_release ⟨σ,H3,I3,q3⟩
def yY (te:TE) (g:TG):TS:=fun D σ H=>te σ H fun x H1=>g x σ H1 D.nx
theorem B2 {tg e:Expr} {te:TE} {g:TG} (he:PE X e te) (hg:PG X tg g) (hs:swapsWithSole [tg] e pos.line X.env = pure false:=by rfl) (hw:swappedStores [tg] e X.env = pure none:=by rfl)
  (h1:(assignEach [tg] X.env).map (·.2) = [assign tg X.env]:=by rfl):PS X (.Assign [tg] e pos) (yY te g):=by
 intro pins s σ H D I h
 refine wpAny_Assign_stores (cS (he pins s σ H _ I h) fun v s1 ⟨x,H1,I1,r1,q1⟩=>?_) hs hw
 rw [h1]
 exact cS (hg pins s1 σ H1 x v _ I1 r1 q1) fun _ s2 q=>q
theorem aB {i:Nat} {x:Str} {e:Expr} {te:TE} {pos':Pos} (hN:X.N.Nodup) (hi:X.N[i]? = some x) (hx:Loc X.env.scope x) (he:PE X e te) (hs:swapsWith e (some (.Name x pos')) pos.line X.env = pure false:=by rfl) (hf:X.fn x = true∨X.env.scope.names.lookup x = some .local:=by first | exact .inl rfl | exact .inr rfl | assumption) :
  PS X (.Assign [.Name x pos'] e pos) (yY te (jr i)):=by
 intro pins s σ H D I h
 refine wpAny_Assign_Name (cS (he pins s σ H _ I h) fun v s1 ⟨y,H1,I1,r1,q1⟩=>?_) hs
 exact fU I1 hN hi hx r1 (fun s2 I2=>⟨_,H1,I2,q1⟩) hf
def DI (i j:Nat) (ta:TA):TS:=fun D σ H=>ta σ H fun vs H1=>∃ v w,vs = [v,w]∧D.nx ((σ.set i (some v)).set j (some w)) H1
theorem B1 {i j:Nat} {x y:Str} {a b:Expr} {ta:TA} {px py pt:Pos} {kt k2 Iq} (hc:X.calm = true) (hN:X.N.Nodup) (hi:X.N[i]? = some x) (hj:X.N[j]? = some y) (Dr:i≠j)
  (hx:X.env.scope.names.lookup x = some .local) (hy:X.env.scope.names.lookup y = some .local) (ha:PA X [a,b] ta)
  (hw:swappedStores [.Tuple [.Name x px,.Name y py] kt pt] (.Tuple [a,b] k2 Iq) X.env = pure (some [x,y]))
  (hs:swapsWithSole [.Tuple [.Name x px,.Name y py] kt pt] (.Tuple [a,b] k2 Iq) pos.line X.env = pure false:=by rfl) :
  PS X (.Assign [.Tuple [.Name x px,.Name y py] kt pt] (.Tuple [a,b] k2 Iq) pos) (DI i j ta):=by
 intro pins s σ H D I h
 rw [exec_Assign_arm]
 refine wpAny_bind (wpAny_standAt ?_)
 rw [hs]
 refine wpAny_bind (wpAny_pure ?_)
 rw [if_neg (by decide)]
 refine wpAny_bind (Tuple_ (cS (ha _ pins s σ H _ I h) fun us s1 ⟨vs,H1,I1,r1,q1⟩=>?_))
 obtain ⟨v,w,e1,q1⟩:=q1
 subst e1
 obtain ⟨u1,u2,rfl,rv,Ib⟩:∃ u1 u2,us = [u1,u2]∧RelV v u1∧RelV w u2:=by
  cases r1 with
  | cons p q=>
   cases q with
   | cons p' q'=>
    cases q'
    exact ⟨_,_,rfl,p,p'⟩
 refine wpAny_newObj_type ?_ (by show 2≤sizeLine; decide)
 have I2:Inv X pins σ H1 { s1 with heap:=s1.heap.push { cls:=.type "tuple",data:=.seq [u1,u2].toArray } }:=I1.kept (t':=s1.toks) fun b o e=>Heap.get?_push_of_some _ e
 rw [hw]
 refine wpAny_bind (wpAny_pure ?_)
 show wpAny (model X.prog X.w) X.A (do rule "assign.swapped-stores"; let items ← unpackItems (.ref s1.heap.objs.size) 2 none; assignInOrder [fun v=>bindName X.env y v,fun v=>bindName X.env x v] items.reverse; pure Flow.next) _ _ _
 refine wpAny_bind (wpAny_rule (wpAny_bind (unpackItems_tuple (items:=#[u1,u2]) (I.ok.hd hc) (IsTup.new s1.heap _) fun h' CA=>?_)))
 have I3:=I2.kept (h':=h') (t':=s1.toks) fun b o e=>CA b o (Nat.ne_of_lt (Heap.lt_size e)) e
 show wpAny _ _ (assignInOrder [fun v=>bindName X.env y v,fun v=>bindName X.env x v] [u2,u1] >>= fun _=>pure Flow.next) _ _ _
 refine wpAny_bind (assignInOrder_cons (wpAny_bindName (fU I3 hN hj (.inl hy) Ib (fun s2 I4=>?_) (.inr hy))))
 refine assignInOrder_cons (wpAny_bindName (fU I4 hN hi (.inl hx) rv (fun s3 I5=>assignInOrder_nil (wpAny_pure ?_)) (.inr hx)))
 rw [List.set_comm _ _ (Ne.symm Dr)] at I5
 exact ⟨_,H1,I5,q1⟩
def Ph (i:Nat) (te:TE) (ti:Hf):TS:=fun D σ H=>∃ x,σ[i]? = some (some x)∧te σ H fun y H1=>ti x y H1 fun z H2=>D.nx (σ.set i (some z)) H2
def MN (to ti te:TE) (Hn:V→V→Hp→VK→Prop) (O0:Hf) (Hj:yD):TS:=fun D σ H=>to σ H fun o H1=>ti σ H1 fun i H2=>Hn o i H2 fun x H3=>te σ H3 fun y H4=>O0 x y H4 fun z H5=>Hj o i z H5 fun H6=>D.nx σ H6
def TQ (X:Cx) (t:V→V→Hp→VK→Prop):Prop:=
 ∀ (pins:List (Addr×Obj)) (s:Shared) (σ : St) (H:Hp) (o i:V) (ov iv:Value) (Q:VK),Inv X pins σ H s→RelV o ov→RelV i iv→t o i H Q→
  wpAny (model X.prog X.w) X.A (getItem ov iv) (EP X pins σ Q) X.xe s
def UX (f:Int→Int→Int):Hf:=fun x y H Q=>∃ i j,x = .int i∧y = .int j∧Q (.int (f i j)) H
end
section
variable {X:Cx} {pos:Pos}
def vZ (c:TT) (tb:TS):TS:=fun D σ H=>∃ W:Nat→St→Hp→Prop,(∃ m,W m σ H)∧∀ m σ H,W m σ H→
 c σ H fun b H1=>if b = true then ∃ N:St→Hp→Prop,(∀ σ' H',N σ' H'→∃ m',m' < m∧W m' σ' H')∧tb { D with nx:=N,ct:=N,bk:=D.nx } σ H1 else D.nx σ H1
theorem pP {c:Expr} {body:List Stmt} {tc:TT} {tb:TS} (hp:PassesOwn (model X.prog X.w) X.A X.env X.xe) (hc:PT X c tc) (hb:qK X body tb):PS X (.While c body [] pos) (vZ tc tb):=by
 intro pins s σ H D I h
 obtain ⟨W,⟨m0,w0⟩,turn⟩:=h
 refine wpAny_While (codeAny_whileLoop (fun n s'=>∃ σ' H',Inv X pins σ' H' s'∧W n σ' H') ?_ m0 ⟨σ,H,I,w0⟩)
 rintro n s1 ⟨σ1,H1,I1,w1⟩
 refine wpAny_passesOwn hp (cS (hc pins s1 σ1 H1 _ I1 (turn n σ1 H1 w1)) fun b s2 ⟨H2,I2,q2⟩=>?_)
 cases b with
 | true=>
  obtain ⟨N,hN,q2⟩:=q2
  rw [if_pos rfl]
  refine wpAny_passesOwn hp (cS (hb pins s2 σ1 H2 _ I2 q2) fun f s3 q3=>?_)
  cases f with
  | next=>
   obtain ⟨σ3,H3,I3,n3⟩:=q3
   obtain ⟨m',hm,w3⟩:=hN σ3 H3 n3
   exact ⟨m',hm,σ3,H3,I3,w3⟩
  | cont=>
   obtain ⟨σ3,H3,I3,n3⟩:=q3
   obtain ⟨m',hm,w3⟩:=hN σ3 H3 n3
   exact ⟨m',hm,σ3,H3,I3,w3⟩
  | brk=>exact q3
  | ret v=>exact q3
 | false=>
  rw [if_neg Bool.false_ne_true]
  exact wpAny_execs_nil ⟨σ1,H2,I2,q2⟩
end
structure It where
 go:Nat→Hp→Prop
 vG:Nat→Hp→V→Hp→Prop
 stop:Nat→Hp→Prop
def lF (X:Cx) (pins:List (Addr×Obj)) (H:Hp) (b:Addr):Prop:=
 H b = none∧b≠X.env.locals∧b∉X.fs∧(b∈X.ex∨X.s₀.heap.objs.size≤b)∧(∀ x c,X.env.cells.lookup x = some c→c≠b)∧∀ p∈X.pn ++ pins,p.1≠b
theorem Inv.vm {X:Cx} {pins:List (Addr×Obj)} {σ : St} {H H':Hp} {s:Shared} {b:Addr} (I:Inv X pins σ H s) (hb:s.heap.objs.size≤b) (hn:H' b = none):lF X pins H' b:=by
 refine ⟨hn,Nat.ne_of_gt (Nat.lt_of_lt_of_le I.lt hb),I.Jw hb,.inr (Nat.le_trans I.sz hb),fun x c e z=>?_,fun p hp z=>?_⟩
 ·obtain ⟨v,q⟩:=I.cell x c e
  exact absurd (Nat.lt_of_lt_of_le q.lt (by rw [z]; exact hb)) (Nat.lt_irrefl _)
 ·exact absurd (Nat.lt_of_lt_of_le (Heap.lt_size (I.pin p hp).1) (by rw [z]; exact hb)) (Nat.lt_irrefl _)
structure Turn (P:Program) (w:World) (K:PySem.W.Frag) (tg:Expr) (J:It) (fp:List Addr) (it:Addr) (tn:Nat→Heap→Prop):Prop where
 mem:it∈fp
 obj:∀ i h,tn i h→∀ b∈fp,∃ o,h.get? b = some o∧∀ v,o.data≠.cell v
 keep:∀ i h h',tn i h→(∀ b∈fp,∀ o,h.get? b = some o→h'.get? b = some o)→tn i h'
 item:∀ (X:Cx),X.prog = P→X.w = w→X.K = K→X.calm = true→∀ (i:Nat) (pins:List (Addr×Obj)) (s:Shared) (σ : St) (H:Hp) (E:Value→Shared→Prop),Inv X pins σ H s→(∀ b∈fp,lF X pins H b)→tn i s.heap→J.go i H→
  wpAny (model P w) X.A (pyNext (.ref it)) (fun r s1=>∃ u,r = some u∧
   wpAny (model P w) X.A (letOwnedTupleGo tg (.ref it) u) (fun _ s2=>∃ x H',Inv X pins σ H' s2∧RelV x u∧J.vG i H x H'∧tn (i + 1) s2.heap∧∀ b∈fp,H' b = none) E s1) E s
 done:∀ (X:Cx),X.prog = P→X.w = w→X.K = K→X.calm = true→∀ (i:Nat) (pins:List (Addr×Obj)) (s:Shared) (σ : St) (H:Hp) (E:Value→Shared→Prop),Inv X pins σ H s→(∀ b∈fp,lF X pins H b)→tn i s.heap→J.stop i H→
  wpAny (model P w) X.A (pyNext (.ref it)) (fun r s1=>r = none∧Inv X pins σ H s1) E s
 self:∀ (A:Around) (i:Nat) (s:Shared) (Q:Value→Shared→Prop) (E:Value→Shared→Prop),tn i s.heap→Q (.ref it) s→wpAny (model P w) A (pyIter (.ref it)) Q E s
abbrev TI:=St→Hp→(It→Hp→Prop)→Prop
def ON (X:Cx) (pins:List (Addr×Obj)) (σ : St) (tg:Expr) (R:It→Hp→Prop) (J1:Value) (s2:Shared):Prop:=
 ∃ (it:Addr) (fp:List Addr) (tn:Nat→Heap→Prop) (J:It) (H':Hp),J1 = .ref it∧Inv X pins σ H' s2∧Turn X.prog X.w X.K tg J fp it tn∧tn 0 s2.heap∧(∀ b∈fp,lF X pins H' b)∧R J H'
def PI (X:Cx) (tg iter:Expr) (wi:TI):Prop:=
 ∀ (pins:List (Addr×Obj)) (s:Shared) (σ : St) (H:Hp) (R:It→Hp→Prop),Inv X pins σ H s→wi σ H R→
  wpAny (model X.prog X.w) X.A (eval iter X.env) (fun v s1=>wpAny (model X.prog X.w) X.A (pyIter v) (ON X pins σ tg R) X.xe s1) X.xe s
theorem Bi {M:Model} {A:Around} {E:Value→Shared→Prop} {s:Shared} {tg:Expr} {it:Addr} {u:Value} {o:Obj} {n:String} {vs:Array Value} {Q:Unit→Shared→Prop} (ho:s.heap.get? it = some o) (hc:o.cls = .type n) (hd:o.data = .fields vs)
  (hn:["enumerate", "zip", "dict_itemiterator", "dict_reverseitemiterator", "odict_iterator", "itertools.zip_longest", "itertools.pairwise"].contains n = false) (hQ:Q () s):wpAny M A (letOwnedTupleGo tg (.ref it) u) Q E s:=by
 unfold letOwnedTupleGo
 cases tg <;> first
  | exact wpAny_pure hQ
  | (cases u <;> first
    | exact wpAny_pure hQ
    | (
       refine wpAny_bind (wpAny_load ho ?_)
       rw [hc,hd]
       show wpAny M A (if (["enumerate", "zip", "dict_itemiterator", "dict_reverseitemiterator", "odict_iterator", "itertools.zip_longest", "itertools.pairwise"].contains n && vs[0]? == some (rawInt _)) = true then _ else _) Q E s
       rw [if_neg (by intro h; rw [hn,Bool.false_and] at h; cases h)]
       exact wpAny_pure hQ))
def Bv (K:PySem.W.Frag) (a:Addr):It:=
 ⟨fun i H=>∃ xs x,ay K H a xs∧xs[i]? = some x,fun i H x H'=>H' = H∧∀ xs,ay K H a xs→xs[i]? = some x,fun i H=>∃ xs,ay K H a xs∧xs.length≤i⟩
def TY (K:PySem.W.Frag) (a:Addr):It:=
 ⟨fun i H=>∃ xs x,SqT K H a xs∧xs[i]? = some x,fun i H x H'=>H' = H∧∀ xs,SqT K H a xs→xs[i]? = some x,fun i H=>∃ xs,SqT K H a xs∧xs.length≤i⟩
def yR (lo:Int) (n:Nat):It:=⟨fun i _=>i < n,fun i H x H'=>H' = H∧x = .int (lo + i),fun i _=>n≤i⟩
theorem uJ {P:Program} {w:World} {K:PySem.W.Frag} {tg:Expr} (a it:Addr):Turn P w K tg (Bv K a) [it] it (fun i h=>h.IsListIter it a i) where
 mem:=by simp
 obj:=fun i h st b hb=>by
  have e:b = it:=by simpa using hb
  subst e
  obtain ⟨o,e,c,d⟩:=st
  exact ⟨o,e,fun v z=>by rw [d] at z; cases z⟩
 keep:=fun i h h' st k=>st.at fun o e=>k it (by simp) o e
 item:=by
  intro X hP hw hK hc i pins s σ H E I hf st hg
  subst hP hw hK
  obtain ⟨xs,x,hq,hx⟩:=hg
  obtain ⟨aO,rv,p,hz⟩:=I.list hq
  obtain ⟨u,hu,ru⟩:=rv.get hx
  obtain ⟨f0,f1,f2,f3,f4,f5⟩:=hf it (by simp)
  refine wpAny_pyNext_list_item st p.isList (x:=u) (by simpa using hu) fun h' uN sb=>?_
  have I1:Inv X pins σ H { s with heap:=h' }:=I.turned (t':=s.toks) (fun b o hb e=>(sb.2 b hb).trans e) f0 f1 f3 f4 f5
  obtain ⟨o,e,c,d⟩:=id uN
  exact ⟨u,rfl,Bi (s:={ s with heap:=h' }) e c d (by decide) ⟨x,H,I1,ru,⟨rfl,fun ys hy=>by rw [I.iq hy hq]; exact hx⟩,uN,fun b hb=>(hf b hb).1⟩⟩
 done:=by
  intro X hP hw hK hc i pins s σ H E I hf st hg
  subst hP hw hK
  obtain ⟨xs,hq,hx⟩:=hg
  obtain ⟨aO,rv,p,hz⟩:=I.list hq
  obtain ⟨f0,f1,f2,f3,f4,f5⟩:=hf it (by simp)
  have hl:=rv.length
  exact wpAny_pyNext_list_end (I.ok.hd hc) st p.isList (by simp; omega) fun h' eb=>⟨rfl,I.turned (t':=s.toks) (fun b o hb e=>eb b o hb e) f0 f1 f3 f4 f5⟩
 self:=fun _ _ _ _ _ st h=>wpAny_pyIter_listiter st h
theorem q5 {P:Program} {w:World} {K:PySem.W.Frag} {tg:Expr} (it:Addr) (lo:Int) (n:Nat):Turn P w K tg (yR lo n) [it] it (fun i h=>IsRangeIter h it (lo + (i:Nat) * 1) ((n:Int) - (i:Nat)) 1) where
 mem:=by simp
 obj:=fun i h st b hb=>by
  have e:b = it:=by simpa using hb
  subst e
  exact ⟨_,st,fun v z=>by
   have z':Data.fields _ = Data.cell v:=z
   cases z'⟩
 keep:=fun i h h' st k=>k it (by simp) _ st
 item:=by
  intro X hP hw hK hc i pins s σ H E I hf st hg
  subst hP hw hK
  obtain ⟨f0,f1,f2,f3,f4,f5⟩:=hf it (by simp)
  have W:=Walks.range (prog:=X.prog) (w:=X.w) (I.ok.hd hc) it lo 1 n
  refine W.item i s _ _ hg st fun v h' tk hv uN kk=>?_
  obtain ⟨t,rfl⟩:=hv
  have I1:Inv X pins σ H { s with heap:=h',toks:=tk }:=I.turned (fun b o hb e=>kk b o (by simpa using hb) e) f0 f1 f3 f4 f5
  refine ⟨_,rfl,Bi (s:={ s with heap:=h',toks:=tk }) (n:= "range_iterator") uN rfl rfl (by decide) ⟨.int (lo + i),H,I1,⟨t,?_⟩,⟨rfl,rfl⟩,uN,fun b hb=>(hf b hb).1⟩⟩
  rw [Int.mul_one]
 done:=by
  intro X hP hw hK hc i pins s σ H E I hf st hg
  subst hP hw hK
  obtain ⟨f0,f1,f2,f3,f4,f5⟩:=hf it (by simp)
  exact wpAny_pyNext_range_end (I.ok.hd hc) st (by have:n≤i:=hg; omega) fun h' eb=>⟨rfl,I.turned (t':=s.toks) (fun b o hb e=>eb b o hb e) f0 f1 f3 f4 f5⟩
 self:=fun _ _ _ _ _ st h=>wpAny_pyIter_rangeiter st h
end L2
namespace L2
open PySem PySem.Spec PyProof.Rows
section
variable {X:Cx} {tg:Expr}
def qg (K:PySem.W.Frag) (tl:TE):TI:=fun σ H R=>tl σ H fun x H1=>∃ a,x = .ref a∧(∃ xs,ay K H1 a xs)∧R (Bv K a) H1
def Rx (K:PySem.W.Frag) (tl:TE):TI:=fun σ H R=>tl σ H fun x H1=>∃ a,x = .ref a∧(∃ xs,SqT K H1 a xs)∧R (TY K a) H1
theorem bK {l:Expr} {tl:TE} (hl:PE X l tl):PI X tg l (qg X.K tl):=by
 intro pins s σ H R I h
 refine cS (hl pins s σ H _ I h) fun v s1 ⟨x,H1,I1,r1,q1⟩=>?_
 obtain ⟨a,e,⟨xs,hq⟩,q⟩:=q1
 subst e
 cases r1
 obtain ⟨aO,rv,p,hz⟩:=I1.list hq
 refine wpAny_pyIter_list p.isList ?_
 refine ⟨s1.heap.objs.size,[s1.heap.objs.size],_,_,H1,rfl,I1.kept (t':=s1.toks) fun b o e=>Heap.get?_push_of_some _ e,uJ a _,⟨_,Heap.get?_push_size _ rfl,rfl,rfl⟩,fun b hb=>?_,q⟩
 have e:b = s1.heap.objs.size:=by simpa using hb
 subst e
 exact I1.vm (Nat.le_refl _) (I1.bA.fresh (Nat.le_refl _))
theorem wB {pins:List (Addr×Obj)} {σ : St} {H:Hp} {s:Shared} {R:It→Hp→Prop} {E:Value→Shared→Prop} {lo hi:Int} {t u v:Tok} {tk:Nat} (I:Inv X pins σ H s) (h1 : -(2 ^ 62)≤lo) (h2:lo < 2 ^ 62) (h3 : -(2 ^ 62)≤hi) (h4:hi < 2 ^ 62)
  (q:R (yR lo (hi - lo).toNat) H):wpAny (model X.prog X.w) X.A (pyIter (.ref s.heap.objs.size)) (ON X pins σ tg R) E { s with heap:=s.heap.push { cls:=.type "range",data:=.fields #[.int lo t,.int hi u,.int 1 v] },toks:=tk }:=by
 refine wpAny_pyIter_range (IsRange.new ..) (small_one h1 h2 h3 h4) ?_
 have I1:Inv X pins σ H { s with heap:=s.heap.push { cls:=.type "range",data:=.fields #[.int lo t,.int hi u,.int 1 v] },toks:=tk }:=I.kept fun b o e=>Heap.get?_push_of_some _ e
 refine ⟨(s.heap.push { cls:=.type "range",data:=.fields #[.int lo t,.int hi u,.int 1 v] }).objs.size,[(s.heap.push { cls:=.type "range",data:=.fields #[.int lo t,.int hi u,.int 1 v] }).objs.size],_,_,H,rfl,
  I1.kept (t':=tk) fun b o e=>Heap.get?_push_of_some _ e,q5 _ lo (hi - lo).toNat,?_,fun b hb=>?_,q⟩
 ·have e1:lo + ((0:Nat):Int) * 1 = lo:=by simp
  have e2:(((hi - lo).toNat:Nat):Int) - ((0:Nat):Int) = Builtin.Range.rangeSize lo hi 1:=by rw [rangeSize_one]; split <;> omega
  show IsRangeIter _ _ (lo + ((0:Nat):Int) * 1) ((((hi - lo).toNat:Nat):Int) - ((0:Nat):Int)) 1
  rw [e1,e2]
  exact Heap.get?_push_size _ rfl
 ·have e:b = (s.heap.push { cls:=.type "range",data:=.fields #[.int lo t,.int hi u,.int 1 v] }).objs.size:=by simpa using hb
  subst e
  exact I1.vm (Nat.le_refl _) (I1.bA.fresh (Nat.le_refl _))
def EH (ta:TA):TI:=fun σ H R=>ta σ H fun vs H1=>∃ j:Int,vs = [.int j]∧-(2 ^ 62)≤j∧j < 2 ^ 62∧R (yR 0 j.toNat) H1
def NF (ta:TA):TI:=fun σ H R=>ta σ H fun vs H1=>∃ i j:Int,vs = [.int i,.int j]∧(-(2 ^ 62)≤i∧i < 2 ^ 62∧-(2 ^ 62)≤j∧j < 2 ^ 62)∧R (yR i (j - i).toNat) H1
theorem bV {a:Expr} {ta:TA} {p pos:Pos} (hg:Gl X "range") (hm:X.mg "range" = none) (ha:PA X [a] ta) (hs:starEach [a] X.env = [(false,eval a X.env)]:=by rfl):PI X tg (.Call (.Name "range" p) [a] [] pos) (EH ta):=by
 intro pins s σ H R I h
 refine Call_ (dU I hg hm boot_range (PyProof.Rows.callWith_type1 (cS (ha pos pins s σ H _ I h) fun us s1 ⟨vs,H1,I1,r1,q1⟩=>?_) hs rfl))
 obtain ⟨j,e,q1,q2,q⟩:=q1
 subst e
 cases r1 with
 | cons r rr=>
  cases rr
  obtain ⟨t,rfl⟩:=r
  exact call_range_1 (wB I1 (by omega) (by omega) q1 q2 (by simpa using q))
def BE (wi:TI) (g:TG) (tb:TS):TS:=fun D σ H=>wi σ H fun J H1=>∃ W:Nat→Nat→St→Hp→Prop,(∃ m,W 0 m σ H1)∧∀ i m σ H,W i m σ H→
 (J.stop i H∧D.nx σ H)∨(J.go i H∧∃ N:St→Hp→Prop,(∀ σ' H',N σ' H'→∃ m',m' < m∧W (i + 1) m' σ' H')∧∀ x H',J.vG i H x H'→g x σ H' fun σ2 H2=>tb { D with nx:=N,ct:=N,bk:=D.nx } σ2 H2)
def ka (fp:List Addr) (h:Heap):List (Addr×Obj):=fp.filterMap fun b=>(h.get? b).map fun o=>(b,o)
theorem fJ {fp:List Addr} {h:Heap} {b:Addr} {o:Obj} (hb:b∈fp) (e:h.get? b = some o):(b,o)∈ka fp h:=List.mem_filterMap.mpr ⟨b,hb,by rw [e]; rfl⟩
theorem uZ {fp:List Addr} {h:Heap} {p:Addr×Obj} (hp:p∈ka fp h):p.1∈fp∧h.get? p.1 = some p.2:=by
 obtain ⟨b,hb,e⟩:=List.mem_filterMap.mp hp
 cases q:h.get? b with
 | none=>rw [q] at e; cases e
 | some o=>
  rw [q] at e
  have e':(b,o) = p:=Option.some.inj e
  subst e'
  exact ⟨hb,q⟩
theorem Inv.pinned {pins:List (Addr×Obj)} {σ : St} {H:Hp} {s:Shared} {fp:List Addr} (I:Inv X pins σ H s) (hf:∀ b∈fp,lF X pins H b) (ho:∀ b∈fp,∃ o,s.heap.get? b = some o∧∀ v,o.data≠.cell v):Inv X (pins ++ ka fp s.heap) σ H s:=
 I.nZ fun p hp=>(List.mem_append.mp hp).elim (fun z=>I.pin p (List.mem_append_right _ z)) fun z=>by
  obtain ⟨hb,e⟩:=uZ z
  obtain ⟨f0,f1,f2,_⟩:=hf p.1 hb
  obtain ⟨o,e',d⟩:=ho p.1 hb
  rw [e] at e'; cases e'
  exact ⟨e,f0,f1,f2,d⟩
theorem Inv.hU {pins pl:List (Addr×Obj)} {σ : St} {H:Hp} {s:Shared} (I:Inv X (pins ++ pl) σ H s):Inv X pins σ H s:=I.nZ fun p hp=>I.pin p (List.mem_append_right _ (List.mem_append_left _ hp))
theorem b9 {iter:Expr} {body:List Stmt} {wi:TI} {g:TG} {tb:TS} {pos:Pos} (hp:PassesOwn (model X.prog X.w) X.A X.env X.xe) (hc:X.calm = true) (hi:PI X tg iter wi) (hg:PG X tg g) (hb:qK X body tb)
  (hs:∀ x,foldedSetIterable iter X.env x = pure x:=by intro _; rfl):PS X (.For tg iter body [] pos) (BE wi g tb):=by
 intro pins s σ H D I h
 refine wpAny_For (cS (hi pins s σ H _ I h) fun v s1 h1=>cS h1 fun J1 s2 h2=>?_) hs
 obtain ⟨it,fp,tn,J,H2,e,I2,T,Di,f2,W,⟨m0,w0⟩,turn⟩:=h2
 subst e
 -- Hi stays true of vX iterator's objects through vX loop
 have BG:∀ {H':Hp},(∀ b∈fp,H' b = none)→∀ b∈fp,lF X pins H' b:=fun hn b hb=>⟨hn b hb,(f2 b hb).2⟩
 refine codeAny_forLoop_any (fun n s'=>∃ i σ' H',Inv X pins σ' H' s'∧tn i s'.heap∧(∀ b∈fp,H' b = none)∧W i n σ' H') ?_ m0 ⟨0,σ,H2,I2,Di,fun b hb=>(f2 b hb).1,w0⟩
 rintro n s3 ⟨i,σ3,H3,I3,MO,vO,w3⟩
 rcases turn i n σ3 H3 w3 with ⟨stop,qn⟩ | ⟨go,N,hN,step⟩
 ·refine wpAny_passesOwn hp (cS (T.done X rfl rfl rfl hc i pins s3 σ3 H3 X.xe I3 (BG vO) MO stop) fun r s4 ⟨hr,I4⟩=>?_)
  subst hr
  exact wpAny_execs_nil ⟨σ3,H3,I4,qn⟩
 ·refine wpAny_passesOwn hp (cS (T.item X rfl rfl rfl hc i pins s3 σ3 H3 X.xe I3 (BG vO) MO go) fun r s4 ⟨u,hr,h4⟩=>?_)
  subst hr
  refine wpAny_passesOwn hp (cS h4 fun _ s5 ⟨x,H5,I5,r5,y5,HF,Ff⟩=>?_)
  have T4:=I5.pinned (BG Ff) (T.obj _ _ HF)
  refine wpAny_passesOwn hp (cS (hg _ s5 σ3 H5 x u _ T4 r5 (step x H5 y5)) fun _ s6 ⟨σ6,H6,I6,q6⟩=>?_)
  refine wpAny_passesOwn hp (cS (hb _ s6 σ6 H6 _ I6 q6) fun f s7 q7=>?_)
  have again:∀ {σ7:St} {H7:Hp},Inv X (pins ++ ka fp s5.heap) σ7 H7 s7→N σ7 H7→∃ m,m < n∧∃ i σ' H',Inv X pins σ' H' s7∧tn i s7.heap∧(∀ b∈fp,H' b = none)∧W i m σ' H':=fun {σ7 H7} I7 n7=>by
   obtain ⟨m',hm,w7⟩:=hN σ7 H7 n7
   refine ⟨m',hm,i + 1,σ7,H7,I7.hU,T.keep _ _ _ HF fun b hb o e=>(I7.pin (b,o) (List.mem_append_right _ (List.mem_append_right _ (fJ hb e)))).1,fun b hb=>?_,w7⟩
   obtain ⟨o,e,d⟩:=T.obj _ _ HF b hb
   exact (I7.pin (b,o) (List.mem_append_right _ (List.mem_append_right _ (fJ hb e)))).2.1
  cases f with
  | next=>obtain ⟨σ7,H7,I7,n7⟩:=q7; exact again I7 n7
  | cont=>obtain ⟨σ7,H7,I7,n7⟩:=q7; exact again I7 n7
  | brk=>obtain ⟨σ7,H7,I7,q7⟩:=q7; exact ⟨σ7,H7,I7.hU,q7⟩
  | ret v=>obtain ⟨x7,σ7,H7,I7,r7,q7⟩:=q7; exact ⟨x7,σ7,H7,I7.hU,r7,q7⟩
end
theorem du {K:PySem.W.Frag} {a:Addr} {xs:List V} {g:TG} {tb:TS} {D:Ends} {σ : St} {H:Hp} (Pv:Nat→St→Hp→Prop) (h0:Pv 0 σ H) (hl:∀ i σ H,i≤xs.length→Pv i σ H→ay K H a xs)
  (hs:∀ i x σ H,xs[i]? = some x→Pv i σ H→g x σ H fun σ2 H2=>tb { D with nx:=Pv (i + 1),ct:=Pv (i + 1),bk:=D.nx } σ2 H2) (hd:∀ σ H,Pv xs.length σ H→D.nx σ H) :
  ∃ W:Nat→Nat→St→Hp→Prop,(∃ m,W 0 m σ H)∧∀ i m σ H,W i m σ H→
   ((Bv K a).stop i H∧D.nx σ H)∨((Bv K a).go i H∧∃ N:St→Hp→Prop,(∀ σ' H',N σ' H'→∃ m',m' < m∧W (i + 1) m' σ' H')∧∀ x H',(Bv K a).vG i H x H'→g x σ H' fun σ2 H2=>tb { D with nx:=N,ct:=N,bk:=D.nx } σ2 H2):=by
 refine ⟨fun i m σ H=>m = xs.length - i∧i≤xs.length∧Pv i σ H,⟨xs.length,by simp,Nat.zero_le _,h0⟩,?_⟩
 rintro i m σ H ⟨rfl,hi,p⟩
 have q:=hl i σ H hi p
 by_cases eV:i < xs.length
 ·refine .inr ⟨⟨xs,xs[i],q,by simp [eV]⟩,Pv (i + 1),fun σ' H' p'=>⟨xs.length - (i + 1),by omega,rfl,eV,p'⟩,fun x H' y=>?_⟩
  obtain ⟨e,y⟩:=y
  subst e
  exact hs i x σ _ (y xs q) p
 ·have e:i = xs.length:=by omega
  subst e
  exact .inl ⟨⟨xs,q,Nat.le_refl _⟩,hd σ H p⟩
theorem dc {lo:Int} {n:Nat} {g:TG} {tb:TS} {D:Ends} {σ : St} {H:Hp} (Pv:Nat→St→Hp→Prop) (h0:Pv 0 σ H)
  (hs:∀ i σ H,i < n→Pv i σ H→g (.int (lo + i)) σ H fun σ2 H2=>tb { D with nx:=Pv (i + 1),ct:=Pv (i + 1),bk:=D.nx } σ2 H2) (hd:∀ σ H,Pv n σ H→D.nx σ H) :
  ∃ W:Nat→Nat→St→Hp→Prop,(∃ m,W 0 m σ H)∧∀ i m σ H,W i m σ H→
   ((yR lo n).stop i H∧D.nx σ H)∨((yR lo n).go i H∧∃ N:St→Hp→Prop,(∀ σ' H',N σ' H'→∃ m',m' < m∧W (i + 1) m' σ' H')∧∀ x H',(yR lo n).vG i H x H'→g x σ H' fun σ2 H2=>tb { D with nx:=N,ct:=N,bk:=D.nx } σ2 H2):=by
 refine ⟨fun i m σ H=>m = n - i∧i≤n∧Pv i σ H,⟨n,by simp,Nat.zero_le _,h0⟩,?_⟩
 rintro i m σ H ⟨rfl,hi,p⟩
 by_cases eV:i < n
 ·refine .inr ⟨eV,Pv (i + 1),fun σ' H' p'=>⟨n - (i + 1),by omega,rfl,eV,p'⟩,fun x H' y=>?_⟩
  obtain ⟨e,y⟩:=y
  subst e y
  exact hs i σ _ eV p
 ·have e:i = n:=by omega
  subst e
  exact .inl ⟨Nat.le_refl _,hd σ H p⟩
end L2
namespace L2
open PySem PySem.Spec PyProof.Rows
abbrev R2:=V→V→Hp→VK→Prop
def lA (X:Cx) (f:Value→Value→Sem Value) (r:R2):Prop:=
 ∀ (pins:List (Addr×Obj)) (s:Shared) (σ : St) (H:Hp) (x y:V) (v u:Value) (Q:VK),Inv X pins σ H s→RelV x v→RelV y u→r x y H Q→
  wpAny (model X.prog X.w) X.A (f v u) (EP X pins σ Q) X.xe s
def Mo (X:Cx) (f:Value→Sem Value) (r:V→Hp→VK→Prop):Prop:=
 ∀ (pins:List (Addr×Obj)) (s:Shared) (σ : St) (H:Hp) (x:V) (v:Value) (Q:VK),Inv X pins σ H s→RelV x v→r x H Q→
  wpAny (model X.prog X.w) X.A (f v) (EP X pins σ Q) X.xe s
def d5 (X:Cx) (f:Value) (r:List V→Hp→VK→Prop):Prop:=
 ∀ (pins:List (Addr×Obj)) (s:Shared) (σ : St) (H:Hp) (xs:List V) (us:List Value) (Q:VK),Inv X pins σ H s→Vals xs us→r xs H Q→
  wpAny (model X.prog X.w) X.A (call f us) (EP X pins σ Q) X.xe s
def TL (X:Cx) (r:V→Hp→(Bool→Hp→Prop)→Prop):Prop:=
 ∀ (pins:List (Addr×Obj)) (s:Shared) (σ : St) (H:Hp) (x:V) (v:Value) (Q:Bool→Hp→Prop),Inv X pins σ H s→RelV x v→r x H Q→
  wpAny (model X.prog X.w) X.A (truthy v) (TP X pins σ Q) X.xe s
def DJ (r:R2) (ta tb:TE):TE:=fun σ H Q=>ta σ H fun x H1=>tb σ H1 fun y H2=>r x y H2 Q
def O3 (r:V→Hp→VK→Prop) (ta:TE):TE:=fun σ H Q=>ta σ H fun x H1=>r x H1 Q
def rI (C:Int→Int→Prop) (g:Int→Int→V):R2:=fun x y H Q=>∃ i j,x = .int i∧y = .int j∧C i j∧Q (g i j) H
def BY (g:Int→Int→V):R2:=fun x y H Q=>∃ i j,x = .int i∧y = .int j∧Q (g i j) H
def rU (g:Int→V):V→Hp→VK→Prop:=fun x H Q=>∃ i,x = .int i∧Q (g i) H
section
variable {X:Cx} {a b c:Expr} {ta tb tc:TE} {pos:Pos}
theorem Dc (ha:PE X a ta) (hb:PE X b tb) {pins:List (Addr×Obj)} {s:Shared} {σ : St} {H:Hp} {R:V→V→Hp→Prop} (I:Inv X pins σ H s)
  (h:ta σ H fun x H1=>tb σ H1 fun y H2=>R x y H2) {Q:Value→Shared→Prop} {f:Value→Value→Sem Value}
  (hf:∀ v u s2 x y H2,Inv X pins σ H2 s2→RelV x v→RelV y u→R x y H2→wpAny (model X.prog X.w) X.A (f v u) Q X.xe s2) :
  wpAny (model X.prog X.w) X.A (eval a X.env) (fun v s₁=>wpAny (model X.prog X.w) X.A (eval b X.env) (fun u s₂=>wpAny (model X.prog X.w) X.A (f v u) Q X.xe s₂) X.xe s₁) X.xe s:=by
 refine cS (ha pins s σ H _ I h) fun v s1 ⟨x,H1,I1,r1,q1⟩=>?_
 refine cS (hb pins s1 σ H1 _ I1 q1) fun u s2 ⟨y,H2,I2,r2,q2⟩=>?_
 exact hf v u s2 x y H2 I2 r1 r2 q2
theorem aA {op:Operator} {r:R2} (ho:lA X (binaryOp op) r) (ha:PE X a ta) (hb:PE X b tb):PE X (.BinOp a op b pos) (DJ r ta tb):=by
 intro pins s σ H Q I h
 exact wpAny_BinOp (Dc ha hb I h fun v u s2 x y H2 I2 rx ry q=>ho pins s2 σ H2 x y v u Q I2 rx ry q)
theorem Em {op:UnaryOp} {r:V→Hp→VK→Prop} (ho:Mo X (unaryOp op) r) (ha:PE X a ta):PE X (.UnaryOp op a pos) (O3 r ta):=by
 intro pins s σ H Q I h
 exact UnaryOp_ (cS (ha pins s σ H _ I h) fun v s1 ⟨x,H1,I1,r1,q1⟩=>ho pins s1 σ H1 x v Q I1 r1 q1)
theorem Gp {f:Value→Value→Sem Value} {C:Int→Int→Prop} {g:Int→Int→Int}
  (rule:∀ (i j:Int) (t u:Tok) (s:Shared) (Q:Value→Shared→Prop) (E:Value→Shared→Prop),C i j→Q (.int (g i j) s.toks) { s with toks:=s.toks + 1 }→wpAny (model X.prog X.w) X.A (f (.int i t) (.int j u)) Q E s) :
  lA X f (rI C fun i j=>.int (g i j)):=by
 intro pins s σ H x y v u Q I rx ry h
 obtain ⟨i,j,rfl,rfl,hc,q⟩:=h
 obtain ⟨t,rfl⟩:=rx
 obtain ⟨t',rfl⟩:=ry
 exact rule i j t t' s _ _ hc ⟨.int (g i j),H,I.tok _,⟨_,rfl⟩,q⟩
theorem En {f:Value→Value→Sem Value} {g:Int→Int→Int}
  (rule:∀ (i j:Int) (t u:Tok) (s:Shared) (Q:Value→Shared→Prop) (E:Value→Shared→Prop),Q (.int (g i j) s.toks) { s with toks:=s.toks + 1 }→wpAny (model X.prog X.w) X.A (f (.int i t) (.int j u)) Q E s) :
  lA X f (BY fun i j=>.int (g i j)):=by
 intro pins s σ H x y v u Q I rx ry h
 obtain ⟨i,j,rfl,rfl,q⟩:=h
 obtain ⟨t,rfl⟩:=rx
 obtain ⟨t',rfl⟩:=ry
 exact rule i j t t' s _ _ ⟨.int (g i j),H,I.tok _,⟨_,rfl⟩,q⟩
theorem Eo {f:Value→Value→Sem Value} {g:Int→Int→Bool}
  (rule:∀ (i j:Int) (t u:Tok) (s:Shared) (Q:Value→Shared→Prop) (E:Value→Shared→Prop),Q (.bool (g i j)) s→wpAny (model X.prog X.w) X.A (f (.int i t) (.int j u)) Q E s) :
  lA X f (BY fun i j=>.bl (g i j)):=by
 intro pins s σ H x y v u Q I rx ry h
 obtain ⟨i,j,rfl,rfl,q⟩:=h
 obtain ⟨t,rfl⟩:=rx
 obtain ⟨t',rfl⟩:=ry
 exact rule i j t t' s _ _ ⟨.bl (g i j),H,I,rfl,q⟩
def Ut (i j:Int):Prop:=0 < j∧j < 1073741824
def OQ (i j:Int):Prop:=j≠0∧j.natAbs < 1073741824
def Mv (i j:Int):Prop:=0≤j∧j≤1000000∧i.natAbs < 2 ^ 64
def Us (i j:Int):Prop:=(-(2 ^ 64) < i∧i < 2 ^ 64)∨(-(2 ^ 64) < j∧j < 2 ^ 64)
theorem cR:lA X (binaryOp .Add) (BY fun i j=>.int (i + j)):=En fun _ _ _ _ _ _ _ q=>add_int q
theorem gJ:lA X (binaryOp .Sub) (BY fun i j=>.int (i - j)):=En fun _ _ _ _ _ _ _ q=>sub_int q
theorem bw:lA X (binaryOp .Mod) (rI (fun _ j=>0 < j) fun i j=>.int (i % j)):=Gp fun i j _ _ _ _ _ hc q=>by
 have h1:(0:Int) < j:=hc
 exact mod_int' (by omega) (by rw [Int.fmod_eq_emod_of_nonneg i (by omega)]; exact q)
theorem rR:lA X (binaryOp .Pow) (rI Mv fun i j=>.int (i ^ j.toNat)):=Gp fun _ _ _ _ _ _ _ hc q=>pow_int_small hc.1 hc.2.1 hc.2.2 q
theorem OX {f:Value→Sem Value} {g:Int→Int}
  (rule:∀ (i:Int) (t:Tok) (s:Shared) (Q:Value→Shared→Prop) (E:Value→Shared→Prop),Q (.int (g i) s.toks) { s with toks:=s.toks + 1 }→wpAny (model X.prog X.w) X.A (f (.int i t)) Q E s) :
  Mo X f (rU fun i=>.int (g i)):=by
 intro pins s σ H x v Q I rx h
 obtain ⟨i,rfl,q⟩:=h
 obtain ⟨t,rfl⟩:=rx
 exact rule i t s _ _ ⟨.int (g i),H,I.tok _,⟨_,rfl⟩,q⟩
theorem BA:Mo X (unaryOp .USub) (rU fun i=>.int (-i)):=OX fun _ _ _ _ _ q=>neg_int q
end
def DT:V→V→Bool
 | .cX,.cX=>true | .cX,.int _=>true | .int _,.cX=>true | .cX,.bl _=>true | .bl _,.cX=>true | .cX,.str _=>true | .str _,.cX=>true
 | .int _,.int _=>true | .bl _,.bl _=>true | .str _,.str _=>true | .uz _,.uz _=>true
 | .int _,.str _=>true | .str _,.int _=>true | .bl _,.str _=>true | .str _,.bl _=>true
 | _,_=>false
def M4:R2:=fun x y H Q=>DT x y = true∧Q (.bl (decide (x = y))) H
def M3:R2:=fun x y H Q=>DT x y = true∧Q (.bl (!decide (x = y))) H
theorem jL {i j:Int}:decide (V.int i = V.int j) = (i == j):=by
 rw [Bool.eq_iff_iff]
 simp
theorem yj {i j:Bool}:decide (V.bl i = V.bl j) = (i == j):=by
 rw [Bool.eq_iff_iff]
 simp
theorem ur {i j:Str}:decide (V.str i = V.str j) = (i == j):=by
 rw [Bool.eq_iff_iff]
 simp
theorem uu {i j:Array UInt8}:decide (V.uz i = V.uz j) = (i.toList == j.toList):=by
 rw [Bool.eq_iff_iff]
 cases i
 cases j
 simp
section
variable {X:Cx} {a b c:Expr} {ta tb tc:TE} {pos:Pos}
theorem aX {pins:List (Addr×Obj)} {σ : St} {H:Hp} {s:Shared} {Q:VK} {k k':Bool} (I:Inv X pins σ H s) (q:Q (.bl k) H) (e:k = k'):EP X pins σ Q (.bool k') s:=by
 subst e
 exact ⟨.bl k,H,I,rfl,q⟩
theorem gE:lA X (compareOp .Eq) M4:=by
 intro pins s σ H x y v u Q I rx ry h
 obtain ⟨hs,q⟩:=h
 cases x with
 | cX=>
  cases rx
  cases y with
  | cX=>cases ry; exact PySem.EqNone.eq_none_none (aX I q (by simp))
  | bl j=>cases ry; exact PySem.EqNone.eq_none_bool (aX I q (by simp))
  | int j=>obtain ⟨t',rfl⟩:=ry; exact PySem.EqNone.eq_none_int (aX I q (by simp))
  | str j=>obtain ⟨t',rfl⟩:=ry; exact PySem.EqNone.eq_none_str (aX I q (by simp))
  | _=>exact absurd (show false = true from hs) Bool.false_ne_true
 | bl i=>
  cases rx
  cases y with
  | cX=>cases ry; exact PySem.EqNone.eq_bool_none (aX I q (by simp))
  | bl j=>cases ry; exact eq_bool (aX I q yj)
  | str j=>obtain ⟨t',rfl⟩:=ry; exact PySem.EqMixed.eq_bool_str (aX I q (by simp))
  | _=>exact absurd (show false = true from hs) Bool.false_ne_true
 | int i=>
  obtain ⟨t,rfl⟩:=rx
  cases y with
  | cX=>cases ry; exact PySem.EqNone.eq_int_none (aX I q (by simp))
  | int j=>obtain ⟨t',rfl⟩:=ry; exact eq_int (aX I q jL)
  | str j=>obtain ⟨t',rfl⟩:=ry; exact PySem.EqMixed.eq_int_str (aX I q (by simp))
  | _=>exact absurd (show false = true from hs) Bool.false_ne_true
 | str i=>
  obtain ⟨t,rfl⟩:=rx
  cases y with
  | cX=>cases ry; exact PySem.EqNone.eq_str_none (aX I q (by simp))
  | bl j=>cases ry; exact PySem.EqMixed.eq_str_bool (aX I q (by simp))
  | int j=>obtain ⟨t',rfl⟩:=ry; exact PySem.EqMixed.eq_str_int (aX I q (by simp))
  | str j=>obtain ⟨t',rfl⟩:=ry; exact eq_str (aX I q ur)
  | _=>exact absurd (show false = true from hs) Bool.false_ne_true
 | uz i=>
  obtain ⟨t,rfl⟩:=rx
  cases y with
  | uz j=>obtain ⟨t',rfl⟩:=ry; exact PySem.W.eq_bytes (aX I q uu)
  | _=>exact absurd (show false = true from hs) Bool.false_ne_true
 | _=>cases y <;> exact absurd (show false = true from hs) Bool.false_ne_true
theorem mQ:lA X (compareOp .NotEq) M3:=by
 intro pins s σ H x y v u Q I rx ry h
 obtain ⟨hs,q⟩:=h
 cases x with
 | cX=>
  cases rx
  cases y with
  | cX=>cases ry; exact PySem.EqNone.ne_none_none (aX I q (by simp))
  | bl j=>cases ry; exact PySem.EqNone.ne_none_bool (aX I q (by simp))
  | int j=>obtain ⟨t',rfl⟩:=ry; exact PySem.EqNone.ne_none_int (aX I q (by simp))
  | str j=>obtain ⟨t',rfl⟩:=ry; exact PySem.EqNone.ne_none_str (aX I q (by simp))
  | _=>exact absurd (show false = true from hs) Bool.false_ne_true
 | bl i=>
  cases rx
  cases y with
  | cX=>cases ry; exact PySem.EqNone.ne_bool_none (aX I q (by simp))
  | bl j=>cases ry; exact ne_bool (aX I q (congrArg not yj))
  | str j=>obtain ⟨t',rfl⟩:=ry; exact PySem.EqMixed.ne_bool_str (aX I q (by simp))
  | _=>exact absurd (show false = true from hs) Bool.false_ne_true
 | int i=>
  obtain ⟨t,rfl⟩:=rx
  cases y with
  | cX=>cases ry; exact PySem.EqNone.ne_int_none (aX I q (by simp))
  | int j=>obtain ⟨t',rfl⟩:=ry; exact ne_int (aX I q (congrArg not jL))
  | str j=>obtain ⟨t',rfl⟩:=ry; exact PySem.EqMixed.ne_int_str (aX I q (by simp))
  | _=>exact absurd (show false = true from hs) Bool.false_ne_true
 | str i=>
  obtain ⟨t,rfl⟩:=rx
  cases y with
  | cX=>cases ry; exact PySem.EqNone.ne_str_none (aX I q (by simp))
  | bl j=>cases ry; exact PySem.EqMixed.ne_str_bool (aX I q (by simp))
  | int j=>obtain ⟨t',rfl⟩:=ry; exact PySem.EqMixed.ne_str_int (aX I q (by simp))
  | str j=>obtain ⟨t',rfl⟩:=ry; exact ne_str (aX I q (congrArg not ur))
  | _=>exact absurd (show false = true from hs) Bool.false_ne_true
 | uz i=>
  obtain ⟨t,rfl⟩:=rx
  cases y with
  | uz j=>obtain ⟨t',rfl⟩:=ry; exact PySem.W.ne_bytes (aX I q (congrArg not uu))
  | _=>exact absurd (show false = true from hs) Bool.false_ne_true
 | _=>cases y <;> exact absurd (show false = true from hs) Bool.false_ne_true
theorem xl:lA X (compareOp .Lt) (BY fun i j=>.bl (decide (i < j))):=Eo fun _ _ _ _ _ _ _ q=>lt_int q
theorem xo:lA X (compareOp .Gt) (BY fun i j=>.bl (decide (j < i))):=Eo fun _ _ _ _ _ _ _ q=>gt_int q
def isObj:HO→Bool
 | .lst _=>true
 | .ins _ _ _=>true
 | _=>false
theorem aW (b:Expr) {op:CmpOp} (h:op≠.In:=by decide) (h2:op≠.NotIn:=by decide):behindInMarks op b = false:=by
 have e1:(op == CmpOp.In) = false:=by cases op <;> first | rfl | exact absurd rfl h
 have e2:(op == CmpOp.NotIn) = false:=by cases op <;> first | rfl | exact absurd rfl h2
 cases b <;> simp [behindInMarks,e1,e2]
theorem oj {op:CmpOp} {r:R2} (ho:lA X (compareOp op) r) (ha:PE X a ta) (hb:PE X b tb) (hm:behindInMarks op b = false):PE X (.Compare a [op] [b] pos) (DJ r ta tb):=by
 intro pins s σ H Q I h
 exact wpAny_Compare1 (Dc ha hb I h fun v u s2 x y H2 I2 rx ry q=>ho pins s2 σ H2 x y v u Q I2 rx ry q) hm
def AN (t:TE):TT:=fun σ H Q=>t σ H fun x H'=>∃ k,x = .bl k∧Q k H'
theorem aK {op:CmpOp} {r:R2} (ho:lA X (compareOp op) r) (ha:PE X a ta) (hb:PE X b tb) (hm:behindInMarks op b = false):PT X (.Compare a [op] [b] pos) (AN (DJ r ta tb)):=by
 intro pins s σ H Q I h
 refine wpAny_isTrue_Compare1 (cS (ha pins s σ H _ I h) fun v s1 ⟨x,H1,I1,r1,q1⟩=>cS (hb pins s1 σ H1 _ I1 q1) fun u s2 ⟨y,H2,I2,r2,q2⟩=>
  cS (ho pins s2 σ H2 x y v u _ I2 r1 r2 q2) fun c s3 ⟨z,H3,I3,r3,k,e,q3⟩=>?_) hm
 subst e
 cases r3
 exact wpAny_truthy_bool ⟨H3,I3,q3⟩
def HB (r r':R2) (ta tb tc:TE):TE:=fun σ H Q=>ta σ H fun x H1=>tb σ H1 fun y H2=>r x y H2 fun z H3=>∃ k,z = .bl k∧
 (if k = true then tc σ H3 fun w' H4=>r' y w' H4 Q else Q (.bl false) H3)
def TK (K:PySem.W.Frag) (x:V) (H:Hp) (k:Bool):Prop:=
 match x with
 | .cX=>k = false
 | .bl b=>k = b
 | .int i=>k = (i != 0)
 | .str y=>y.length≤sizeLine∧k = ((y.length:Int) != 0)
 | .uz y=>y.size≤sizeLine∧k = ((y.size:Int) != 0)
 | .ref p=>(∃ xs,ay K H p xs∧k = !xs.isEmpty)∨(∃ xs,SqT K H p xs∧k = !xs.isEmpty)∨∃ aI,H p = some (.dK aI)∧k = !aI.isEmpty
 | _=>False
theorem ku:(sizeLine:Nat) < 2 ^ 63:=by rw [sizeLine_eq]; decide
def FX (b:Expr):Prop:=∀ o i,subscripted b false o i = operate [o,i] (getItem o i)
theorem vals1 {x:V} {us:List Value} (r:Vals [x] us):∃ u,us = [u]∧RelV x u:=by
 cases r with
 | cons r1 r2=>cases r2; exact ⟨_,rfl,r1⟩
theorem vals2 {x y:V} {us:List Value} (r:Vals [x,y] us):∃ u w',us = [u,w']∧RelV x u∧RelV y w':=by
 cases r with
 | cons r1 r2=>
  cases r2 with
  | cons r3 r4=>cases r4; exact ⟨_,_,rfl,r1,r3⟩
theorem vy (hc:X.calm = true):d5 X (.builtin "max") (fun xs H Q=>∃ i j,xs = [.int i,.int j]∧Q (.int (if j > i then j else i)) H):=by
 intro pins s σ H xs us Q I r h
 obtain ⟨i,j,rfl,q⟩:=h
 obtain ⟨u,w',rfl,⟨t,rfl⟩,⟨t',rfl⟩⟩:=vals2 r
 refine max_two_ints (I.ok.hd hc) fun h' tk k=>⟨_,H,I.kept k,?_,q⟩
 by_cases hj:j > i
 ·rw [if_pos hj,if_pos hj]; exact ⟨_,rfl⟩
 ·rw [if_neg hj,if_neg hj]; exact ⟨_,rfl⟩
theorem nk (hc:X.calm = true):d5 X (.builtin "min") (fun xs H Q=>∃ i j,xs = [.int i,.int j]∧Q (.int (if j < i then j else i)) H):=by
 intro pins s σ H xs us Q I r h
 obtain ⟨i,j,rfl,q⟩:=h
 obtain ⟨u,w',rfl,⟨t,rfl⟩,⟨t',rfl⟩⟩:=vals2 r
 refine min_two_ints (I.ok.hd hc) fun h' tk k=>⟨_,H,I.kept k,?_,q⟩
 by_cases hj:j < i
 ·rw [if_pos hj,if_pos hj]; exact ⟨_,rfl⟩
 ·rw [if_neg hj,if_neg hj]; exact ⟨_,rfl⟩
def Ms (K:PySem.W.Frag) (x:V) (H:Hp) (n:Nat):Prop:=
 match x with
 | .str y=>y.length≤sizeLine∧n = y.length
 | .uz y=>y.size≤sizeLine∧n = y.size
 | .ref p=>(∃ xs,ay K H p xs∧n = xs.length)∨∃ xs,SqT K H p xs∧n = xs.length
 | _=>False
theorem aM:d5 X (.builtin "len") (fun xs H Q=>∃ x n,xs = [x]∧Ms X.K x H n∧Q (.int n) H):=by
 intro pins s σ H xs us Q I r h
 obtain ⟨x,n,rfl,e,q⟩:=h
 obtain ⟨u,rfl,rx⟩:=vals1 r
 have hl:=ku
 have hs:sizeLine = 16777216:=sizeLine_eq
 cases x with
 | str y=>
  obtain ⟨t,rfl⟩:=rx
  obtain ⟨hy,e'⟩:y.length≤sizeLine∧n = y.length:=e
  subst e'
  exact len_str (by omega) ⟨.int _,H,I.tok _,⟨_,rfl⟩,q⟩
 | uz y=>
  obtain ⟨t,rfl⟩:=rx
  obtain ⟨hy,e'⟩:y.size≤sizeLine∧n = y.size:=e
  subst e'
  exact PySem.W.len_bytes (by omega) ⟨.int _,H,I.tok _,⟨_,rfl⟩,q⟩
 | ref p=>
  cases rx
  have e':(∃ xs,ay X.K H p xs∧n = xs.length)∨∃ xs,SqT X.K H p xs∧n = xs.length:=e
  rcases e' with ⟨xs,hx,e'⟩ | ⟨xs,hx,e'⟩
  ·subst e'
   obtain ⟨aO,r',pl,hz⟩:=I.list hx
   have hlen:=r'.length
   exact Calls.call_len_list pl.isList (by simp only [List.size_toArray]; omega) ⟨.int xs.length,H,I.tok _,⟨_,by simp only [List.size_toArray]; rw [hlen]⟩,q⟩
  ·subst e'
   obtain ⟨aO,r',pl,hz⟩:=I.tuple hx
   have hlen:=r'.length
   exact len_tuple pl (by simp only [List.size_toArray]; omega) ⟨.int xs.length,H,I.tok _,⟨_,by simp only [List.size_toArray]; rw [hlen]⟩,q⟩
 | _=>exact (show False from e).elim
end
end L2
namespace L2
open PySem PySem.Spec PyProof.Rows
structure Df (h:Heap) (x dx C:Addr) (mA:Str→Option Value):Prop where
 obj:h.get? x = some (PySem.W.instObj C dx)
 ns:h.Ns1 dx mA
 ne:dx≠x
theorem u6 {h:Heap} {dx:Addr} {mA:Str→Option Value} (n:h.Ns1 dx mA):∃ od,h.get? dx = some od∧∀ name,PySem.W.lookIn name od = some (mA name):=by
 obtain ⟨o,es,ep,ho,hd,hk,_,hm⟩:=n
 refine ⟨o,ho,fun name=>?_⟩
 have e:=hm name
 unfold nsFind findBy at e
 rw [← Array.find?_toList] at e
 unfold PySem.W.lookIn
 rw [hd]
 dsimp only
 split
 ·rename_i y q
  rw [q] at e
  exact congrArg some e
 ·rename_i q
  rw [q] at e
  have a:es.toList.any (·.refKey) = false:=by
   rw [List.any_eq_false]
   intro y hy
   obtain ⟨z,t,xV⟩:=hk y (Array.mem_toList_iff.mp hy)
   simp [DictEntry.refKey,xV]
  have a':¬ es.toList.any (·.refKey) = true:=by rw [a]; exact Bool.false_ne_true
  rw [if_neg a']
  exact congrArg some e
theorem Df.look {h:Heap} {x dx C:Addr} {mA:Str→Option Value} (I:Df h x dx C mA):∃ od,PySem.W.InstAt h x (PySem.W.instObj C dx) C (some od)∧∀ name,PySem.W.lookIn name od = some (mA name):=
 let ⟨od,ho,hl⟩:=u6 I.ns
 ⟨od,⟨I.obj,rfl,rfl,ho⟩,hl⟩
def BZ (f:Str) (v:V):List (Str×V)→List (Str×V)
 | []=>[(f,v)]
 | (g,x) :: r=>if g = f then (g,v) :: r else (g,x) :: BZ f v r
section
variable {P:Program} {w:World} {H H':Hp} {h h':Heap} {a C dx:Addr} {fs Fc:List (Str×V)}
theorem zN (bA:gy P w H h) (e:H a = some (.ins C dx fs)):∃ mA,Df h a dx C mA∧(∀ f,sP (fs.lookup f) (mA f))∧PySem.Within mA (fs.map (·.1))∧fs.length≤1000∧H dx = some (.own a):=by
 obtain ⟨d,z,ne,ob,mA,n,r,q⟩:=(show bg P w H h a (.ins C dx fs) from bA a _ e)
 exact ⟨mA,⟨ob,n,ne⟩,r,q,z,d⟩
end
structure Dh (K:PySem.W.Frag) (C:Addr):Prop where
 pg:PySem.W.plainGet K C Str.empty = true
 hd:PySem.W.hasDictIn K C = true
 po:PySem.W.plainOver K C = true
 sa:PySem.W.findIn K (.ref C) "__setattr__" = some (some (.builtin "object.__setattr__"))
theorem Dh.get {K:PySem.W.Frag} {C:Addr} (c:Dh K C) (f:Str):PySem.W.plainGet K C f = true:=c.pg
def sT (K:PySem.W.Frag) (C:Addr) (f:Str):Prop:=PySem.W.findIn K (.ref C) f = some none
structure Ur (K:PySem.W.Frag) (C:Addr) (f:Str) (v:V) (u:Value):Prop where
 at_:PySem.W.findIn K (.ref C) f = some (some u)
 rel:RelV v u
 get:PySem.W.specialIn K u "__get__" = some none
 cp:PySem.W.copiedNames.contains f = false
structure Meth (K:PySem.W.Frag) (C:Addr) (m:Str) (f:Addr):Prop where
 at_:PySem.W.findIn K (.ref C) m = some (some (.ref f))
 fn:PySem.W.isFn K (.ref f) = true
 kp:PySem.W.keepIn K (.ref f) = true
def Pc (K:PySem.W.Frag) (ta:TE) (f:Str):TE:=fun σ H Q=>ta σ H fun x H1=>∃ a C dx fs v,x = .ref a∧H1 a = some (.ins C dx fs)∧Dh K C∧sT K C f∧fs.lookup f = some v∧Q v H1
def Pg (K:PySem.W.Frag) (ta:TE) (f:Str):TE:=fun σ H Q=>ta σ H fun x H1=>∃ a C dx fs v u,x = .ref a∧H1 a = some (.ins C dx fs)∧Dh K C∧Ur K C f v u∧fs.lookup f = none∧Q v H1
def PF (K:PySem.W.Frag) (ta tv:TE) (f:Str):TS:=fun D σ H=>tv σ H fun y H1=>ta σ H1 fun x H2=>∃ a C dx fs,x = .ref a∧H2 a = some (.ins C dx fs)∧Dh K C∧sT K C f∧fs.length < 1000∧
 D.nx σ (upd H2 a (.ins C dx (BZ f y fs)))
def T3 (X:Cx) (op:Operator) (rd:V→V→Hp→VK→Prop):Prop:=
 ∀ (pins:List (Addr×Obj)) (s:Shared) (σ : St) (H:Hp) (x y:V) (u v:Value) (Q:VK),Inv X pins σ H s→RelV x u→RelV y v→rd x y H Q→wpAny (model X.prog X.w) X.A (inplaceOp op u v) (EP X pins σ Q) X.xe s
def Ge (K:PySem.W.Frag) (ta tv:TE) (rd:V→V→Hp→VK→Prop) (f:Str):TS:=fun D σ H=>ta σ H fun x H1=>∃ a C dx fs v,x = .ref a∧H1 a = some (.ins C dx fs)∧Dh K C∧sT K C f∧fs.lookup f = some v∧
 tv σ H1 fun y H2=>rd v y H2 fun z H3=>∃ Ow Fc,H3 a = some (.ins C Ow Fc)∧Fc.length < 1000∧D.nx σ (upd H3 a (.ins C Ow (BZ f z Fc)))
section
variable {X:Cx} {o e value:Expr} {f:Str} {pos pos' Hl:Pos} {ta tv:TE}
def P7:V→V→Hp→VK→Prop:=fun x y H Q=>∃ i j,x = .int i∧y = .int j∧Q (.int (i + j)) H
def PU:V→V→Hp→VK→Prop:=fun x y H Q=>∃ i j,x = .int i∧y = .int j∧Q (.int (i - j)) H
end
section
variable {X:Cx} {pins:List (Addr×Obj)} {σ : St} {H:Hp} {s:Shared} {A:Around} {E:Value→Shared→Prop} {Q:Value→Shared→Prop} {c:Value} {b:Bool}
inductive iJ (K:PySem.W.Frag) (H:Hp):V→Value→Prop where
 | cX:iJ K H .cX (.type "NoneType")
 | bl (x:Bool):iJ K H (.bl x) (.type "bool")
 | int (i:Int):iJ K H (.int i) (.type "int")
 | str (x:Str):iJ K H (.str x) (.type "str")
 | yN (x:UInt64):iJ K H (.yN x) (.type "float")
 | lst {a:Addr} {xs:List V} (e:H a = some (.lst xs)):iJ K H (.ref a) (.type "list")
 | kR {a:Addr} {o:Obj} {xs:List V} (e:H a = some (.kR o (.lst xs))):iJ K H (.ref a) (.type "list")
 | tup {a:Addr} {xs:List V} (e:H a = some (.tup xs)):iJ K H (.ref a) (.type "tuple")
 | dK {a:Addr} {aI:List (Key×V)} (e:H a = some (.dK aI)):iJ K H (.ref a) (.type "dict")
 | dT {a:Addr} {aI:List (List Key×V)} (e:H a = some (.dT aI)):iJ K H (.ref a) (.type "dict")
 | ins {a C dx:Addr} {fs:List (Str×V)} (e:H a = some (.ins C dx fs)) (cl:Dh K C) (ha:PySem.W.findIn K (.ref C) "__class__" = some (some (.builtin "object.__class__")))
   (hn:PySem.W.specialIn K (.builtin "object.__class__") "__get__" = some (some (.builtin "getset_descriptor.__get__"))) (Gz:PySem.W.takesIn K (.builtin "object.__class__") = some true)
   (hm:PySem.W.mroIn K C (.type "object") = some true):iJ K H (.ref a) (.ref C)
theorem va {x:V} {u t:Value} (I:Inv X pins σ H s) (rx:RelV x u) (ty:iJ X.K H x t) (e:PySem.W.kitOne X.K t c = some b) (h:∀ tk,Q (.bool b) { s with toks:=tk }) :
  wpAny (model X.prog X.w) A (call (.builtin "isinstance") [u,c]) Q E s:=by
 cases ty with
 | cX=>cases (show u = Value.none from rx); exact PySem.W.kia_one PySem.W.kitx_none I.lH True.intro e (fun z=>nomatch z) h
 | bl y=>cases (show u = Value.bool y from rx); exact PySem.W.kia_one PySem.W.kitx_bool I.lH True.intro e (fun z=>nomatch z) h
 | int i=>obtain ⟨t,q⟩:=(show ∃ t,u = Value.int i t from rx); cases q; exact PySem.W.kia_one PySem.W.kitx_int I.lH True.intro e (fun z=>nomatch z) h
 | str y=>obtain ⟨t,q⟩:=(show ∃ t,u = Value.str y t from rx); cases q; exact PySem.W.kia_one PySem.W.kitx_str I.lH True.intro e (fun z=>nomatch z) h
 | yN y=>obtain ⟨t,q⟩:=(show ∃ t,u = Value.float y t from rx); cases q; exact PySem.W.kia_one PySem.W.kitx_float I.lH True.intro e (fun z=>nomatch z) h
 | @lst a xs ea=>
  cases (show u = Value.ref a from rx)
  obtain ⟨_,_,n,_,h1⟩:=(show bg X.prog X.w H s.heap a (.lst xs) from I.bA a _ ea)
  exact PySem.W.kia_one PySem.W.kitx_list I.lH ⟨_,h1,rfl⟩ e (fun z=>nomatch z) h
 | @kR a ob xs ea=>
  cases (show u = Value.ref a from rx)
  obtain ⟨_,_,_,n,_,h1⟩:=(show bg X.prog X.w H s.heap a (.kR ob (.lst xs)) from I.bA a _ ea)
  exact PySem.W.kia_one PySem.W.kitx_list I.lH ⟨_,h1,rfl⟩ e (fun z=>nomatch z) h
 | @tup a xs ea=>
  cases (show u = Value.ref a from rx)
  obtain ⟨_,_,_,p⟩:=(show bg X.prog X.w H s.heap a (.tup xs) from I.bA a _ ea)
  obtain ⟨o,h1,h2,_⟩:=p
  exact PySem.W.kia_one PySem.W.kitx_tuple I.lH ⟨o,h1,h2⟩ e (fun z=>nomatch z) h
 | @dK a aI ea=>
  cases (show u = Value.ref a from rx)
  obtain ⟨_,_,vs,_,p⟩:=(show bg X.prog X.w H s.heap a (.dK aI) from I.bA a _ ea)
  obtain ⟨o,es,ep,h1,h2,_⟩:=p
  exact PySem.W.kia_one PySem.W.kitx_dict I.lH ⟨o,h1,h2.1⟩ e (fun z=>nomatch z) h
 | @dT a aI ea=>
  cases (show u = Value.ref a from rx)
  obtain ⟨_,_,xs,_,o,es,ep,h1,h2,_⟩:=(show bg X.prog X.w H s.heap a (.dT aI) from I.bA a _ ea)
  exact PySem.W.kia_one PySem.W.kitx_dict I.lH ⟨o,h1,h2.1⟩ e (fun z=>nomatch z) h
 | @ins a C dx fs ea cl ha hn Gz hm=>
  cases (show u = Value.ref a from rx)
  obtain ⟨mA,O,_⟩:=zN I.bA ea
  obtain ⟨od,J,_⟩:=O.look
  exact PySem.W.kia_one (PySem.W.kitx_own (cl.get _) cl.hd ha hn Gz hm) I.lH J e (fun z=>nomatch z) h
end
end L2
namespace L2
open PySem PySem.Spec PyProof.Rows
structure dP (k:Nat) (A:Around):Prop where
 hd:A.handled = none
 dp:A.depth + 3 * k + 5 < recursionLimit
 un:A.units + 16 * k + 200 < cLine
theorem dP.mono {j k:Nat} {A:Around} (r:dP k A) (h:j≤k):dP j A:=⟨r.hd,by have:=r.dp; omega,by have:=r.un; omega⟩
theorem dP.deeper {k:Nat} {A:Around} (r:dP (k + 1) A) (env:Env):dP k (A.deeper env):=
 ⟨r.hd,by have:=r.dp; show A.depth + 1 + 3 * k + 5 < _; omega,by have:=r.un; show A.units + 3 + 16 * k + 200 < _; omega⟩
theorem dP.depth {k:Nat} {A:Around} (r:dP k A):A.depth < recursionLimit:=by have:=r.dp; omega
theorem dP.units {k:Nat} {A:Around} (r:dP k A):A.units + 64 < cLine:=by have:=r.un; omega
theorem dP.Bz {k:Nat} {A:Around} (r:dP k A):A.units < cLine:=by have:=r.un; omega
def yX:TA:=fun _ H Q=>Q [] H
def tE (ta:TE) (tr:TA):TA:=fun σ H Q=>ta σ H fun x H1=>tr σ H1 fun xs H2=>Q (x :: xs) H2
section
variable {X:Cx} {e:Expr} {es:List Expr} {te:TE} {t:TA} {pos:Pos}
theorem af:PA X [] yX:=fun _ _ _ _ H Q I h=>Calls.spliced_nil ⟨[],H,I,.nil,h⟩
theorem aa (ha:PE X e te) (hr:PA X es t) (hs:starEach (e :: es) X.env = (false,eval e X.env) :: starEach es X.env:=by rfl):PA X (e :: es) (tE te t):=by
 intro pos pins s σ H Q I h
 rw [hs]
 show wpAny _ _ (spliced ((false,eval e X.env) :: backTo pos (starEach es X.env))) _ _ s
 refine Calls.spliced_cons (cS (ha pins s σ H _ I h) fun u s1 ⟨x,H1,I1,r1,q1⟩=>?_)
 exact cS (hr pos pins s1 σ H1 _ I1 q1) fun us s2 ⟨xs,H2,I2,r2,q2⟩=>⟨x :: xs,H2,I2,.cons r1 r2,q2⟩
def DG (t:TA):TE:=fun σ H Q=>t σ H fun xs H1=>xs.length≤sizeLine∧∀ p,H1 p = none→Q (.ref p) (upd H1 p (.tup xs))
def DM (t:TA):TE:=fun σ H Q=>t σ H fun xs H1=>xs.length≤sizeLine∧∀ p,H1 p = none→Q (.ref p) (upd H1 p (.lst xs))
theorem fY {x1} (h:PA X es t):PE X (.Tuple es x1 pos) (DG t):=by
 intro pins s σ H Q I hq
 refine wpAny_Tuple_spliced (cS (h pos pins s σ H _ I hq) fun us s1 ⟨xs,H1,I1,r,z,q⟩=>⟨by rw [← r.length]; exact z,?_⟩)
 have hf:H1 s1.heap.objs.size = none:=I1.bA.fresh (Nat.le_refl _)
 refine ⟨.ref s1.heap.objs.size,upd H1 s1.heap.objs.size (.tup xs),I1.laid (t':=s1.toks) (fun b u e=>Heap.get?_push_of_some _ e) (Nat.le_refl _) ?_,rfl,q _ hf⟩
 exact ⟨z,us,r,⟨_,Heap.get?_push_size _ rfl,rfl,_,rfl⟩⟩
theorem bz (h:PA X es t):PE X (.List es pos) (DM t):=by
 intro pins s σ H Q I hq
 refine wpAny_List_spliced (cS (h pos pins s σ H _ I hq) fun us s1 ⟨xs,H1,I1,r,z,q⟩=>⟨by rw [← r.length]; exact z,?_⟩)
 have hf:H1 s1.heap.objs.size = none:=I1.bA.fresh (Nat.le_refl _)
 refine ⟨.ref s1.heap.objs.size,upd H1 s1.heap.objs.size (.lst xs),I1.laid (t':=s1.toks) (fun b u e=>Heap.get?_push_of_some _ e) (Nat.le_refl _) ?_,rfl,q _ hf⟩
 exact ⟨z,us,0,r,Heap.get?_push_size _ rfl⟩
end
abbrev Sp:=List V→Hp→VK→XK→Prop
abbrev qT:=List Env→Hp→Shared→XK→Value→Shared→Prop
structure AJ (P:Program) (w:World) (K:PySem.W.Frag) (mg:Str→Option Value) (base:Heap) (A:Around) (outer:List Env) (s:Shared) (H:Hp):Prop where
 frames:A.frames = some outer
 mod:Mod K mg base
 bs:∀ b o,base.get? b = some o→s.heap.get? b = some o∧H b = none
 Bp:base.objs.size≤s.heap.objs.size
 iX:s.heap.FunFrames base outer
 CW:∀ b∈gF outer,H b = none
 bA:gy P w H s.heap
 bare:AllBare s.gens
def CE (outer:List Env) (P:Program) (w:World) (H:Hp) (s:Shared) (Q:VK) (u:Value) (s':Shared):Prop:=
 ∃ v H',s'.os = s.os∧AllBare s'.gens∧Un (gF outer) [] H H' s.heap s'.heap∧gy P w H' s'.heap∧RelV v u∧Q v H'
def CR (CX:qT) (outer:List Env) (P:Program) (w:World) (H:Hp) (s:Shared) (Q:VK) (E:XK) (r:Result) (s':Shared):Prop:=
 match r with
 | .ok (.ret u)=>CE outer P w H s Q u s'
 | .ok _=>False
 | .error e=>CX outer H s E e s'
structure mB (P:Program) (w:World) (K:PySem.W.Frag) (mg:Str→Option Value) (base:Heap) (CX:qT) (k:Nat) (f:Addr) (fd:FuncData) (ps:List Str) (sp:Sp):Prop where
 len:∀ vs H Q E,sp vs H Q E→vs.length = ps.length
 run:∀ (A:Around) (outer:List Env) (s:Shared) (H:Hp) (args:Args) (us:List Value) (vs:List V) (Q:VK) (E:XK),dP k A→AJ P w K mg base A outer s H→BindsTo s fd args (ps.zip us)→Vals vs us→sp vs H Q E→
  codeAny (model P w) A (.call (.ref f) args) (CR CX outer P w H s Q E) s
section
variable {X:Cx} {pins:List (Addr×Obj)} {σ : St} {H:Hp} {s s':Shared}
theorem Inv.Fh (I:Inv X pins σ H s):AJ X.prog X.w X.K X.mg X.base X.A X.stack s H:=
 ⟨I.ok.frames,I.ok.mod,I.bs,Nat.le_trans I.ok.Bp I.sz,I.stack,I.nI,I.bA,I.bare⟩
theorem Inv.after {Q:VK} {u:Value} (I:Inv X pins σ H s) (h:CE X.stack X.prog X.w H s Q u s'):EP X pins σ Q u s':=by
 obtain ⟨v,H',os,bare,un,bA,r,q⟩:=h
 obtain ⟨hh,g,d,t,IK⟩:=s'
 obtain rfl:IK = s.os:=os
 exact ⟨v,H',I.call (h':=hh) (g':=g) (d':=d) (t':=t) (ch:=[]) un bA bare (fun b z=>absurd z (by simp)),r,q⟩
end
def we (sp:Sp) (vP:List V) (E:XK) (t:TA):TE:=fun σ H Q=>t σ H fun vs H1=>sp (vs ++ vP) H1 Q E
def MI (C:Addr) (m:Str) (sp:Sp) (vP:List V) (E:XK) (ta:TE) (t:TA):TE:=fun σ H Q=>ta σ H fun x H1=>∃ a dx fs,x = .ref a∧H1 a = some (.ins C dx fs)∧fs.lookup m = none∧
 t σ H1 fun vs H2=>sp (x :: (vs ++ vP)) H2 Q E
def MJ (C:Addr) (sp:Sp) (vP:List V) (E:XK) (t:TA):TE:=fun σ H Q=>t σ H fun vs H1=>∀ x dx,H1 x = none→H1 dx = none→dx≠x→
 sp (.ref x :: (vs ++ vP)) (upd (upd H1 dx (.own x)) x (.ins C dx [])) (fun v H2=>v = .cX∧Q (.ref x) H2) E
def Binds (K:PySem.W.Frag) (fd:FuncData) (ps:List Str) (ds:List Value):Prop:=
 ∀ (s:Shared) (us:List Value),K.In s.heap→(us ++ ds).length = ps.length→BindsTo s fd ⟨us,[]⟩ (ps.zip (us ++ ds))
theorem Binds.all {K:PySem.W.Frag} {fd:FuncData} {ps:List Str} (h:∀ us:List Value,us.length = ps.length→bindArgs fd ⟨us,[]⟩ = pure (ps.zip us)):Binds K fd ps []:=fun s us _ hl=>by
 rw [List.append_nil] at hl ⊢
 exact .of_eq (h us hl)
def Passes (CX:qT) (X:Cx) (E:XK):Prop:=∀ (pins:List (Addr×Obj)) (σ : St) (H:Hp) (s:Shared) (e:Value) (s':Shared),Inv X pins σ H s→CX X.stack H s E e s'→X.xe e s'
section
variable {X:Cx} {CX:qT} {k:Nat} {f C:Addr} {fd:FuncData} {ps:List Str} {sp:Sp} {vP:List V} {ds:List Value} {E:XK} {x m:Str} {p pos apos:Pos} {e o:Expr} {es:List Expr} {ta:TE} {t:TA}
theorem BK {pins:List (Addr×Obj)} {σ : St} {H:Hp} {s:Shared} {Q:VK} {us:List Value} {vs:List V} (F:mB X.prog X.w X.K X.mg X.base CX k f fd ps sp) (hr:dP k X.A) (hb:Binds X.K fd ps ds) (hd:Vals vP ds) (hx:Passes CX X E)
  (I:Inv X pins σ H s) (r:Vals vs us) (h:sp (vs ++ vP) H Q E):wpAny (model X.prog X.w) X.A (call (.ref f) us) (EP X pins σ Q) X.xe s:=by
 have r2:Vals (vs ++ vP) (us ++ ds):=r.append hd
 have hl:(us ++ ds).length = ps.length:=by rw [← r2.length]; exact F.len _ _ _ _ h
 refine wpAny_call (codeAny_mono (F.run X.A X.stack s H ⟨us,[]⟩ (us ++ ds) (vs ++ vP) Q E hr I.Fh (hb s us I.lH hl) r2 h) fun r s' hq=>?_)
 cases r with
 | error e=>exact hx pins σ H s e s' I hq
 | ok fl=>
  cases fl with
  | ret u=>exact I.after hq
  | next=>exact False.elim hq
  | brk=>exact False.elim hq
  | cont=>exact False.elim hq
theorem zx (F:mB X.prog X.w X.K X.mg X.base CX k f fd ps sp) (hr:dP k X.A) (hg:Gl X x) (hm:X.mg x = some (.ref f)) (hk:PySem.W.keepIn X.K (.ref f) = true) (hb:Binds X.K fd ps ds) (hd:Vals vP ds) (hx:Passes CX X E)
  (ha:PA X (e :: es) t) (sk:(x == ("__debug__" : Str)) = false:=by decide) (he:starEach (e :: es) X.env = (false,eval e X.env) :: starEach es X.env:=by rfl) (mZ:(backTo pos (starEach es X.env)).any (·.1) = false:=by rfl) :
  PE X (.Call (.Name x p) (e :: es) [] pos) (we sp vP E t):=by
 intro pins s σ H Q I h
 refine wpAny_Call_Name_kw (iu I hg hm ?_ sk)
 refine PySem.W.callWith_K (h₀:=X.base) I.ok.mod.EE hk (cS (ha pos pins s σ H _ I h) fun us s1 ⟨vs,H1,I1,r,q⟩=>⟨I1.lH,?_⟩) he mZ
 exact BK F hr hb hd hx I1 r q
structure Mk (K:PySem.W.Frag) (C f:Addr):Prop where
 makes:PySem.W.makesIn K C = true
 init:PySem.W.findIn K (.ref C) "__init__" = some (some (.ref f))
 fn:PySem.W.isFn K (.ref f) = true
 kp:PySem.W.keepIn K (.ref C) = true
end
def PK (X:Cx) (Nz:List Keyword) (t:TA):Prop:=
 ∀ (pos:Pos) (pins:List (Addr×Obj)) (s:Shared) (σ : St) (H:Hp) (Q:List V→Hp→Prop),Inv X pins σ H s→t σ H Q→wpAny (model X.prog X.w) X.A (evalAll ((backToKw pos (keywordEach Nz X.env)).map (·.2))) (AP X pins σ Q) X.xe s
section
variable {X:Cx} {CX:qT} {k:Nat} {f C:Addr} {fd:FuncData} {ps ks:List Str} {sp:Sp} {E:XK} {x m:Str} {p pos apos Rc:Pos} {e o:Expr} {es:List Expr} {Nz:List Keyword} {te ta:TE} {t tk:TA} {nm:Option Str}
structure Mt (K:PySem.W.Frag) (fd:FuncData) (ps ks:List Str) (g:List Value→List Value→List Value) (gV:List V→List V→List V):Prop where
 to:∀ (s:Shared) (us ws:List Value),K.In s.heap→(g us ws).length = ps.length→BindsTo s fd ⟨us,ks.zip ws⟩ (ps.zip (g us ws))
 rel:∀ {vs:List V} {us:List Value} {zs:List V} {ws:List Value},Vals vs us→Vals zs ws→Vals (gV vs zs) (g us ws)
def HC (sp:Sp) (gV:List V→List V→List V) (E:XK) (t tk:TA):TE:=fun σ H Q=>t σ H fun vs H1=>tk σ H1 fun zs H2=>sp (gV vs zs) H2 Q E
variable {g:List Value→List Value→List Value} {gV:List V→List V→List V}
end
structure aQ (N P:List Str) (sc:Scope):Prop where
 kind:sc.kind = .function
 co:sc.isCoroutine = false
 gen:sc.isGenerator = false
 nd:N.Nodup
 pre:N.take P.length = P
 par:∀ x∈P,sc.names.lookup x = some .local∨sc.names.lookup x = some .cell
 Cb:∀ y∈sc.names,y.2≠.free
theorem nC {kindOf:Str→Option NameKind} {x:Str}:∀ {binds:List (Str×Value)} {m:Str→Option Value},(∀ v,(x,v)∉binds)→bindL kindOf binds m x = m x
 | [],_,_=>rfl
 | (n,v) :: r,m,h=>by
  unfold bindL
  rw [nC fun w hw=>h w (List.mem_cons_of_mem _ hw)]
  split
  ·have:x≠n:=by rintro rfl; exact h v List.mem_cons_self
   simp [this]
  ·rfl
theorem nE {kindOf:Str→Option NameKind} {x:Str}:∀ {binds:List (Str×Value)} {m:Str→Option Value},(∀ v,(x,v)∉binds)→bindC kindOf binds m x = m x
 | [],_,_=>rfl
 | (n,v) :: r,m,h=>by
  unfold bindC
  rw [nE fun w hw=>h w (List.mem_cons_of_mem _ hw)]
  split
  ·rfl
  ·have:x≠n:=by rintro rfl; exact h v List.mem_cons_self
   simp [this]
theorem nD {kindOf:Str→Option NameKind} {x:Str} {v:Value}:∀ {P:List Str} {vs:List Value} {i:Nat} {m:Str→Option Value},P.Nodup→P[i]? = some x→vs[i]? = some v→kindOf x = some .local→
  bindL kindOf (P.zip vs) m x = some v
 | [],_,_,_,_,h,_,_=>by simp at h
 | _ :: _,[],_,_,_,_,h,_=>by simp at h
 | p :: P,w :: vs,0,m,nd,h1,h2,hk=>by
  simp at h1 h2; subst h1; subst h2
  show bindL kindOf ((p,w) :: P.zip vs) m p = _
  unfold bindL
  rw [nC fun v hv=>(List.nodup_cons.mp nd).1 (List.of_mem_zip hv).1,if_pos hk]
  simp
 | p :: P,w :: vs,i + 1,m,nd,h1,h2,hk=>by
  show bindL kindOf ((p,w) :: P.zip vs) m x = _
  unfold bindL
  exact nD (i:=i) (List.nodup_cons.mp nd).2 (by simpa using h1) (by simpa using h2) hk
theorem nF {kindOf:Str→Option NameKind} {x:Str} {v:Value}:∀ {P:List Str} {vs:List Value} {i:Nat} {m:Str→Option Value},P.Nodup→P[i]? = some x→vs[i]? = some v→kindOf x≠some .local→
  bindC kindOf (P.zip vs) m x = some v
 | [],_,_,_,_,h,_,_=>by simp at h
 | _ :: _,[],_,_,_,_,h,_=>by simp at h
 | p :: P,w :: vs,0,m,nd,h1,h2,hk=>by
  simp at h1 h2; subst h1; subst h2
  show bindC kindOf ((p,w) :: P.zip vs) m p = _
  unfold bindC
  rw [nE fun v hv=>(List.nodup_cons.mp nd).1 (List.of_mem_zip hv).1,if_neg hk]
  simp
 | p :: P,w :: vs,i + 1,m,nd,h1,h2,hk=>by
  show bindC kindOf ((p,w) :: P.zip vs) m x = _
  unfold bindC
  exact nF (i:=i) (List.nodup_cons.mp nd).2 (by simpa using h1) (by simpa using h2) hk
def start (N:List Str) (vs:List V):St:=vs.map some ++ List.replicate (N.length - vs.length) none
def iY (CX:qT) (P:Program) (w:World) (K:PySem.W.Frag) (mg:Str→Option Value) (base:Heap) (N:List Str) (qual:Str) (scope:Scope) (f:Addr) (cd:Value) (A:Around) (outer:List Env) (s:Shared) (H:Hp) (E:XK):Cx where
 prog:=P
 w:=w
 K:=K
 mg:=mg
 base:=base
 A:=A.deeper (envOfC qual scope s.heap.objs.size f cd)
 N:=N
 s₀:=s
 H₀:=H
 env:=envOfC qual scope s.heap.objs.size f cd
 outer:=outer
 stack:=envOfC qual scope s.heap.objs.size f cd :: outer
 ex:=[]
 calm:=true
 fn:=fun _=>true
 pn:=[]
 xe:=fun e s'=>wpAny (model P w) (A.deeper (envOfC qual scope s.heap.objs.size f cd)) (leaving (envOfC qual scope s.heap.objs.size f cd) e) (fun _ BJ=>CX outer H s E e BJ) (fun e' BJ=>CX outer H s E e' BJ) s'
theorem qG {sc:Scope} {n:Nat} {x:Str} (h:sc.names.lookup x = some .cell):∃ c,(cellsFrom n sc.names []).lookup x = some c:=by
 have q:=PySem.W.cellsFrom_some sc.names n [] (.inl h)
 exact Option.isSome_iff_exists.mp q
theorem vb {CX:qT} {P:Program} {w:World} {K:PySem.W.Frag} {mg:Str→Option Value} {base:Heap} {N ps:List Str} {qual:Str} {scope:Scope} {f:Addr} {cd:Value} {A:Around} {outer:List Env} {s s1:Shared} {H:Hp} {E:XK} {us:List Value} {vs:List V}
  (S:aQ N ps scope) (hd:A.handled = none) (e0:AJ P w K mg base A outer s H) (hl:vs.length = ps.length) (r:Vals vs us)
  (x:InCallC s s.heap.objs.size (bindL (envOfC qual scope s.heap.objs.size f cd).kindOf (ps.zip us) fun _=>none) (cellsFrom (s.heap.objs.size + 1) scope.names []) (bindC (envOfC qual scope s.heap.objs.size f cd).kindOf (ps.zip us) fun _=>none) s1) :
  Inv (iY CX P w K mg base N qual scope f cd A outer s H E) [] (start N vs) H s1:=by
 have mZ:ps.length≤N.length:=by have:=congrArg List.length S.pre; rw [List.length_take] at this; omega
 obtain ⟨h1,tk,rfl,hk⟩:=x.done
 have Es:∀ b:Addr,b∉(iY CX P w K mg base N qual scope f cd A outer s H E).ex:=fun b z=>absurd (show b∈([]:List Addr) from z) (by simp)
 refine ⟨⟨e0.mod,S.kind,rfl,rfl,Nat.le_refl _,fun y z c h1 h2=>?_,fun y hy=>?_,fun y c _ h=>?_,fun _=>hd,Around.frames_deeper e0.frames,.inr ⟨rfl,rfl⟩,fun b z=>absurd z (Es b),e0.bs,e0.Bp,fun b _ _=>Es b,fun b z=>absurd z (Es b),e0.iX,e0.CW⟩,
  rfl,e0.bare,Un.kept hk,⟨_,x.toInCall.ns,fun i y v h1 h2 h3=>?_⟩,fun y c h=>⟨_,x.cell y c h⟩,e0.bA.fresh (Nat.le_refl _),fun y c h=>?_,fun p hp=>absurd (show p∈([]:List (Addr×Obj)) from hp) (by simp),e0.bA.kept hk,?_⟩
 ·exact name_of_addr x.apart (PySem.mem_of_lookup h1) (PySem.mem_of_lookup h2)
 ·have hy:scope.names.lookup y = some .cell∨scope.names.lookup y = some .free:=hy
  rcases hy with hy | hy
  ·exact qG hy
  ·exact absurd rfl (S.Cb _ (PySem.mem_of_lookup hy))
 ·exact Nat.le_of_lt (x.above y c (PySem.mem_of_lookup h))
 ·have hi:i < vs.length:=by
   unfold start at h2
   by_cases hi:i < vs.length
   ·exact hi
   ·rw [List.getElem?_append_right (by simpa using hi)] at h2
    rw [List.getElem?_replicate] at h2
    split at h2 <;> cases h2
  have ha:vs[i]? = some v:=by
   unfold start at h2
   rw [List.getElem?_append_left (by simpa using hi),List.getElem?_map] at h2
   cases e:vs[i]? with
   | none=>rw [e] at h2; cases h2
   | some a=>rw [e] at h2; cases h2; rfl
  obtain ⟨u,hu,rv⟩:=r.get ha
  have hp:ps[i]? = some y:=by
   rw [← S.pre,List.getElem?_take_of_lt (by omega)]; exact h1
  have Np:ps.Nodup:=by rw [← S.pre]; exact S.nd.sublist (List.take_sublist _ _)
  refine ⟨u,rv,?_⟩
  rcases S.par y (List.mem_of_getElem? hp) with k | k
  ·exact .inl ⟨k,nD Np hp hu k⟩
  ·obtain ⟨c,e⟩:=qG (n:=s.heap.objs.size + 1) k
   refine .inr ⟨.inl k,c,e,?_⟩
   have q:=x.cell y c e
   rw [nF Np hp hu (by show scope.names.lookup y≠_; rw [k]; decide)] at q
   exact q
 ·exact e0.bA.fresh (Nat.le_of_lt (x.above y c (PySem.mem_of_lookup h)))
 ·unfold start
  show _ = N.length
  rw [List.length_append,List.length_map,List.length_replicate]
  omega
theorem x8 {CX:qT} {P:Program} {w:World} {K:PySem.W.Frag} {mg:Str→Option Value} {base:Heap} {k:Nat} {f:Addr} {name qual:Str} {params:Arguments} {body:List Stmt} {scope:Scope} {dV kV doc pm de ct oc:Value} {an od:Option Addr}
  {vI:Array (Option Value)} {N ps:List Str} {sp:Sp} (lk:K.lookup f = some ⟨oc,od,.func (PySem.W.fnOf name qual params body scope dV kV doc pm an de ct),vI⟩) (su:PySem.W.codeIn K de qual = true) (S:aQ N ps scope)
  (len:∀ vs H Q E,sp vs H Q E→vs.length = ps.length)
  (kL:∀ (A:Around) (outer:List Env) (s:Shared) (H:Hp) (vs:List V) (Q:VK) (E:XK),dP k (A.deeper (envOfC qual scope s.heap.objs.size f de))→sp vs H Q E→
   ∃ t,qK (iY CX P w K mg base N qual scope f de A outer s H E) body t∧t { nx:=fun _ H'=>Q .cX H',rt:=Q } (start N vs) H) :
  mB P w K mg base CX (k + 1) f (PySem.W.fnOf name qual params body scope dV kV doc pm an de ct) ps sp:=by
 refine ⟨len,fun A outer s H args us vs Q E hr e0 hb r vL=>?_⟩
 have hl:=len _ _ _ _ vL
 have KX:K.In s.heap:=e0.mod.EE.keeps fun b o e=>(e0.bs b o e).1
 have lim:s.heap.NoLimit:=e0.mod.nolimit.keeps fun b o e=>(e0.bs b o e).1
 have ES:∀ y∈ps.zip us,scope.names.lookup y.1 = some .local∨(scope.names.lookup y.1 = some .cell∧((cellsFrom (s.heap.objs.size + 1) scope.names []).lookup y.1).isSome = true):=fun ⟨n,v⟩ hy=>by
  rcases S.par n (List.of_mem_zip hy).1 with q | q
  ·exact .inl q
  ·exact .inr ⟨q,PySem.W.cellsFrom_some _ _ _ (.inl q)⟩
 refine codeAny_call_function hr.depth (KX _ _ lk) rfl S.co S.gen rfl (PySem.W.codeRec_of KX su) (hb _ _ _ _ ?_)
 refine wpAny_newFunctionEnv_cells S.kind ES fun env he s1 x=>?_
 subst he
 refine ⟨lim.keeps x.toInCall.keep,codeAny_func ?_⟩
 obtain ⟨t,ht,hq⟩:=kL A outer s H vs Q E (hr.deeper _) vL
 have I:Inv (iY CX P w K mg base N qual scope f de A outer s H E) [] (start N vs) H s1:=vb S hr.hd e0 hl r x
 refine wpAny_mono (ht [] s1 (start N vs) H _ I hq) (fun fl s' hs=>?_) fun e s' hs=>hs
 have fin:∀ {σ':St} {H':Hp} {v:V} {u:Value},Inv (iY CX P w K mg base N qual scope f de A outer s H E) [] σ' H' s'→RelV v u→Q v H'→CE outer P w H s Q u s':=
  fun {σ' H' v u} J rv q=>⟨v,H',J.os,J.bare,J.base,J.bA,rv,q⟩
 cases fl with
 | ret u=>
  obtain ⟨v,σ',H',J,rv,q⟩:=hs
  exact fin J rv q
 | next=>
  obtain ⟨σ',H',J,q⟩:=hs
  exact fin (v:=V.cX) (u:=Value.none) J rfl q
 | brk=>
  obtain ⟨_,_,_,q⟩:=hs
  exact False.elim q
 | cont=>
  obtain ⟨_,_,_,q⟩:=hs
  exact False.elim q
end L2
namespace L2
open PySem PySem.Spec PyProof.Rows
section
variable {X:Cx} {x:Str} {p pos:Pos} {e:Expr} {es:List Expr} {t:TA} {id T:String} {r:List V→Hp→VK→Prop}
def F8 (r:List V→Hp→VK→Prop) (t:TA):TE:=fun σ H Q=>t σ H fun vs H1=>r vs H1 Q
theorem av (hc:d5 X (.builtin id) r) (hg:Gl X x) (hm:X.mg x = none) (hv:bootBuiltins x = some (.builtin id)) (ha:PA X (e :: es) t) (hn:x≠ "__name__":=by decide) (sk:(x == ("__debug__" : Str)) = false:=by decide)
  (he:starEach (e :: es) X.env = (false,eval e X.env) :: starEach es X.env:=by rfl) (mZ:(backTo pos (starEach es X.env)).any (·.1) = false:=by rfl):PE X (.Call (.Name x p) (e :: es) [] pos) (F8 r t):=by
 intro pins s σ H Q I h
 refine wpAny_Call_Name_kw (dU I hg hm hv ?_ hn sk)
 exact PyProof.Rows.callWith_builtin1 (cS (ha pos pins s σ H _ I h) fun us s1 ⟨vs,H1,I1,r1,q1⟩=>hc pins s1 σ H1 vs us Q I1 r1 q1) he mZ
theorem fm (hc:d5 X (.type T) r) (hg:Gl X x) (hm:X.mg x = none) (hv:bootBuiltins x = some (.type T)) (ha:PA X (e :: es) t) (hn:x≠ "__name__":=by decide) (sk:(x == ("__debug__" : Str)) = false:=by decide)
  (he:starEach (e :: es) X.env = (false,eval e X.env) :: starEach es X.env:=by rfl) (mZ:(backTo pos (starEach es X.env)).any (·.1) = false:=by rfl):PE X (.Call (.Name x p) (e :: es) [] pos) (F8 r t):=by
 intro pins s σ H Q I h
 refine wpAny_Call_Name_kw (dU I hg hm hv ?_ hn sk)
 exact PyProof.Rows.callWith_type1 (cS (ha pos pins s σ H _ I h) fun us s1 ⟨vs,H1,I1,r1,q1⟩=>hc pins s1 σ H1 vs us Q I1 r1 q1) he mZ
end
end L2
namespace HT
open PySem PyProof.Rows
def lexLt:List Int→List Int→Bool
 | [],[]=>false
 | [],_ :: _=>true
 | _ :: _,[]=>false
 | x :: xs,y :: ys=>if x = y then lexLt xs ys else decide (x < y)
theorem eJ (x y:Int) (xs ys:List Int):lexLt (x :: xs) (y :: ys) = if x = y then lexLt xs ys else decide (x < y):=rfl
theorem lW:lexLt [] [] = false:=rfl
theorem ky (y:Int) (ys:List Int):lexLt [] (y :: ys) = true:=rfl
theorem kz (x:Int) (xs:List Int):lexLt (x :: xs) [] = false:=rfl
theorem yf (A:Around) (s:Shared) (a:Int) (t:Tok) (c:Int) (u:Tok):∃ e,SeqAt.EqAt A s (.int a t) (.int c u) e∧(e = true↔a = c):=
 ⟨(a == c),SeqAt.EqAt.int_int a t c u,by simp⟩
theorem wA (A:Around) (s:Shared) (a:Int) (t:Tok) (c:Int) (u:Tok) (prog:Program) (w:World) (E:Value→Shared→Prop) (Q:Value→Shared→Prop) (h:Q (.bool (decide (a < c))) s) :
  wpAny (model prog w) A (richCompare .Lt (.int a t) (.int c u)) Q E s:=
 (PyProof.Rows.lt_int h:wpAny (model prog w) A (compareOp .Lt (.int a t) (.int c u)) Q E s)
section
variable {prog:Program} {w:World} {A:Around} {E:Value→Shared→Prop} {s:Shared}
def lG (n d:Nat):Option Int→Nat
 | none=>d
 | some v=>if v < 0 then (v + (n:Int)).toNat else min v.toNat n
end
end HT
namespace L2
open PySem PySem.Spec PyProof.Rows
abbrev TO:=St→Hp→(Option Int→Hp→Prop)→Prop
def PO (X:Cx) (e:Option Expr) (t:TO):Prop:=
 ∀ (pins:List (Addr×Obj)) (s:Shared) (σ : St) (H:Hp) (Q:Option Int→Hp→Prop),Inv X pins σ H s→t σ H Q→
  wpAny (model X.prog X.w) X.A (evalPart e X.env) (fun u s'=>∃ o H',Inv X pins σ H' s'∧IsPart u o∧Q o H') X.xe s
def dD:TO:=fun _ H Q=>Q none H
def mE (t:TE):TO:=fun σ H Q=>t σ H fun x H1=>∃ i,x = .int i∧Q (some i) H1
theorem intsAre_of {ns:List Int}:∀ {us:List Value},Vals (ns.map V.int) us→IntsAre us ns:=by
 induction ns with
 | nil=>intro us r; rw [List.map_nil] at r; cases r; exact .nil
 | cons n ns ih=>
  intro us r
  rw [List.map_cons] at r
  cases r with
  | cons r1 r2=>
   obtain ⟨t,e⟩:=r1
   subst e
   exact .cons n t (ih r2)
section
variable {X:Cx} {e:Expr} {te:TE} {lo hi:Option Expr} {tl th:TO} {pos p2:Pos}
theorem bU:PO X none dD:=by
 intro pins s σ H Q I h
 rw [evalPart_none]
 exact wpAny_pure ⟨none,H,I,.none,h⟩
theorem cu (h:PE X e te):PO X (some e) (mE te):=by
 intro pins s σ H Q I hw
 rw [evalPart_some]
 refine cS (h pins s σ H _ I hw) fun u s1 ⟨x,H1,I1,r1,q1⟩=>?_
 obtain ⟨i,rfl,q⟩:=q1
 obtain ⟨t,rfl⟩:=r1
 exact ⟨some i,H1,I1,.int i t,q⟩
def Mp (X:Cx) (r:V→Option Int→Option Int→Hp→VK→Prop):Prop:=
 ∀ (pins:List (Addr×Obj)) (s:Shared) (σ : St) (H:Hp) (x:V) (v vl vu:Value) (lo hi:Option Int) (sl:Addr) (Q:VK),Inv X pins σ H s→RelV x v→s.heap.IsSliceOf sl vl vu .none→IsPart vl lo→IsPart vu hi→r x lo hi H Q→
  ∃ T id,typeLookup (.type T) "__getitem__" = pure (some (.builtin id))∧s.TypeIs v T∧wpAny (model X.prog X.w) X.A (getItem v (.ref sl)) (EP X pins σ Q) X.xe s
def yW (r:V→Option Int→Option Int→Hp→VK→Prop) (te:TE) (tl th:TO):TE:=fun σ H Q=>te σ H fun x H1=>tl σ H1 fun l H2=>th σ H2 fun u H3=>r x l u H3 Q
theorem bG {r:V→Option Int→Option Int→Hp→VK→Prop} (hr:Mp X r) (he:PE X e te) (hl:PO X lo tl) (hu:PO X hi th):PE X (.Subscript e (.Slice lo hi none p2) pos) (yW r te tl th):=by
 intro pins s σ H Q I h
 refine Subscript_ (cS (he pins s σ H _ I h) fun v s1 ⟨x,H1,I1,r1,q1⟩=>?_)
 refine wpAny_Slice (cS (hl pins s1 σ H1 _ I1 q1) fun vl s2 ⟨l,H2,I2,pl,q2⟩=>cS (hu pins s2 σ H2 _ I2 q2) fun vu s3 ⟨u,H3,I3,pu,q3⟩=>?_)
 rw [evalPart_none]
 refine wpAny_pure ?_
 have I4:Inv X pins σ H3 { s3 with heap:=s3.heap.push { cls:=.type "slice",data:=.fields #[vl,vu,.none] } }:=I3.kept (t':=s3.toks) fun b ob q=>Heap.get?_push_of_some _ q
 obtain ⟨T,id,hT,ht,hg⟩:=hr pins { s3 with heap:=s3.heap.push { cls:=.type "slice",data:=.fields #[vl,vu,.none] } } σ H3 x v vl vu l u s3.heap.objs.size Q I4 r1 (Heap.IsSliceOf.new ..) pl pu q3
 show wpAny (model X.prog X.w) X.A (subscriptTail e (.Slice lo hi none p2) v (.ref s3.heap.objs.size)) (EP X pins σ Q) X.xe { s3 with heap:=s3.heap.push { cls:=.type "slice",data:=.fields #[vl,vu,.none] } }
 exact tail_any (ops:=[.ref s3.heap.objs.size,v]) ht hT hg (by with_unfolding_all rfl)
def gQ (xs:List V) (lo hi:Option Int):List V:=(xs.drop (HT.lG xs.length 0 lo)).take (HT.lG xs.length xs.length hi - HT.lG xs.length 0 lo)
theorem qC (xs:List V) (lo hi:Option Int):(gQ xs lo hi).length≤xs.length:=by
 unfold gQ
 rw [List.length_take,List.length_drop]
 omega
def PV (K:PySem.W.Frag):V→Option Int→Option Int→Hp→VK→Prop:=fun x lo hi H Q=>∃ a xs,x = .ref a∧SqT K H a xs∧
 ¬ (HT.lG xs.length 0 lo = 0∧HT.lG xs.length xs.length hi = xs.length)∧∀ p,H p = none→Q (.ref p) (upd H p (.tup (gQ xs lo hi)))
def PZ (K:PySem.W.Frag):R2:=fun x y H Q=>∃ a b ns ms,x = .ref a∧y = .ref b∧SqT K H a (ns.map V.int)∧SqT K H b (ms.map V.int)∧Q (.bl (HT.lexLt ns ms)) H
def M5 (K:PySem.W.Frag):R2:=fun x y H Q=>∃ a b xs ys,x = .ref a∧y = .ref b∧SqT K H a xs∧SqT K H b ys∧xs≠[]∧xs.length + ys.length≤sizeLine∧
 (ys = []→Q (.ref a) H)∧(ys≠[]→∀ p,H p = none→Q (.ref p) (upd H p (.tup (xs ++ ys))))
end
end L2
namespace L2
open PySem PySem.Spec PyProof.Rows
def yH (n:Nat) (i:Int):Option Nat:=if 0≤i then (if i < n then some i.toNat else none) else if -(n:Int)≤i then some (i + n).toNat else none
def mh {α : Type} (xs:List α) (i:Int):Option α:=(yH xs.length i).bind fun j=>xs[j]?
theorem uf {n:Nat} {i:Int} {j:Nat} (h:yH n i = some j):seqIndex? i n = some j∧j < n∧-(n:Int)≤i∧i < n:=by
 unfold yH at h
 by_cases h0:0≤i
 ·rw [if_pos h0] at h
  by_cases h1:i < n
  ·rw [if_pos h1] at h
   have e:i.toNat = j:=Option.some.inj h
   exact ⟨by rw [seqIndex_of h0 h1,e],by omega,by omega,h1⟩
  ·rw [if_neg h1] at h; cases h
 ·rw [if_neg h0] at h
  by_cases h1 : -(n:Int)≤i
  ·rw [if_pos h1] at h
   have e:(i + n).toNat = j:=Option.some.inj h
   exact ⟨by rw [seqIndex_neg (by omega) h1,e],by omega,h1,by omega⟩
  ·rw [if_neg h1] at h; cases h
theorem Aw {α : Type} {xs:List α} {i:Int} {v : α} (h:mh xs i = some v):∃ j,seqIndex? i xs.length = some j∧xs[j]? = some v∧j < xs.length∧-(xs.length:Int)≤i∧i < xs.length:=by
 unfold mh at h
 cases e:yH xs.length i with
 | none=>rw [e] at h; cases h
 | some j=>
  rw [e] at h
  obtain ⟨h1,h2,h3,h4⟩:=uf e
  exact ⟨j,h1,h,h2,h3,h4⟩
theorem jN {α : Type} {xs:List α} {j:Nat} {v : α} (h:xs[j]? = some v):mh xs (j:Int) = some v:=by
 have hj:j < xs.length:=(List.getElem?_eq_some_iff.mp h).1
 have e:yH xs.length (j:Int) = some j:=by
  unfold yH
  rw [if_pos (by omega),if_pos (by omega)]; simp
 unfold mh; rw [e]; exact h
def AD (b:Expr):Prop:=∀ o i,subscripted b false o i = operate [o,i] (getItem o i)
def Mu (X:Cx) (r:R2):Prop:=
 ∀ (value slice:Expr) (pins:List (Addr×Obj)) (s:Shared) (σ : St) (H:Hp) (x y:V) (v u:Value) (Q:VK),Inv X pins σ H s→RelV x v→RelV y u→r x y H Q→
  subscripted slice false v u = operate [v,u] (getItem v u)→wpAny (model X.prog X.w) X.A (subscriptTail value slice v u) (EP X pins σ Q) X.xe s
def Mr (X:Cx) (id:String) (r:V→List V→Hp→VK→Prop):Prop:=
 ∀ (pins:List (Addr×Obj)) (s:Shared) (σ : St) (H:Hp) (x:V) (xs:List V) (v:Value) (us:List Value) (Q:VK),Inv X pins σ H s→RelV x v→Vals xs us→r x xs H Q→
  wpAny (model X.prog X.w) X.A (call (.builtin id) (v :: us)) (EP X pins σ Q) X.xe s
section
variable {X:Cx} {a b:Expr} {ta tb:TE} {pos:Pos}
theorem aV {r:R2} (hr:Mu X r) (ha:PE X a ta) (hb:PE X b tb) (hs:AD b):PE X (.Subscript a b pos) (DJ r ta tb):=by
 intro pins s σ H Q I h
 exact Subscript_ (Dc ha hb I h fun v u s2 x y H2 I2 rx ry q=>hr a b pins s2 σ H2 x y v u Q I2 rx ry q (hs _ _))
def zq (K:PySem.W.Frag):R2:=fun x y H Q=>∃ p xs i v,x = .ref p∧y = .int i∧ay K H p xs∧mh xs i = some v∧Q v H
def Ij (K:PySem.W.Frag):R2:=fun x y H Q=>∃ p xs i v,x = .ref p∧y = .int i∧SqT K H p xs∧mh xs i = some v∧Q v H
def Ik:R2:=fun x y H Q=>∃ z i c,x = .str z∧y = .int i∧z.length≤sizeLine∧mh z.cps.toList i = some c∧Q (.str ⟨#[c]⟩) H
theorem aD:Mu X (zq X.K):=by
 intro value slice pins s σ H x y v u Q I rx ry h hs
 obtain ⟨p,xs,i,z,rfl,rfl,hq,he,q⟩:=h
 cases rx
 obtain ⟨t,rfl⟩:=ry
 obtain ⟨aO,r,pl,hz⟩:=I.list hq
 obtain ⟨j,h1,h2,h3,h4,h5⟩:=Aw he
 obtain ⟨w,ew,Ib⟩:=r.get h2
 have hl:=r.length
 have hn:=ku
 have fin:EP X pins σ Q w s:=⟨z,H,I,Ib,q⟩
 by_cases h0:0≤i
 ·have hj:i.toNat = j:=by
   rw [seqIndex_of h0 h5] at h1
   exact Option.some.inj h1
  exact item_listR pl.isList h0 (by omega) (by rw [hj]; simpa using ew) fin hs
 ·have hj:(i + (aO.toArray.size:Int)).toNat = j:=by
   rw [seqIndex_neg (by omega) h4] at h1
   rw [List.size_toArray,← hl]
   exact Option.some.inj h1
  exact subscriptTail_builtinR (x:=w) pl.isList.typeIs slot_list_getitem.lookup
   (wpAny_getItem_list_neg (Q:=fun r s'=>r = w∧EP X pins σ Q r s') pl.isList (by omega) (by rw [List.size_toArray] <;> omega) (by omega) (by rw [hj]; simpa using ew) ⟨rfl,fin⟩) hs
def UH (K:PySem.W.Frag):R2:=fun x y H Q=>zq K x y H Q∨Ij K x y H Q∨Ik x y H Q
theorem rY (aO:List Value) (n j:Nat) (u:Value):Obj.mapSeq (·.setIfInBounds j u) { cls:=.type "list",data:=.seq aO.toArray n } = { cls:=.type "list",data:=.seq (aO.set j u).toArray n }:=by
 simp [Obj.mapSeq]
theorem Inv.lst {pins:List (Addr×Obj)} {σ : St} {H:Hp} {s:Shared} {p:Addr} {xs:List V} (I:Inv X pins σ H s) (h:H p = some (.lst xs)) :
  ∃ (aO:List Value) (n:Nat),Vals xs aO∧s.heap.get? p = some { cls:=.type "list",data:=.seq aO.toArray n }∧xs.length≤sizeLine:=by
 obtain ⟨z,aO,n,r,e⟩:=I.bA p _ h
 exact ⟨aO,n,r,e,z⟩
theorem Inv.Cf {pins:List (Addr×Obj)} {σ : St} {H:Hp} {s:Shared} {p:Addr} {xs ys:List V} {aO its':List Value} {n n':Nat} {f:Obj→Obj} (I:Inv X pins σ H s) (h:H p = some (.lst xs))
  (ho:s.heap.get? p = some { cls:=.type "list",data:=.seq aO.toArray n }) (hf:f { cls:=.type "list",data:=.seq aO.toArray n } = { cls:=.type "list",data:=.seq its'.toArray n' }) (r:Vals ys its') (hz:ys.length≤sizeLine) (t:Nat) :
  Inv X pins σ (upd H p (.lst ys)) { s with heap:=s.heap.update p f,toks:=t }:=by
 have e:(s.heap.update p f).get? p = some { cls:=.type "list",data:=.seq its'.toArray n' }:=by
  rw [Heap.get?_update_self f ho (by rw [hf] <;> rfl),hf]
 refine I.write (x:=p) (e:=p) (by rw [h]; trivial) (.inl rfl) (fun b u hb q=>(Heap.get?_update_other _ _ (Ne.symm hb)).trans q) ⟨_,e⟩ ?_
 exact ⟨hz,its',n',r,e⟩
def Ed:V→V→V→Hp→(Hp→Prop)→Prop:=fun o i v H Q=>∃ p xs k j,o = .ref p∧i = .int k∧H p = some (.lst xs)∧yH xs.length k = some j∧Q (upd H p (.lst (xs.set j v)))
theorem set_list:FY X Ed:=by
 intro pins s σ H o i v ov iv u Q I ro ri rv h
 obtain ⟨p,xs,k,j,rfl,rfl,hp,hj,q⟩:=h
 cases ro
 obtain ⟨t,rfl⟩:=ri
 obtain ⟨aO,n,r,ho,hz⟩:=I.lst hp
 obtain ⟨h1,h2,h3,h4⟩:=uf hj
 have hl:=r.length
 have hn:=ku
 have I':Inv X pins σ (upd H p (.lst (xs.set j v))) { s with heap:=s.heap.update p (Obj.mapSeq (·.setIfInBounds j u)) }:=
  I.Cf hp ho (rY aO n j u) (r.set rv j) (by rw [List.length_set]; exact hz) s.toks
 by_cases h0:0≤k
 ·have hk:k.toNat = j:=by
   rw [seqIndex_of h0 h4] at h1
   exact Option.some.inj h1
  exact PySem.W.ki_setAt ho h0 (by omega) (by rw [List.size_toArray,← hl]; exact h4) (by rw [hk]; exact ⟨_,I',q⟩)
 ·have hk:(k + (aO.toArray.size:Int)).toNat = j:=by
   rw [seqIndex_neg (by omega) h3] at h1
   rw [List.size_toArray,← hl]
   exact Option.some.inj h1
  exact PySem.W.ki_setBack ho (by omega) (by rw [List.size_toArray,← hl]; exact h3) (by omega) (by rw [hk]; exact ⟨_,I',q⟩)
theorem nK (lo hi:Option Int) (n:Nat):(sliceBounds lo hi none n).1 = ((HT.lG n 0 lo:Nat):Int)∧(sliceBounds lo hi none n).2.1 = ((HT.lG n n hi:Nat):Int)∧(sliceBounds lo hi none n).2.2 = 1:=by
 refine ⟨?_,?_,rfl⟩
 ·cases lo with
  | none=>simp [sliceBounds,HT.lG]
  | some i=>
   simp only [sliceBounds,HT.lG,Option.getD_none,show (1:Int) > 0 by decide,if_true]
   by_cases h:i < 0
   ·simp only [h,if_true] <;> omega
   ·simp only [h,if_false] <;> omega
 ·cases hi with
  | none=>simp [sliceBounds,HT.lG]
  | some i=>
   simp only [sliceBounds,HT.lG,Option.getD_none,show (1:Int) > 0 by decide,if_true]
   by_cases h:i < 0
   ·simp only [h,if_true] <;> omega
   ·simp only [h,if_false] <;> omega
theorem lJ (aO:List Value) (lo hi:Option Int):slicePick aO.toArray lo hi none = ((aO.drop (HT.lG aO.length 0 lo)).take (HT.lG aO.length aO.length hi - HT.lG aO.length 0 lo)).toArray:=by
 obtain ⟨h1,h2,h3⟩:=nK lo hi aO.toArray.size
 unfold slicePick
 rw [h1,h2,h3]
 simp only [sliceRange_one,pick_run,List.size_toArray] <;> rfl
def nV (K:PySem.W.Frag):V→Option Int→Option Int→Hp→VK→Prop:=fun x lo hi H Q=>∃ a xs,x = .ref a∧ay K H a xs∧∀ p,H p = none→Q (.ref p) (upd H p (.lst (gQ xs lo hi)))
theorem dE:Mp X (nV X.K):=by
 intro pins s σ H x v vl vu lo hi sl Q I rx hs pl pu h
 obtain ⟨a,xs,rfl,hx,q⟩:=h
 cases rx
 obtain ⟨aO,r,ht,hz⟩:=I.list hx
 have hlen:=r.length
 refine ⟨"list",_,slot_list_getitem.lookup,ht.isList.typeIs,?_⟩
 refine wpAny_getItem_list_slice ht.isList hs pl pu .none (by simp) ?_ (by rw [List.size_toArray] <;> omega)
 rw [lJ,← hlen]
 refine ⟨.ref s.heap.objs.size,_,I.laid (t':=s.toks) (o:=.lst (gQ xs lo hi)) (fun b ob q=>Heap.get?_push_of_some _ q) (Nat.le_refl _) ?_,rfl,q _ (I.bA.fresh (Nat.le_refl _))⟩
 exact ⟨Nat.le_trans (qC xs lo hi) hz,_,0,(r.drop (HT.lG xs.length 0 lo)).take (HT.lG xs.length xs.length hi - HT.lG xs.length 0 lo),Heap.get?_push_size _ rfl⟩
def iA:V→Bool
 | .cX=>true
 | .bl _=>true
 | .int _=>true
 | .str _=>true
 | _=>false
def Ah:V→V→Bool
 | .cX,.cX=>true
 | .bl a,.bl b=>a == b
 | .bl a,.int b=>(if a then 1 else 0) == b
 | .int a,.bl b=>a == (if b then 1 else 0)
 | .int a,.int b=>a == b
 | .str a,.str b=>a == b
 | _,_=>false
theorem C0 {A:Around} {s:Shared} {y x:V} {u v:Value} (ry:RelV y u) (rx:RelV x v) (fy:iA y = true) (fx:iA x = true):SeqAt.EqAt A s u v (Ah y x):=by
 cases y with
 | cX=>
  cases ry
  cases x with
  | cX=>cases rx; exact SeqAt.EqAt.same _
  | bl b=>cases rx; exact SeqAt.EqAt.none_bool b
  | int b=>obtain ⟨t,rfl⟩:=rx; exact SeqAt.EqAt.none_int b t
  | str b=>obtain ⟨t,rfl⟩:=rx; exact SeqAt.EqAt.none_str b t
  | _=>exact absurd (show false = true from fx) Bool.false_ne_true
 | bl a=>
  cases ry
  cases x with
  | cX=>cases rx; exact SeqAt.EqAt.bool_none a
  | bl b=>cases rx; exact SeqAt.EqAt.bool_bool a b
  | int b=>obtain ⟨t,rfl⟩:=rx; exact SeqAt.EqAt.bool_int a b t
  | str b=>obtain ⟨t,rfl⟩:=rx; exact SeqAt.EqAt.bool_str a b t
  | _=>exact absurd (show false = true from fx) Bool.false_ne_true
 | int a=>
  obtain ⟨t',rfl⟩:=ry
  cases x with
  | cX=>cases rx; exact SeqAt.EqAt.int_none a t'
  | bl b=>cases rx; exact SeqAt.EqAt.int_bool a t' b
  | int b=>obtain ⟨t,rfl⟩:=rx; exact SeqAt.EqAt.int_int a t' b t
  | str b=>obtain ⟨t,rfl⟩:=rx; exact SeqAt.EqAt.int_str a t' b t
  | _=>exact absurd (show false = true from fx) Bool.false_ne_true
 | str a=>
  obtain ⟨t',rfl⟩:=ry
  cases x with
  | cX=>cases rx; exact SeqAt.EqAt.str_none a t'
  | bl b=>cases rx; exact SeqAt.EqAt.str_bool a t' b
  | int b=>obtain ⟨t,rfl⟩:=rx; exact SeqAt.EqAt.str_int a t' b t
  | str b=>obtain ⟨t,rfl⟩:=rx; exact SeqAt.EqAt.str_str a t' b t
  | _=>exact absurd (show false = true from fx) Bool.false_ne_true
 | _=>exact absurd (show false = true from fy) Bool.false_ne_true
def Ai (x:V) (u:Value):Bool:=match u with
 | .none=>Ah .cX x
 | .bool b=>Ah (.bl b) x
 | .int i _=>Ah (.int i) x
 | .str z _=>Ah (.str z) x
 | _=>false
theorem ye {x y:V} {u:Value} (r:RelV y u) (f:iA y = true):Ai x u = Ah y x:=by
 cases y with
 | cX=>cases r; rfl
 | bl b=>cases r; rfl
 | int i=>obtain ⟨t,rfl⟩:=r; rfl
 | str z=>obtain ⟨t,rfl⟩:=r; rfl
 | _=>exact absurd (show false = true from f) Bool.false_ne_true
theorem oR {x:V}:∀ {xs:List V} {us:List Value},Vals xs us→xs.all iA = true→us.any (Ai x) = xs.any fun y=>Ah y x
 | _,_,.nil,_=>rfl
 | y :: xs,u :: us,.cons r t,f=>by
  rw [List.all_cons,Bool.and_eq_true] at f
  rw [List.any_cons,List.any_cons,ye r f.1,oR t f.2]
theorem ko {A:Around} {s:Shared} {x:V} {v:Value} (rx:RelV x v) (fx:iA x = true):∀ {xs:List V} {us:List Value},Vals xs us→xs.all iA = true→∀ u∈us,SeqAt.EqAt A s u v (Ai x u)
 | _,_,.nil,_=>fun u hu=>by cases hu
 | y :: xs,u :: us,.cons r t,f=>fun u' hu=>by
  rw [List.all_cons,Bool.and_eq_true] at f
  rcases List.mem_cons.mp hu with rfl | hu
  ·rw [ye r f.1]; exact C0 r rx f.1 fx
  ·exact ko rx fx t f.2 u' hu
def Gx (x:V) (xs:List V):Bool:=xs.any fun y=>Ah y x
def Il (K:PySem.W.Frag) (neg:Bool):R2:=fun x y H Q=>∃ p xs,y = .ref p∧(ay K H p xs∨SqT K H p xs)∧iA x = true∧xs.all iA = true∧Q (.bl (if neg then !Gx x xs else Gx x xs)) H
theorem d6:lA X (compareOp .NotIn) (Il X.K true):=by
 intro pins s σ H x y v u Q I rx ry h
 obtain ⟨p,xs,rfl,hq,fx,fs,q⟩:=h
 cases ry
 rcases hq with hq | hq
 ·obtain ⟨aO,r,pl,hz⟩:=I.list hq
  refine SeqAt.notIn_listAt (Ai x) pl.isList (fun w hw=>ko rx fx r fs w (by simpa using hw)) ⟨.bl _,H,I,rfl,?_⟩
  rw [show aO.toArray.any (Ai x) = aO.any (Ai x) by simp,oR r fs]
  exact q
 ·obtain ⟨aO,r,pl,hz⟩:=I.tuple hq
  refine SeqAt.notIn_tupleAt (Ai x) pl (fun w hw=>ko rx fx r fs w (by simpa using hw)) ⟨.bl _,H,I,rfl,?_⟩
  rw [show aO.toArray.any (Ai x) = aO.any (Ai x) by simp,oR r fs]
  exact q
theorem iG:d5 X (.type "list") (fun xs H Q=>∃ p ys,xs = [.ref p]∧(ay X.K H p ys∨SqT X.K H p ys)∧∀ l,H l = none→Q (.ref l) (upd H l (.lst ys))):=by
 intro pins s σ H xs us Q I r h
 obtain ⟨p,ys,rfl,hq,q⟩:=h
 obtain ⟨u,rfl,rx⟩:=vals1 r
 cases rx
 have fin:∀ (aO:List Value),Vals ys aO→ys.length≤sizeLine→∀ (h':Heap) (c':Nat),(∀ b o',s.heap.get? b = some o'→h'.get? b = some o')→
   h'.get? s.heap.objs.size = some { cls:=.type "list",dict:=none,data:=.seq aO.toArray c',slots:=#[] }→EP X pins σ Q (.ref s.heap.objs.size) { s with heap:=h' }:=fun aO r' hz h' c' kp e=>
  ⟨.ref s.heap.objs.size,_,I.laid (t':=s.toks) kp (Nat.le_refl _) (show bg X.prog X.w _ h' _ (.lst ys) from ⟨hz,aO,c',r',e⟩),rfl,q _ (I.bA.fresh (Nat.le_refl _))⟩
 rcases hq with hq | hq
 ·obtain ⟨aO,r',pl,hz⟩:=I.list hq
  have hlen:=r'.length
  obtain ⟨o,ho,hc,n,hd⟩:=pl.isList
  exact call_list_seq p (.inl rfl) ho hc hd (fun h' c' kp e=>fin aO r' hz h' c' kp e) (by simp only [List.size_toArray] <;> omega)
 ·obtain ⟨aO,r',pl,hz⟩:=I.tuple hq
  have hlen:=r'.length
  obtain ⟨o,ho,hc,n,hd⟩:=pl
  exact call_list_seq p (.inr rfl) ho hc hd (fun h' c' kp e=>fin aO r' hz h' c' kp e) (by simp only [List.size_toArray] <;> omega)
def DC (K:PySem.W.Frag) (T:String) (x:V) (H:Hp):Prop:=match x with
 | .str _=>T = "str"
 | .int _=>T = "int"
 | .ref p=>(T = "list"∧∃ xs,ay K H p xs)∨(T = "tuple"∧∃ o,K.lookup p = some o∧o.cls = .type "tuple"∧o.dict = none)∨
   (T = "dict"∧((∃ aI,H p = some (.dK aI))∨∃ aI,H p = some (.dT aI)))∨(T = "set"∧∃ S n,H p = some (.set S n))
 | _=>False
theorem vV {pins:List (Addr×Obj)} {σ : St} {H:Hp} {s:Shared} {T:String} {x:V} {v:Value} (I:Inv X pins σ H s) (r:RelV x v) (ty:DC X.K T x H) :
  s.TypeIs v T∧∀ a,v = .ref a→∃ ob,s.heap.get? a = some ob∧ob.dict = none:=by
 cases x with
 | str z=>
  obtain ⟨t,rfl⟩:=r
  cases (show T = "str" from ty)
  exact ⟨typeIs_str s z t,fun _ e=>nomatch e⟩
 | int i=>
  obtain ⟨t,rfl⟩:=r
  cases (show T = "int" from ty)
  exact ⟨typeIs_int s i t,fun _ e=>nomatch e⟩
 | ref p=>
  cases r
  rcases ty with ⟨rfl,xs,hq⟩ | ⟨rfl,o,hk,hc,hd⟩ | ⟨rfl,hk⟩ | ⟨rfl,S,n,hk⟩
  ·obtain ⟨aO,_,pl,_⟩:=I.list hq
   refine ⟨pl.isList.typeIs,fun a e=>?_⟩
   cases e
   obtain ⟨o,n,e,c,hd,_⟩:=pl
   exact ⟨o,e,hd⟩
  ·refine ⟨⟨o,I.lH p o hk,hc⟩,fun a e=>?_⟩
   cases e
   exact ⟨o,I.lH _ o hk,hd⟩
  ·have z:∃ o,s.heap.get? p = some o∧o.ExactDict:=by
    rcases hk with ⟨aI,hk⟩ | ⟨aI,hk⟩
    ·obtain ⟨_,_,_,_,o,_,_,e,ex,_⟩:=I.bA p _ hk
     exact ⟨o,e,ex⟩
    ·obtain ⟨_,_,_,_,o,_,_,e,ex,_⟩:=I.bA p _ hk
     exact ⟨o,e,ex⟩
   obtain ⟨o,e,ex⟩:=z
   refine ⟨⟨o,e,ex.1⟩,fun a e2=>?_⟩
   cases e2
   exact ⟨o,e,ex.2.1⟩
  ·obtain ⟨o,_,_,_,e,ex,_⟩:=I.bA p _ hk
   refine ⟨⟨o,e,ex.1⟩,fun a e2=>?_⟩
   cases e2
   exact ⟨o,e,ex.2.1⟩
 | _=>exact False.elim ty
def DO (K:PySem.W.Frag) (T:String) (r:V→List V→Hp→VK→Prop) (to:TE):TE:=fun σ H Q=>to σ H fun x H1=>DC K T x H1∧r x [] H1 Q
def HE (K:PySem.W.Frag) (T:String) (r:V→List V→Hp→VK→Prop) (to:TE) (t:TA):TE:=fun σ H Q=>to σ H fun x H1=>DC K T x H1∧t σ H1 fun xs H2=>r x xs H2 Q
variable {o e:Expr} {es:List Expr} {to:TE} {t:TA} {name:Str} {apos en:Pos} {T id:String} {r:V→List V→Hp→VK→Prop}
theorem B7 (pa:PlainAttrs T) (slot:Slot T name id) (Kh:typeOf (.builtin id) = pure (.type "method_descriptor")) (hm:Mr X id r) (ho:PE X o to)
  (xY:attributeBase o name X.env (eval o X.env) = eval o X.env:=by rfl) (xU:(apos.endLine == en.line) = true:=by rfl):PE X (.Call (.Attribute o name apos) [] [] en) (DO X.K T r to):=by
 intro pins s σ H Q I h
 refine wpAny_Call_method0_late xY xU (cS (ho pins s σ H _ I h) fun v s1 ⟨x,H1,I1,r1,ty,q1⟩=>?_)
 obtain ⟨h1,h2⟩:=vV I1 r1 ty
 exact ⟨T,id,pa,slot,Kh,h1,h2,Calls.callWith_builtin rfl (PySem.evalArgs_none (hm pins s1 σ H1 x [] v [] Q I1 r1 .nil q1))⟩
theorem cN (pa:PlainAttrs T) (slot:Slot T name id) (Kh:typeOf (.builtin id) = pure (.type "method_descriptor")) (hm:Mr X id r) (ho:PE X o to) (ha:PA X (e :: es) t)
  (xY:attributeBase o name X.env (eval o X.env) = eval o X.env:=by rfl)
  (KP:((backTo en (starEach (e :: es) X.env)).all (fun x=>!x.1) && (backToKw en (keywordEach [] X.env)).all (fun x=>x.1.isSome)
   && decide ((e :: es).length + ([]:List Keyword).length + (if ([]:List Keyword).isEmpty then 0 else 1) < 30)) = true:=by rfl)
  (xU:(apos.endLine == en.line) = true:=by rfl) (hs:starEach (e :: es) X.env = (false,eval e X.env) :: starEach es X.env:=by rfl) (CG:(backTo en (starEach es X.env)).any (·.1) = false:=by rfl) :
  PE X (.Call (.Attribute o name apos) (e :: es) [] en) (HE X.K T r to t):=by
 intro pins s σ H Q I h
 refine wpAny_Call_method_late xY KP xU rfl (cS (ho pins s σ H _ I h) fun v s1 ⟨x,H1,I1,r1,ty,q1⟩=>?_)
 obtain ⟨h1,h2⟩:=vV I1 r1 ty
 refine ⟨T,id,pa,slot,Kh,h1,h2,?_⟩
 have hA:=ha en pins s1 σ H1 _ I1 q1
 rw [hs] at hA ⊢
 refine Calls.callWith_builtin (by show (false || (backTo en (starEach es X.env)).any (·.1)) = false; rw [CG] <;> rfl) (Calls.evalArgs_plain ?_)
 exact cS hA fun us s2 ⟨vs,H2,I2,r2,q2⟩=>hm pins s2 σ H2 x vs v us Q I2 r1 r2 q2
/- xs.append(e),list.index on a module's tuple .. are Mr facts of 06m -/
end
end L2
namespace L2
open PySem PySem.Spec PyProof.Rows
def Hg (X:Cx) (id:String) (r:V→List V→Hp→VK→Prop):Prop:=
 ∀ (pins:List (Addr×Obj)) (s:Shared) (σ : St) (H:Hp) (x:V) (xs:List V) (v:Value) (us:List Value) (Q:VK),Inv X pins σ H s→RelV x v→Vals xs us→r x xs H Q→
  wpAny (model X.prog X.w) X.A (call (.builtin id) (v :: us)) (EP X pins σ Q) X.xe s
theorem Vals.one:∀ {x:V} {us:List Value},Vals [x] us→∃ u,us = [u]∧RelV x u
 | _,_,.cons r .nil=>⟨_,rfl,r⟩
theorem Vals.zero:∀ {us:List Value},Vals [] us→us = []
 | _,.nil=>rfl
theorem Vals.reverse {xs:List V} {us:List Value} (h:Vals xs us):Vals xs.reverse us.reverse:=by
 induction h with
 | nil=>exact .nil
 | cons r t ih=>rw [List.reverse_cons,List.reverse_cons]; exact Vals.append ih (.cons r .nil)
section
variable {X:Cx} {pins:List (Addr×Obj)} {σ : St} {H:Hp} {s:Shared} {l b:Addr} {xs ys zs:List V}
theorem Inv.Cg {aO its':List Value} {n:Nat} {f:Array Value→Array Value} {t':Nat} (I:Inv X pins σ H s) (hH:H l = some (.lst xs))
  (e:s.heap.get? l = some { cls:=.type "list",data:=.seq aO.toArray n }) (hf:f aO.toArray = its'.toArray) (hv:Vals ys its') (hz:ys.length≤sizeLine) :
  Inv X pins σ (upd H l (.lst ys)) { s with heap:=s.heap.update l (Obj.mapSeq f),toks:=t' }:=by
 have q:=PySem.IsL.update e f
 rw [hf] at q
 refine I.write (x:=l) (e:=l) (by rw [hH]; exact trivial) (.inl rfl) (fun b' u hb hu=>(Heap.get?_update_other s.heap (Obj.mapSeq f) (Ne.symm hb)).trans hu) ⟨_,q⟩ ?_
 exact ⟨hz,its',_,hv,q⟩
theorem Inv.JG {aO:List Value} {t':Nat} (I:Inv X pins σ H s) (hv:Vals ys aO) (hz:ys.length≤sizeLine) :
  Inv X pins σ (upd H s.heap.objs.size (.lst ys)) { s with heap:=s.heap.push { cls:=.type "list",data:=.seq aO.toArray },toks:=t' }:=
 I.laid (fun _ _ q=>Heap.get?_push_of_some _ q) (Nat.le_refl _) ⟨hz,aO,0,hv,Heap.get?_push_size _ rfl⟩
theorem Inv.fresh (I:Inv X pins σ H s):H s.heap.objs.size = none:=I.bA.fresh (Nat.le_refl _)
theorem Inv.u5 (I:Inv X pins σ H s) (hH:H l = some (.lst xs)):xs.length≤sizeLine∧∃ (aO:List Value) (n:Nat),Vals xs aO∧xs.length = aO.length∧s.heap.get? l = some { cls:=.type "list",data:=.seq aO.toArray n }:=by
 obtain ⟨z,aO,n,r,e⟩:=I.bA l _ hH
 exact ⟨z,aO,n,r,r.length,e⟩
end
section
variable {X:Cx}
def nW:V→List V→Hp→VK→Prop:=fun x vs H Q=>∃ l xs y,x = .ref l∧vs = [y]∧H l = some (.lst xs)∧xs.length < sizeLine∧Q .cX (upd H l (.lst (xs ++ [y])))
theorem cK:Hg X "list.append" nW:=by
 intro pins s σ H x vs v us Q I rx rv h
 obtain ⟨l,xs,y,rfl,rfl,hH,hz,q⟩:=h
 cases rx
 obtain ⟨u,rfl,ru⟩:=rv.one
 obtain ⟨z,aO,n,r,hl,e⟩:=I.u5 hH
 refine call_meets F.slot_list_append ⟨_,e,rfl⟩ F.entry_list_append (F.args_list_append_2 _ _) (PySem.list_append l aO.toArray n u (by rw [List.size_toArray]; omega)) ⟨e,?_⟩
 refine ⟨.cX,_,I.Cg (its':=aO ++ [u]) hH e (by simp) (r.append (.cons ru .nil)) ?_,rfl,q⟩
 rw [List.length_append,List.length_singleton]
 omega
def Gk:V→List V→Hp→VK→Prop:=fun x vs H Q=>∃ l b xs zs,x = .ref l∧vs = [.ref b]∧H l = some (.lst xs)∧H b = some (.lst zs)∧xs.length + zs.length≤sizeLine∧Q .cX (upd H l (.lst (xs ++ zs)))
def PY:V→List V→Hp→VK→Prop:=fun x vs H Q=>∃ l xs y,x = .ref l∧vs = []∧H l = some (.lst xs)∧xs[xs.length - 1]? = some y∧Q y (upd H l (.lst xs.dropLast))
def Ih:V→List V→Hp→VK→Prop:=fun x vs H Q=>∃ l xs i k y,x = .ref l∧vs = [.int i]∧H l = some (.lst xs)∧-(2 ^ 63)≤i∧i < 2 ^ 63∧seqIndex? i xs.length = some k∧xs[k]? = some y∧Q y (upd H l (.lst (xs.eraseIdx k)))
def wX:V→List V→Hp→VK→Prop:=fun x vs H Q=>∃ l xs,x = .ref l∧vs = []∧H l = some (.lst xs)∧Q .cX (upd H l (.lst xs.reverse))
theorem rX:Hg X "list.reverse" wX:=by
 intro pins s σ H x vs v us Q I rx rv h
 obtain ⟨l,xs,rfl,rfl,hH,q⟩:=h
 cases rx
 have RE:=rv.zero
 subst RE
 obtain ⟨z,aO,n,r,hl,e⟩:=I.u5 hH
 refine call_meets F.slot_list_reverse ⟨_,e,rfl⟩ F.entry_list_reverse (F.args_list_reverse_1 _) (AutoSeq1.list_reverse_list_0 l aO.toArray n (by rw [List.size_toArray]; omega)) ⟨e,?_⟩
 refine ⟨.cX,_,I.Cg (its':=aO.reverse) hH e (by simp) r.reverse ?_,rfl,q⟩
 rw [List.length_reverse]
 omega
def Im:V→List V→Hp→VK→Prop:=fun x vs H Q=>∃ l xs,x = .ref l∧vs = []∧H l = some (.lst xs)∧Q .cX (upd H l (.lst []))
def Io:R2:=fun x y H Q=>∃ l b xs zs,x = .ref l∧y = .ref b∧H l = some (.lst xs)∧H b = some (.lst zs)∧xs.length + zs.length≤sizeLine∧∀ p,H p = none→Q (.ref p) (upd H p (.lst (xs ++ zs)))
theorem fI:lA X (binaryOp .Add) Io:=by
 intro pins s σ H x y v u Q I rx ry h
 obtain ⟨l,b,xs,zs,rfl,rfl,hH,hB,hz,q⟩:=h
 cases rx
 cases ry
 obtain ⟨z,aO,n,r,hl,e⟩:=I.u5 hH
 obtain ⟨z2,Cr,n2,r2,jq,e2⟩:=I.u5 hB
 refine PySem.P.add_list e e2 ?_ (by rw [List.size_toArray,List.size_toArray]; omega)
 have ea:aO.toArray ++ Cr.toArray = (aO ++ Cr).toArray:=by simp
 rw [ea]
 exact ⟨.ref _,_,I.JG (t':=s.toks) (r.append r2) (by rw [List.length_append]; omega),rfl,q _ I.fresh⟩
def PX:R2:=fun x y H Q=>∃ l k xs,x = .ref l∧y = .int k∧H l = some (.lst xs)∧-(2 ^ 63)≤k∧k < 2 ^ 63∧xs.length * k.toNat≤sizeLine∧
 ∀ p,H p = none→Q (.ref p) (upd H p (.lst (List.replicate k.toNat xs).flatten))
end
end L2
namespace L2
open PySem PySem.Spec PyProof.Rows
section
variable {κ : Type} [DecidableEq κ]
def fT (aI:List (κ×V)) (k : κ):Option V:=(aI.find? fun kv=>decide (kv.1 = k)).map (·.2)
def putK (aI:List (κ×V)) (k : κ) (v:V):List (κ×V):=
 if (aI.any fun kv=>decide (kv.1 = k)) = true then aI.map (fun kv=>if kv.1 = k then (kv.1,v) else kv) else aI ++ [(k,v)]
def yh (aI:List (κ×V)) (k : κ):List (κ×V):=aI.filter fun kv=>decide (kv.1≠k)
theorem gZ {p : κ×V} {r:List (κ×V)} {k : κ} (e:p.1 = k):fT (p :: r) k = some p.2:=by simp [fT,List.find?_cons,e]
theorem hJ {p : κ×V} {r:List (κ×V)} {k : κ} (e:¬ p.1 = k):fT (p :: r) k = fT r k:=by simp [fT,List.find?_cons,e]
theorem jQ (k : κ):∀ aI:List (κ×V),(aI.any fun kv=>decide (kv.1 = k)) = (fT aI k).isSome
 | []=>rfl
 | p :: r=>by
  rw [List.any_cons]
  by_cases e:p.1 = k
  ·simp only [gZ e,decide_eq_true e,Bool.true_or,Option.isSome_some]
  ·rw [hJ e,decide_eq_false e,Bool.false_or]; exact jQ k r
theorem jj (aI:List (κ×V)) (k : κ) (v:V):(putK aI k v).length≤aI.length + 1:=by
 unfold putK
 split
 ·rw [List.length_map]; omega
 ·rw [List.length_append,List.length_cons,List.length_nil]; omega
theorem w4 {aI:List (κ×V)} {k : κ} (v:V) (h:fT aI k = none):putK aI k v = aI ++ [(k,v)]:=by
 unfold putK
 rw [jQ,h]
 exact if_neg (by decide)
theorem sP.iV {o:Option V} {u:Option Value} (r:sP o u):o.isSome = u.isSome:=by
 cases o with
 | none=>cases u with
  | none=>rfl
  | some _=>exact (show False from r).elim
 | some _=>cases u with
  | none=>exact (show False from r).elim
  | some _=>rfl
theorem KV.val {aI:List (κ×V)} {vs:List (κ×Value)} (r:KV aI vs) (k : κ):sP (fT aI k) (valueAt vs k):=by
 unfold KV at r
 induction r with
 | nil=>exact True.intro
 | @cons p q ps qs h t ih=>
  obtain ⟨h1,h2⟩:=h
  by_cases e:p.1 = k
  ·have e':q.1 = k:=h1.symm.trans e
   have b:valueAt (q :: qs) k = some q.2:=by simp [valueAt,List.find?_cons,e']
   rw [gZ e,b]; exact h2
  ·have e':¬ q.1 = k:=fun z=>e (h1.trans z)
   have b:valueAt (q :: qs) k = valueAt qs k:=by simp [valueAt,List.find?_cons,e']
   rw [hJ e,b]; exact ih
theorem KV.any {aI:List (κ×V)} {vs:List (κ×Value)} (r:KV aI vs) (k : κ):(aI.any fun kv=>decide (kv.1 = k)) = vs.any fun kv=>decide (kv.1 = k):=by
 unfold KV at r
 induction r with
 | nil=>rfl
 | cons h t ih=>rw [List.any_cons,List.any_cons,ih,h.1]
theorem KV.BP {aI:List (κ×V)} {vs:List (κ×Value)} (r:KV aI vs) (k : κ) {y:V} {u:Value} (ry:RelV y u) :
  KV (aI.map fun kv=>if kv.1 = k then (kv.1,y) else kv) (vs.map fun kv=>if kv.1 = k then (kv.1,u) else kv):=by
 unfold KV at r ⊢
 induction r with
 | nil=>exact .nil
 | @cons p q ps qs h t ih=>
  rw [List.map_cons,List.map_cons]
  refine .cons ?_ ih
  obtain ⟨h1,h2⟩:=h
  by_cases e:p.1 = k
  ·rw [if_pos e,if_pos (h1.symm.trans e)]; exact ⟨h1,ry⟩
  ·rw [if_neg e,if_neg (fun z=>e (h1.trans z))]; exact ⟨h1,h2⟩
theorem KV.put {aI:List (κ×V)} {vs:List (κ×Value)} (r:KV aI vs) (k : κ) {y:V} {u:Value} (ry:RelV y u):KV (putK aI k y) (stored vs k u):=by
 unfold putK stored
 rw [r.any k]
 by_cases e:(vs.any fun kv=>decide (kv.1 = k)) = true
 ·rw [if_pos e,if_pos e]; exact r.BP k ry
 ·rw [if_neg e,if_neg e]; exact Paired.snoc r ⟨rfl,ry⟩
theorem KV.length {aI:List (κ×V)} {vs:List (κ×Value)} (r:KV aI vs):aI.length = vs.length:=Paired.length r
end
theorem xM {P:Program} {w:World} {k:Key} {u:Value} (r:RelV (kV k) u):(cL P w).is k u = true:=by
 cases k with
 | inl i=>obtain ⟨t,e⟩:=(show ∃ t,u = Value.int i t from r); subst e; exact p7 P w i t
 | inr x=>obtain ⟨t,e⟩:=(show ∃ t,u = Value.str x t from r); subst e; exact p6 P w x t
theorem mW {P:Program} {w:World}:∀ {ks:List Key} {us:List Value},Vals (ks.map kV) us→ItemsAre (cL P w) ks us
 | [],_,r=>by rw [List.map_nil] at r; cases r; exact .nil
 | k :: ks,_,r=>by
  rw [List.map_cons] at r
  cases r with
  | cons h t=>exact .cons (xM h) (mW t)
abbrev KT (H:Hp):List (List Key×V)→List (List Key×Addr×Value)→Prop:=Paired fun p q=>p.1 = q.1∧H q.2.1 = some (.tup (p.1.map kV))∧RelV p.2 q.2.2
theorem KT.val {H:Hp} {aI:List (List Key×V)} {xs:List (List Key×Addr×Value)} (r:KT H aI xs) (k:List Key):sP (fT aI k) ((atKey xs k).map (·.2)):=by
 induction r with
 | nil=>exact True.intro
 | @cons p q ps qs h t ih=>
  obtain ⟨h1,_,h2⟩:=h
  by_cases e:p.1 = k
  ·have e':q.1 = k:=h1.symm.trans e
   have b:atKey (q :: qs) k = some q.2:=by simp [atKey,List.find?_cons,e']
   rw [gZ e,b]; exact h2
  ·have e':¬ q.1 = k:=fun z=>e (h1.trans z)
   have b:atKey (q :: qs) k = atKey qs k:=by simp [atKey,List.find?_cons,e']
   rw [hJ e,b]; exact ih
theorem KT.BP {H:Hp} {aI:List (List Key×V)} {xs:List (List Key×Addr×Value)} (r:KT H aI xs) (k:List Key) {y:V} {u:Value} (ry:RelV y u) :
  KT H (aI.map fun kv=>if kv.1 = k then (kv.1,y) else kv) (xs.map (putAt k u)):=by
 induction r with
 | nil=>exact .nil
 | @cons p q ps qs h t ih=>
  rw [List.map_cons,List.map_cons]
  refine .cons ?_ ih
  obtain ⟨h1,h2,h3⟩:=h
  unfold putAt
  by_cases e:p.1 = k
  ·rw [if_pos e,if_pos (h1.symm.trans e)]; exact ⟨h1,h2,ry⟩
  ·rw [if_neg e,if_neg (fun z=>e (h1.trans z))]; exact ⟨h1,h2,h3⟩
theorem KT.put {H:Hp} {aI:List (List Key×V)} {xs:List (List Key×Addr×Value)} (r:KT H aI xs) (k:List Key) {b:Addr} {y:V} {u:Value} (hb:H b = some (.tup (k.map kV))) (ry:RelV y u) :
  KT H (putK aI k y) (storedH xs k b u):=by
 have e:(aI.any fun kv=>decide (kv.1 = k)) = (atKey xs k).isSome:=by
  rw [jQ,(r.val k).iV,Option.isSome_map]
 unfold putK storedH
 rw [e]
 by_cases q:(atKey xs k).isSome = true
 ·rw [if_pos q,if_pos q]; exact r.BP k ry
 ·rw [if_neg q,if_neg q]; exact Paired.snoc r ⟨rfl,hb,ry⟩
theorem KT.keeps {H H':Hp} {aI:List (List Key×V)} {xs:List (List Key×Addr×Value)} (r:KT H aI xs) (ht:∀ b ys,H b = some (.tup ys)→H' b = some (.tup ys)):KT H' aI xs:=
 Paired.zF r fun _ _ z=>⟨z.1,ht _ _ z.2.1,z.2.2⟩
section
variable {P:Program} {w:World} {H:Hp} {h:Heap} {a:Addr}
theorem AX {u:HO} (ok:gy P w H h) (e:Rd H a u):bg P w H h a u:=e.ok ok
theorem Bl {aI:List (Key×V)} (ok:gy P w H h) (e:Rd H a (.dK aI)):aI.length≤sizeLine∧(a == sysModules) = false∧∃ vs,KV aI vs∧h.DictOf (cL P w) a vs:=
 show bg P w H h a (.dK aI) from AX ok e
theorem Fp {aI:List (Key×V)} (ok:gy P w H h) (e:H a = some (.dK aI)):aI.length≤sizeLine∧(a == sysModules) = false∧∃ vs,KV aI vs∧h.DictOf (cL P w) a vs:=Bl ok (.inl e)
theorem sf {ks:List Key} (ok:gy P w H h) (e:H a = some (.tup (ks.map kV))):(tupleKind (cL P w)).is h ks a:=by
 obtain ⟨_,aO,r,o,h1,h2,n,h3⟩:=(show bg P w H h a (.tup (ks.map kV)) from ok a _ e)
 exact ⟨o,aO.toArray,n,h1,h2,h3,by simpa using mW r⟩
theorem Bk {aI:List (List Key×V)} (ok:gy P w H h) (e:Rd H a (.dT aI)):aI.length≤sizeLine∧(a == sysModules) = false∧
  ∃ xs,KT H aI xs∧h.DictOfH (tupleKind (cL P w)) a xs:=by
 obtain ⟨z,y,xs,r,o,es,ep,h1,h2,h3,h4,h5⟩:=(show bg P w H h a (.dT aI) from AX ok e)
 refine ⟨z,y,xs,r,o,es,ep,h1,h2,h3,h4,fun x hx=>?_,h5⟩
 have all:∀ {l:List (List Key×V)} {m:List (List Key×Addr×Value)},KT H l m→∀ x∈m,(tupleKind (cL P w)).is h x.1 x.2.1:=by
  intro l m q
  induction q with
  | nil=>intro x hx; exact nomatch hx
  | @cons p q ps qs hq t ih=>
   intro x hx
   rcases List.mem_cons.mp hx with e | hx
   ·subst e
    exact sf ok (by rw [← hq.1]; exact hq.2.1)
   ·exact ih x hx
 exact all r x hx
theorem Fo {aI:List (List Key×V)} (ok:gy P w H h) (e:H a = some (.dT aI)):aI.length≤sizeLine∧(a == sysModules) = false∧
  ∃ xs,KT H aI xs∧h.DictOfH (tupleKind (cL P w)) a xs:=Bk ok (.inl e)
end
def jd (H:Hp) (a:Addr) (y:V) (r:Option V):Prop:=
 (∃ aI k,Rd H a (.dK aI)∧y = kV k∧r = fT aI k)∨∃ aI k b,Rd H a (.dT aI)∧y = .ref b∧H b = some (.tup (k.map kV))∧r = fT aI k
def qS (H:Hp) (a:Addr) (y v:V) (H':Hp):Prop:=
 (∃ aI k,H a = some (.dK aI)∧y = kV k∧aI.length < sizeLine∧H' = upd H a (.dK (putK aI k v)))∨
 ∃ aI k b,H a = some (.dT aI)∧y = .ref b∧H b = some (.tup (k.map kV))∧aI.length < sizeLine∧H' = upd H a (.dT (putK aI k v))
theorem jd.t {H:Hp} {a b:Addr} {aI:List (List Key×V)} {k:List Key} (e:H a = some (.dT aI)) (eb:H b = some (.tup (k.map kV))):jd H a (.ref b) (fT aI k):=.inr ⟨aI,k,b,.inl e,rfl,eb,rfl⟩
theorem qS.t {H:Hp} {a b:Addr} {aI:List (List Key×V)} {k:List Key} {v:V} (e:H a = some (.dT aI)) (eb:H b = some (.tup (k.map kV))) (hl:aI.length < sizeLine) :
  qS H a (.ref b) v (upd H a (.dT (putK aI k v))):=.inr ⟨aI,k,b,e,rfl,eb,hl,rfl⟩
section
variable {X:Cx} {pins:List (Addr×Obj)} {σ : St} {H:Hp} {s:Shared} {a:Addr} {y v:V} {u r:Value} {o:Option V} {A:Around} {E:Value→Shared→Prop}
theorem Inv.big (I:Inv X pins σ H s):sysModules < s.heap.objs.size:=by
 have h:mainGlobals < s.heap.objs.size:=(I.mod.glob.keeps I.bk).lt
 exact Nat.lt_trans (by decide) h
theorem An {Q:Value→Shared→Prop} (hu:A.units + 1 < cLine) (I:Inv X pins σ H s) (g:jd H a y o) (ry:RelV y u) (h:∀ s',Inv X pins σ H s'→Q (.bool (!o.isSome)) s') :
  wpAny (model X.prog X.w) A (compareOp .NotIn u (.ref a)) Q E s:=by
 rcases g with ⟨aI,k,e,ey,l⟩ | ⟨aI,k,b,e,ey,eb,l⟩
 ·subst ey
  obtain ⟨z,hd,vs,rel,dd⟩:=Bl I.bA e
  refine wpAny_notIn_of (xM ry) hd dd.mapOf ?_
  rw [← (rel.val k).iV,← l]
  exact h _ (I.tok _)
 ·subst ey
  cases (show u = Value.ref b from ry)
  obtain ⟨z,hd,xs,rel,dd⟩:=Bk I.bA e
  refine wpAny_notIn_heap (tupleKind_room_in1 hu) (sf I.bA eb) hd dd ?_
  have q:=(rel.val k).iV
  rw [Option.isSome_map] at q
  rw [← q,← l]
  exact h _ (I.tok _)
theorem uw {h':Heap} {t':Nat} {ob:HO} (I:Inv X pins σ H s) (mu:F0 (H a)) (hs:Heap.SameBut a s.heap h') (he:∃ q,h'.get? a = some q) (new:bg X.prog X.w (upd H a ob) h' a ob) :
  Inv X pins σ (upd H a ob) { s with heap:=h',toks:=t' }:=
 I.write (x:=a) (e:=a) mu (.inl rfl) (fun b q hb z=>(hs.2 b hb).trans z) he new
theorem C2 {P:Program} {w:World} {H':Hp} {h':Heap} {aI:List (Key×V)} {vs:List (Key×Value)} (z:aI.length≤sizeLine) (hd:(a == sysModules) = false) (rel:KV aI vs) (dd:h'.DictOf (cL P w) a vs) :
  bg P w H' h' a (.dK aI):=⟨z,hd,vs,rel,dd⟩
theorem vp {H':Hp} {Q:Unit→Shared→Prop} (hu:A.units + 1 < cLine) (I:Inv X pins σ H s) (g:qS H a y v H') (ry:RelV y u) (rv:RelV v r) (h:∀ s',Inv X pins σ H' s'→Q () s') :
  wpAny (model X.prog X.w) A (setItem (.ref a) u r) Q E s:=by
 rcases g with ⟨aI,k,e,ey,l,eH⟩ | ⟨aI,k,b,e,ey,eb,l,eH⟩
 ·subst ey eH
  obtain ⟨z,hd,vs,rel,dd⟩:=Fp I.bA e
  have hz:vs.length≤sizeLine:=by rw [← rel.length]; exact z
  have hl:(putK aI k v).length≤sizeLine:=by have:=jj aI k v; omega
  refine wpAny_setItem_pairs (hsz:=hz) (xM ry) dd fun h' Hd hs=>h _ ?_
  have he:∃ q,h'.get? a = some q:=let ⟨q,_,_,hq,_⟩:=Hd; ⟨q,hq⟩
  exact uw I (by rw [e]; exact True.intro) hs he (C2 hl hd (rel.put k rv) Hd)
 ·subst ey eH
  cases (show u = Value.ref b from ry)
  obtain ⟨z,hd,xs,rel,dd⟩:=Fo I.bA e
  have hz:xs.length≤sizeLine:=by rw [← Paired.length rel]; exact z
  have hl:(putK aI k v).length≤sizeLine:=by have:=jj aI k v; omega
  refine wpAny_setItem_heap (hsz:=hz) (tupleKind_room_in1 hu) (sf I.bA eb) dd fun h' Hd hs=>h _ ?_
  obtain ⟨q,es,ep,hq,h2,h3,h4,_,h5⟩:=Hd
  refine uw I (by rw [e]; exact True.intro) hs ⟨q,hq⟩ ⟨hl,hd,_,(rel.put k eb rv).keeps fun c ys ec=>?_,q,es,ep,hq,h2,h3,h4,h5⟩
  rw [aq (Ez ec e (fun z=>nomatch z))]
  exact ec
end
def TR (i:Expr):Prop:=∀ ov iv,subscripted i false ov iv = operate [ov,iv] (getItem ov iv)
def ML (td ty:TE):TE:=fun σ H Q=>td σ H fun x H1=>ty σ H1 fun y H2=>∃ a v,x = .ref a∧jd H2 a y (some v)∧Q v H2
def Pf (ty td:TE):TE:=fun σ H Q=>ty σ H fun y H1=>td σ H1 fun x H2=>∃ a o,x = .ref a∧jd H2 a y o∧Q (.bl o.isSome) H2
def tD (ty td:TE):TE:=fun σ H Q=>ty σ H fun y H1=>td σ H1 fun x H2=>∃ a o,x = .ref a∧jd H2 a y o∧Q (.bl (!o.isSome)) H2
def AW (td ty tv:TE):TS:=fun D σ H=>tv σ H fun v H1=>td σ H1 fun x H2=>ty σ H2 fun y H3=>∃ a H4,x = .ref a∧qS H3 a y v H4∧D.nx σ H4
def MT (td ty tv:TE) (rd:V→V→Hp→VK→Prop):TS:=fun D σ H=>td σ H fun x H1=>ty σ H1 fun y H2=>∃ a v,x = .ref a∧jd H2 a y (some v)∧
 tv σ H2 fun y2 H3=>rd v y2 H3 fun z H4=>∃ H5,qS H4 a y z H5∧D.nx σ H5
def MS (td ty:TE):TS:=fun D σ H=>td σ H fun x H1=>ty σ H1 fun y H2=>∃ a aI k,x = .ref a∧H2 a = some (.dK aI)∧y = kV k∧(fT aI k).isSome = true∧D.nx σ (upd H2 a (.dK (yh aI k)))
section
variable {X:Cx} {o i e value:Expr} {pos pos' Hl:Pos} {td ty tv:TE}
theorem iU (hu:X.A.units + 1 < cLine) (hi:PE X i ty) (ho:PE X o td):PC X .NotIn i o (tD ty td):=by
 intro pins s σ H Q I h
 refine cS (hi pins s σ H _ I h) fun iv s1 ⟨y,H1,I1,ry,q1⟩=>cS (ho pins s1 σ H1 _ I1 q1) fun u s2 ⟨x,H2,I2,rx,a,ov,ex,g,q2⟩=>?_
 subst ex
 obtain rfl:u = Value.ref a:=rx
 exact An hu I2 g ry fun s3 I3=>⟨.bl (!ov.isSome),H2,I3,rfl,q2⟩
theorem tT (hu:X.A.units + 1 < cLine) (ho:PE X o td) (hi:PE X i ty) (hv:PE X value tv) (hs:swapsWith value (some (.Subscript o i pos')) pos.line X.env = pure false) :
  PS X (.Assign [.Subscript o i pos'] value pos) (AW td ty tv):=by
 intro pins s σ H D I h
 refine wpAny_Assign_Subscript (cS (hv pins s σ H _ I h) fun r s1 ⟨v,H1,I1,rv,q1⟩=>cS (ho pins s1 σ H1 _ I1 q1) fun u s2 ⟨x,H2,I2,rx,q2⟩=>cS (hi pins s2 σ H2 _ I2 q2) fun iv s3 ⟨y,H3,I3,ry,a,H4,ex,g,q3⟩=>?_) hs
 subst ex
 obtain rfl:u = Value.ref a:=rx
 exact vp hu I3 g ry rv fun s4 I4=>⟨σ,H4,I4,q3⟩
end
theorem yg {P:Program} {w:World} {H:Hp} (h:Heap) (hb:sysModules < h.objs.size):bg P w H (h.push { cls:=.type "dict",data:=.dict #[] }) h.objs.size (.dT []):=
 ⟨Nat.zero_le _,beq_eq_false_iff_ne.mpr (Ne.symm (Nat.ne_of_lt hb)),[],.nil,_,#[],0,Heap.get?_push_size _ rfl,⟨rfl,rfl,rfl⟩,rfl,rfl,List.nodup_nil⟩
def Hv:TE:=fun _ H Q=>∀ p,H p = none→Q (.ref p) (upd H p (.dK []))
def BF:TE:=fun _ H Q=>∀ p,H p = none→Q (.ref p) (upd H p (.dT []))
section
variable {X:Cx} {pos:Pos}
theorem pV:PE X (.Dict [] [] pos) BF:=fun pins s σ H Q I h=>
 wpAny_Dict_empty ⟨.ref s.heap.objs.size,_,I.laid (a:=s.heap.objs.size) (o:=.dT []) (t':=s.toks) (fun _ _ q=>Heap.get?_push_of_some _ q) (Nat.le_refl _) (yg s.heap I.big),rfl,h _ (I.bA.fresh (Nat.le_refl _))⟩
end
def nH:List (TE×TE)→St→Hp→(List (V×V)→Hp→Prop)→Prop
 | [],_,H,Q=>Q [] H
 | (tk,tv) :: r,σ,H,Q=>tk σ H fun x H1=>tv σ H1 fun y H2=>nH r σ H2 fun ps H3=>Q ((x,y) :: ps) H3
abbrev VV:List (V×V)→List (Value×Value)→Prop:=Paired fun p q=>RelV p.1 q.1∧RelV p.2 q.2
def Vi (X:Cx) (pos:Pos) (keys:List (Option Expr)) (values:List Expr) (Hk:List (TE×TE)):Prop:=
 ∀ (pins:List (Addr×Obj)) (s:Shared) (σ : St) (H:Hp) (Q:List (V×V)→Hp→Prop),Inv X pins σ H s→nH Hk σ H Q→
  wpAny (model X.prog X.w) X.A (evalPairs (pairTrees keys values X.env pos)) (fun vs s'=>∃ ps H',Inv X pins σ H' s'∧VV ps vs∧Q ps H') X.xe s
def Ce (aI more:List (Key×V)):List (Key×V):=more.foldl (fun acc kv=>putK acc kv.1 kv.2) aI
def MK (Hk:List (TE×TE)):TE:=fun σ H Q=>∀ p,H p = none→nH Hk σ (upd H p (.dK [])) fun ps H2=>H2 p = some (.dK [])∧∃ aI:List (Key×V),ps = aI.map (fun kv=>(kV kv.1,kv.2))∧aI.length≤15∧Q (.ref p) (upd H2 p (.dK (Ce [] aI)))
structure M1 (X:Cx) (o:Expr) (m:Str) (apos:Pos) (e:Expr) (en:Pos):Prop where
 base:attributeBase o m X.env (eval o X.env) = eval o X.env
 uq:((backTo en (starEach [e] X.env)).all (fun x=>!x.1) && (backToKw en (keywordEach [] X.env)).all (fun x=>x.1.isSome)
  && decide (([e]:List Expr).length + ([]:List Keyword).length + (if ([]:List Keyword).isEmpty then 0 else 1) < 30)) = true
 line:(apos.endLine == en.line) = true
 trees:backTo en (starEach [e] X.env) = [(false,eval e X.env)]
structure M2 (X:Cx) (o:Expr) (m:Str) (apos:Pos) (e f:Expr) (en:Pos):Prop where
 base:attributeBase o m X.env (eval o X.env) = eval o X.env
 uq:((backTo en (starEach [e,f] X.env)).all (fun x=>!x.1) && (backToKw en (keywordEach [] X.env)).all (fun x=>x.1.isSome)
  && decide (([e,f]:List Expr).length + ([]:List Keyword).length + (if ([]:List Keyword).isEmpty then 0 else 1) < 30)) = true
 line:(apos.endLine == en.line) = true
 trees:backTo en (starEach [e,f] X.env) = [(false,eval e X.env),(false,eval f X.env)]
def F2 (H:Hp) (a:Addr):Prop:=(∃ aI,Rd H a (.dK aI))∨∃ aI,Rd H a (.dT aI)
def Hz (td ty:TE):TE:=fun σ H Q=>td σ H fun x H1=>∃ a,x = .ref a∧F2 H1 a∧ty σ H1 fun y H2=>∃ o,jd H2 a y o∧Q (o.getD .cX) H2
def Hw (td ty tx:TE):TE:=fun σ H Q=>td σ H fun x H1=>∃ a,x = .ref a∧F2 H1 a∧ty σ H1 fun y H2=>tx σ H2 fun z H3=>∃ o,jd H3 a y o∧Q (o.getD z) H3
def Hu (td ty:TE):TE:=fun σ H Q=>td σ H fun x H1=>∃ a,x = .ref a∧F2 H1 a∧ty σ H1 fun y H2=>∃ aI k v,H2 a = some (.dK aI)∧y = kV k∧fT aI k = some v∧Q v (upd H2 a (.dK (yh aI k)))
def Ht (td ty tx:TE):TE:=fun σ H Q=>td σ H fun x H1=>∃ a,x = .ref a∧F2 H1 a∧ty σ H1 fun y H2=>tx σ H2 fun z H3=>∃ aI k,H3 a = some (.dK aI)∧y = kV k∧
 (∀ v,fT aI k = some v→Q v (upd H3 a (.dK (yh aI k))))∧(fT aI k = none→Q z H3)
end L2
namespace OS
open PySem PySem.W PySem.Calls PyProof.Rows
theorem jz {P:Params} {h:Heap}:∀ (ns:List Int) (vs:List Value),WellAll P h vs (ns.map WData.int)→IntsAre vs ns:=by
 intro ns
 induction ns with
 | nil=>
  intro vs w
  rw [List.map_nil] at w
  cases w
  exact .nil
 | cons n ns ih=>
  intro vs w
  rw [List.map_cons] at w
  cases w with
  | cons a b=>
   cases a
   exact .cons _ _ (ih _ b)
theorem uP {l:OpenLaw} {n:Nat} (hn:l.most = some n) {P:Params} {h:Heap} {args:List WData} {vals:List Value}
  (zT:l.row.toRowW.claim.pre args = true) (Kg:WellAll P h vals args) :
  ∃ a vs ns,vals = [Value.ref a]∧args = [WData.list (ns.map WData.int)]∧h.get? a = some { cls:=.type "list",data:=.seq vs.toArray }∧IntsAre vs ns∧ns.length≤n:=by
 have RL:WShape.hasAll [] args [.list .int] = true:=(pre_splitW zT).1
 have hc:l.pre.holds [] { args:=args } = true:=(pre_splitW zT).2
 obtain ⟨d,r,rfl,h1,h2⟩:=hasAllW_cons RL
 obtain rfl:=hasAllW_nil h2
 obtain ⟨xs,rfl,h3⟩:=hasW_list h1
 obtain ⟨ns,rfl⟩:=items_int h3
 have hlen:ns.length≤n:=by
  unfold OpenLaw.pre at hc
  have h4:(WTm.not (.lt (.lit (.int (n:Int))) (.len (.arg 0)))).holds [] { args:=[.list (ns.map .int)] } = true:=by
   have h4:=(holds_andW hc).1
   rw [hn] at h4
   exact h4
  have h5:=condW_of h4 (w_not (w_lt w_lit (w_len_list (w_arg rfl))))
  rw [List.length_map] at h5
  refine Nat.le_of_not_lt fun q=>?_
  have q':(n:Int) < ((ns.length:Nat):Int):=by omega
  first
   | (rw [decide_eq_true q'] at h5; exact absurd h5 (by decide))
   | (simp at h5; omega)
 cases Kg with
 | cons w1 w2=>
  cases w2
  cases w1 with
  | list ho KY=>exact ⟨_,_,ns,rfl,rfl,ho,jz ns _ KY,hlen⟩
theorem uV (l:OpenLaw) (args:List WData):l.row.toRowW.claim.post args (.bool true) args = true:=
 postW_of (r:=l.row.toRowW) (X:=(true == true))
  (show WShape.has [] (.bool true) .bool = true by first | rfl | decide | simp [WShape.has,WShape.arms,WShape.armsAll])
  (show (WTm.eq .res (.lit (.bool true))).value [] { args:=args,res:=some (.bool true),after:=args } = some (.bool (true == true)) from w_eq_bool (w_res rfl) w_lit) rfl
theorem qJ {l:OpenLaw} {n:Nat} {q:Program} {loose:List Str} {XP:(Str→Option Value)→Heap→Prop} {YP:World→Heap→Prop} {d:DefRec}
  (hn:l.most = some n) (CP:d.params.defaults = [])
  (call:∀ (w:World) (s₀ s₁ : Shared) (mg mb:Str→Option Value) (fa:Addr) (o:Obj) (pm cd doc:Value) (a:Addr) (vs:List Value) (ns:List Int),
   Ground q loose [] XP w s₀ mg mb s₁.heap→YP w s₁.heap→
   s₁.heap.get? fa = some o→o.data = .func (docDef d.name d.params d.body d.scope pm cd doc)→s₁.heap.CodeRec cd d.name→mg d.name = some (.ref fa)→
   s₁.heap.get? a = some { cls:=.type "list",data:=.seq vs.toArray }→IntsAre vs ns→ns.length≤n→s₁.gens = #[]→
   codeAny (model l.prog w) callerA (.call (.ref fa) ⟨[.ref a],[]⟩) (fun r s'=>r = .ok (.ret (.bool true))∧OldK s₁.heap s'.heap∧s'.os = s₁.os∧AllBare s'.gens) s₁) :
  WalkO q loose XP YP l.row.toRowW d [] (fun f vs=>PySem.call f vs):=by
 intro w s₀ s₁ mg mb G Y fa o pm cd doc dV kV ho hd su hD ER hg args vals as zT R6 U2 Kg U3
 obtain rfl:dV = .none:=Dflts.none hD CP
 obtain rfl:kV = .none:=Dflts.noKw hD
 obtain ⟨a,vs,ns,rfl,rfl,CJ,hints,hlen⟩:=uP hn zT Kg
 refine enter_call (codeAny_mono (call w s₀ s₁ mg mb fa o pm cd doc a vs ns G Y ho (fd_plain hd) su ER CJ hints hlen hg) fun r s' hq=>?_)
 obtain ⟨rfl,h2,h3,h4⟩:=hq
 exact ⟨.inl ⟨.bool true,.bool true,[],rfl,fun _=>rfl,.bool true,uV l _,fun _=>⟨List.Pairwise.nil,fun _ hm=>(nomatch hm)⟩⟩,h2,h3,h4⟩
section
variable {prog:Program} {w:World} {A:Around} {E:Value→Shared→Prop} {s:Shared} {K:Frag}
def Jy (h:Heap):Heap:={ h with objs:=#[] }
def ledger (h:Heap) (L d:Addr):List (Addr×Obj):=(List.range h.objs.size).filterMap fun a=>if a = L∨a = d then none else (h.get? a).map fun o=>(a,o)
end
end OS
namespace L2
open PySem PySem.Spec PyProof.Rows
theorem iO:∀ {vs:List Value} {ns:List Int},IntsAre vs ns→Vals (ns.map V.int) vs
 | _,_,.nil=>.nil
 | _,_,.cons n t h=>.cons ⟨t,rfl⟩ (iO h)
def De (H:Hp):Prop:=∀ b,H b = none∨∃ o xs,H b = some (.kR o (.lst xs))
theorem xH {P:Program} {w:World} {K:PySem.W.Frag} {mg mb:Str→Option Value} {CX:qT} {k:Nat} {fa a:Addr} {fd:FuncData} {x:Str} {sp:Sp} {s₁ : Shared} {vs:List Value} {ns:List Int}
  (KX:K.In s₁.heap) (yJ:s₁.heap.Ns mainGlobals mg) (hb:s₁.heap.Ns builtinsNs mb) (Sq:∀ x:Str,x≠ "__name__"→mb x = bootBuiltins x) (KD:s₁.heap.NoLimit) (hg:s₁.gens = #[])
  (ha:s₁.heap.get? a = some { cls:=.type "list",data:=.seq vs.toArray }) (hi:IntsAre vs ns) (hl:ns.length≤sizeLine) (hr:dP k callerA)
  (F:∀ base:Heap,K.In base→base.Ns mainGlobals mg→mB P w K mg base CX k fa fd [x] sp) (E5:∀ (s:Shared) (u:Value),BindsTo s fd ⟨[u],[]⟩ [(x,u)])
  (vL:∀ H:Hp,De H→ay K H a (ns.map V.int)→sp [.ref a] H (fun v _=>v = .bl true) fun _ _ _=>False)
  (K4:∀ H e s',CX [] H s₁ (fun _ _ _=>False) e s'→False) :
  codeAny (model P w) callerA (.call (.ref fa) ⟨[.ref a],[]⟩) (fun r s'=>r = .ok (.ret (.bool true))∧OldK s₁.heap s'.heap∧s'.os = s₁.os∧AllBare s'.gens) s₁:=by
 have rv:=iO hi
 have JH:=hi.length
 -- from an abstract heap in My nothing but vX wt may be tracked
 have core:∀ H:Hp,De H→ay K H a (ns.map V.int)→gy P w H s₁.heap→(∀ b,H b≠none→b = a)→(H a≠none→K.lookup a = none)→
   codeAny (model P w) callerA (.call (.ref fa) ⟨[.ref a],[]⟩) (fun r s'=>r = .ok (.ret (.bool true))∧OldK s₁.heap s'.heap∧s'.os = s₁.os∧AllBare s'.gens) s₁:=by
  intro H hO hS bA hA hK
  have uB:∀ {b:Addr} {o:Obj},s₁.heap.get? b = some o→H b = none→(oE s₁.heap H).get? b = some o:=fun e n=>xX e n
  have Es:∀ {b:Addr} {o:Obj} {es:Array DictEntry} {ep:Nat},s₁.heap.get? b = some o→o.data = .dict es ep→H b = none:=fun {b o es ep} e d=>by
   cases q:H b with
   | none=>rfl
   | some u=>
    have e':b = a:=hA b (by rw [q]; simp)
    subst e'
    rw [ha] at e; cases e
    have d':Data.seq vs.toArray _ = Data.dict es ep:=d
    cases d'
  have Gr:∀ {b:Addr} {m:Str→Option Value},s₁.heap.Ns b m→(oE s₁.heap H).Ns b m:=fun {b m} ⟨o,es,ep,e,d,r⟩=>⟨o,es,ep,uB e (Es e d),d,r⟩
  have Og:K.In (oE s₁.heap H):=fun b o e=>uB (KX b o e) (by
   cases q:H b with
   | none=>rfl
   | some u=>
    have e':b = a:=hA b (by rw [q]; simp)
    subst e'
    rw [hK (by rw [q]; simp)] at e; cases e)
  have hM:Mod K mg (oE s₁.heap H):=⟨Og,Gr yJ,⟨mb,Gr hb,Sq⟩,let ⟨mc,h1,h2⟩:=KD; ⟨mc,Gr h1,h2⟩⟩
  have e0:AJ P w K mg (oE s₁.heap H) callerA [] s₁ H:=⟨rfl,hM,fun b o e=>zA e,Nat.le_of_eq (vf _ _),trivial,fun b hb=>absurd (show b∈([]:List Addr) from hb) (by simp),bA,.of_eq hg⟩
  refine codeAny_mono ((F _ Og (Gr yJ)).run callerA [] s₁ H ⟨[.ref a],[]⟩ [.ref a] [.ref a] _ _ hr e0 (E5 s₁ (.ref a)) (.cons rfl .nil) (vL H hO hS)) fun r s' h=>?_
  cases r with
  | error e=>exact (K4 H e s' h).elim
  | ok fl=>
   cases fl with
   | next=>exact False.elim h
   | brk=>exact False.elim h
   | cont=>exact False.elim h
   | ret u=>
    obtain ⟨v,H',os,bare,un,Kr,r',q⟩:=h
    have q':v = .bl true:=q
    subst q'
    obtain rfl:u = Value.bool true:=r'
    refine ⟨rfl,OldK.of_keep fun b o e=>?_,os,bare⟩
    cases q:H b with
    | none=>exact un.keep b o e q (by intro z; exact absurd (show b∈([]:List Addr) from z) (by simp)) (by simp)
    | some u=>
     rcases hO b with z | ⟨ob,xs,z⟩
     ·rw [q] at z; cases z
     ·have z2:=un.jA b ob _ z
      obtain ⟨e1,_⟩:=bA b _ z
      obtain ⟨e2,_⟩:=Kr b _ z2
      rw [e] at e1; cases e1
      exact e2
 cases hk:K.lookup a with
 | some o=>
  -- vX wt is one of vX module's own objects
  have e:=KX a o hk
  rw [ha] at e
  cases e
  refine core (fun _=>none) (fun _=>.inl rfl) (.inr ⟨_,vs.toArray,_,hk,rfl,rfl,rfl,by rw [List.size_toArray,JH]; exact hl,by simpa using rv⟩) (fun b u z=>by have z':(none:Option HO) = some u:=z; cases z') (fun b z=>absurd rfl z) fun z=>absurd rfl z
 | none=>
  refine core (fun b=>if b = a then some (.kR { cls:=.type "list",data:=.seq vs.toArray } (.lst (ns.map V.int))) else none) (fun b=>?_) (.inl (.inr ⟨{ cls:=.type "list",data:=.seq vs.toArray },if_pos rfl⟩)) (fun b u z=>?_) (fun b z=>?_) fun _=>hk
  ·by_cases hb:b = a
   ·exact .inr ⟨_,_,if_pos hb⟩
   ·exact .inl (if_neg hb)
  ·by_cases hb:b = a
   ·have z':=(if_pos hb).symm.trans z
    cases z'
    subst hb
    exact ⟨ha,by rw [List.length_map]; exact hl,vs,_,rv,ha⟩
   ·have z':=(if_neg hb).symm.trans z
    cases z'
  ·by_cases hb:b = a
   ·exact hb
   ·exact absurd (if_neg hb) z
end L2
namespace L2
open PySem PySem.Spec PyProof.Rows
abbrev Vm {K:PySem.W.Frag} {h:Heap} (_:K.In h):PySem.W.Frag:=K
theorem yV {l:PySem.W.OpenLaw} {n k:Nat} {q:Program} {loose:List Str} {XP:(Str→Option Value)→Heap→Prop} {YP:World→Heap→Prop} {d:DefRec} {K:Params→PySem.W.Frag} {CX:World→qT} {sp:World→Sp} {x:Str}
  (hn:l.most = some n) (R1:n≤sizeLine) (CP:d.params.defaults = []) (hr:dP k callerA)
  (hY:∀ (w:World) (h:Heap),YP w h→(K w.params).In h)
  (F:∀ (w:World) (mg:Str→Option Value) (fa:Addr) (h:Heap),(K w.params).In h→h.Ns mainGlobals mg→mg d.name = some (.ref fa)→
   ∃ fd:FuncData,(∀ (s:Shared) (u:Value),BindsTo s fd ⟨[u],[]⟩ [(x,u)])∧
    ∀ base:Heap,(K w.params).In base→base.Ns mainGlobals mg→mB l.prog w (K w.params) mg base (CX w) k fa fd [x] (sp w))
  (vL:∀ (w:World) (H:Hp) (a:Addr) (ns:List Int),ns.length≤n→De H→ay (K w.params) H a (ns.map V.int)→sp w [.ref a] H (fun v _=>v = .bl true) fun _ _ _=>False)
  (K4:∀ (w:World) (H:Hp) (s:Shared) (e:Value) (s':Shared),CX w [] H s (fun _ _ _=>False) e s'→False) :
  PySem.W.WalkO q loose XP YP l.row.toRowW d [] (fun f vs=>PySem.call f vs):=by
 refine OS.qJ hn CP fun w s₀ s₁ mg mb fa o pm cd doc a vs ns G Y ho hd su ER CJ hints hlen hg=>?_
 have KX:=hY w _ Y
 obtain ⟨fd,hb,hF⟩:=F w mg fa _ KX G.T.g ER
 exact xH KX G.T.g G.T.b G.T.builtins G.T.nolimit hg CJ hints (Nat.le_trans hlen R1) hr hF hb (fun H hO hS=>vL w H a ns hlen hO hS) fun H e s'=>K4 w H s₁ e s'
end L2
namespace L2
open PySem PySem.Spec PyProof.Rows
def inClass (s:Stmt) (j:Nat):Stmt:=match s with
 | .ClassDef _ _ _ body _ _ _ _ _ _ _=>body.getD j (.Pass ⟨0,0,0,0⟩)
 | _=>.Pass ⟨0,0,0,0⟩
def aP (s:Stmt):Arguments:=match s with
 | .FunctionDef _ a _ _ _ _ _ _ _ _=>a
 | _=>{ posonlyargs:=[],args:=[],vararg:=none,kwonlyargs:=[],kw_defaults:=[],kwarg:=none,defaults:=[] }
def aL (s:Stmt):List Stmt:=match s with
 | .FunctionDef _ _ b _ _ _ _ _ _ _=>b
 | _=>[]
def aj (s:Stmt):Scope:=match s with
 | .FunctionDef _ _ _ _ _ _ sc _ _ _=>sc
 | _=>{ kind:=.function,names:=[],isGenerator:=false,isCoroutine:=false }
abbrev Vr:qT:=fun _ _ _ _ _ _=>False
abbrev E0:XK:=fun _ _ _=>False
structure Dg (K:PySem.W.Frag) (x qual:Str) (st:Stmt) (f:Addr) (fd:FuncData):Prop where
 ex:∃ (oc:Value) (od:Option Addr) (kV doc pm:Value) (an:Option Addr) (de ct:Value) (vI:Array (Option Value)),
  fd = PySem.W.fnOf x qual (aP st) (aL st) (aj st) .none kV doc pm an de ct∧K.lookup f = some ⟨oc,od,.func fd,vI⟩∧PySem.W.codeIn K de qual = true
 kp:PySem.W.keepIn K (.ref f) = true
section
variable {P:Program} {w:World} {K:PySem.W.Frag} {mg:Str→Option Value} {base:Heap}
theorem Dg.binds {x qual:Str} {st:Stmt} {f:Addr} {fd:FuncData} {ps:List Str} (F:Dg K x qual st f fd)
  (h:∀ (kV doc pm:Value) (an:Option Addr) (de ct:Value) (us:List Value),us.length = ps.length→bindArgs (PySem.W.fnOf x qual (aP st) (aL st) (aj st) .none kV doc pm an de ct) ⟨us,[]⟩ = pure (ps.zip us)):Binds K fd ps []:=by
 obtain ⟨oc,od,kV,doc,pm,an,de,ct,vI,rfl,lk,su⟩:=F.ex
 exact .all (h kV doc pm an de ct)
theorem aF {x qual:Str} {st:Stmt} {f:Addr} {oc:Value} {od an:Option Addr} {vI:Array (Option Value)} {kV doc pm de ct:Value} (l:K.lookup f = some ⟨oc,od,.func (PySem.W.fnOf x qual (aP st) (aL st) (aj st) .none kV doc pm an de ct),vI⟩)
  (c:PySem.W.codeIn K de qual = true) (k:PySem.W.keepIn K (.ref f) = true):Dg K x qual st f (PySem.W.fnOf x qual (aP st) (aL st) (aj st) .none kV doc pm an de ct):=⟨⟨oc,od,kV,doc,pm,an,de,ct,vI,rfl,l,c⟩,k⟩
end
theorem qh {A:Around} {k:Nat} (hr:dP k A):A.units + 1 < cLine:=Nat.lt_of_le_of_lt (Nat.add_le_add_left (by decide:1≤64) _) hr.units
section
variable {X:Cx}
theorem pv (i:Nat) {x:Str} {pos:Pos} (hN:X.N[i]? = some x:=by rfl) (hv:He X.env.scope x:=by first | exact Or.inl rfl | exact Or.inr (Or.inl rfl) | exact Or.inr (Or.inr rfl)) (hd:(x == ("__debug__" : Str)) = false:=by decide)
  (su:(x == ("__classdict__" : Str)) = false:=by decide):PE X (.Name x pos) (fS i):=B4 hN hv hd su
end
theorem zM {A B:Prop} (h:B):if false = true then A else B:=by
 rw [if_neg Bool.false_ne_true]
 exact h
theorem zL {A B:Prop} (h:A):if true = true then A else B:=by
 rw [if_pos rfl]
 exact h
def ah (H H':Hp):Prop:=∀ b o,H b = some o→H' b = some o
theorem ah.trans {H H1 H2:Hp} (a:ah H H1) (b:ah H1 H2):ah H H2:=fun c o h=>b c o (a c o h)
theorem ah.free {H H':Hp} (e:ah H H') {l:Addr} (h:H' l = Option.none):H l = Option.none:=by
 cases q:H l with
 | none=>rfl
 | some o=>
  rw [e l o q] at h
  cases h
theorem ah.seq {K:PySem.W.Frag} {H H':Hp} {a:Addr} {xs:List V} (e:ah H H') (h:ay K H a xs):ay K H' a xs:=by
 rcases h with (h | ⟨o,h⟩) | h
 ·exact .inl (.inl (e _ _ h))
 ·exact .inl (.inr ⟨o,e _ _ h⟩)
 ·exact .inr h
end L2

section
namespace L2
open PySem PySem.Spec PyProof.Rows
def Sz (n:Nat) (x:Int):Prop:=x.natAbs < 2 ^ n
theorem Sz.mono {m n:Nat} {x:Int} (h:Sz m x) (R4:m≤n):Sz n x:=Nat.lt_of_lt_of_le h (Nat.pow_le_pow_right (by decide) R4)
theorem Sz.A9 {m n:Nat} {x y:Int} (hx:Sz m x) (hy:Sz n y) (hm:m + n≤134217728:=by decide):IntMulOk x y:=
 PySem.IntMulOk.of_le (PySem.intBits_le_iff.mpr hx) (PySem.intBits_le_iff.mpr hy) hm
section
variable {X:Cx}
theorem fH:lA X (binaryOp .Mult) (rI IntMulOk fun i j=>.int (i * j)):=Gp fun _ _ _ _ _ _ _ hc q=>mul_int q hc
def Mx (_ j:Int):Prop:=j≠0∧Sz 9000 j
theorem Mx.np {i j:Int} (h:Mx i j):Builtin.divisionGoesByPylong i j = false:=by
 refine PyProof.noPylong_of_log2 ?_
 have h0:j.natAbs≠0:=fun e=>h.1 (Int.natAbs_eq_zero.mp e)
 exact (Nat.log2_lt h0).mpr h.2
def Mw (_ j:Int):Prop:=0 < j∧Sz 9000 j
theorem cQ:lA X (binaryOp .FloorDiv) (rI Mw fun i j=>.int (i / j)):=Gp fun i j _ _ _ _ _ hc q=>by
 have h1:(0:Int) < j:=hc.1
 exact floordiv_int (by omega) (by rw [Int.fdiv_eq_ediv_of_nonneg i (by omega)]; exact q) (.inl (Mx.np ⟨by omega,hc.2⟩))
end
structure df (P:Program) (w:World) (K:PySem.W.Frag) (mg:Str→Option Value) (base:Heap) (CX:qT) (x:Str) (k:Nat) (ps:List Str) (sp:Sp):Prop where
 ex:∃ f fd,mB P w K mg base CX k f fd ps sp∧mg x = some (.ref f)∧PySem.W.keepIn K (.ref f) = true∧Binds K fd ps []
section
variable {X:Cx} {CX:qT} {k j:Nat} {ps:List Str} {sp:Sp} {E:XK} {x:Str} {p pos:Pos} {e:Expr} {es:List Expr} {t:TA}
theorem aG (h:df X.prog X.w X.K X.mg X.base CX x k ps sp) (hr:dP j X.A) (hx:Passes CX X E) (ha:PA X (e :: es) t) (hk:k≤j:=by decide) (hg:Gl X x:=by rfl) (sk:(x == ("__debug__" : Str)) = false:=by decide)
  (he:starEach (e :: es) X.env = (false,eval e X.env) :: starEach es X.env:=by rfl) (mZ:(backTo pos (starEach es X.env)).any (·.1) = false:=by rfl) :
  PE X (.Call (.Name x p) (e :: es) [] pos) (we sp [] E t):=by
 obtain ⟨f,fd,F,hm,yK,hb⟩:=h.ex
 exact zx F (hr.mono hk) hg hm yK hb .nil hx ha sk he mZ
end
inductive o4:V→Value→Prop where
 | ty (n:String):o4 (.ty n) (.type n)
 | ref (a:Addr):o4 (.ref a) (.ref a)
def A5 (K:PySem.W.Frag):List V→Hp→VK→Prop:=fun xs H Q=>∃ x c t u b,xs = [x,c]∧iJ K H x t∧o4 c u∧PySem.W.kitOne K t u = some b∧Q (.bl b) H
theorem gs {X:Cx}:d5 X (.builtin "isinstance") (A5 X.K):=by
 intro pins s σ H xs us Q I r h
 obtain ⟨x,c,t,u,b,rfl,ty,rc,e,q⟩:=h
 obtain ⟨u1,u2,rfl,r1,r2⟩:=vals2 r
 have e2:u2 = u:=by
  cases rc <;> (cases r2; rfl)
 subst e2
 exact va I r1 ty e fun tk=>⟨.bl b,H,I.tok _,rfl,q⟩
section
variable {X:Cx} {pins:List (Addr×Obj)} {σ : St} {H:Hp} {s:Shared} {h':Heap}
theorem Inv.iQ {t':Nat} {ch:List Addr} {a:Addr} {o:HO} (I:Inv X pins σ H s) (k:∀ b u,b∉ch→s.heap.get? b = some u→h'.get? b = some u) (hf:∀ b∈ch,lF X pins H b) (hp:s.heap.objs.size≤a)
  (new:bg X.prog X.w (upd H a o) h' a o):Inv X pins σ (upd H a o) { s with heap:=h',toks:=t' }:=by
 have hn:=I.bA.fresh hp
 have ua:∀ b u,H b = some u→b∉ch:=fun b u e z=>by rw [(hf b z).1] at e; cases e
 refine I.step (g':=s.gens) (d':=s.drawn) (ch:=ch) (fun b hb=>?_) (fun b o _ _ hc e _=>k b o hc e) (fun b o _ _ hc e _=>⟨o.slots,k b o hc e⟩) (fun b u _ e n=>?_) (fun b o hc e=>⟨o,k b o hc e⟩)
  (fun b xs e=>by rw [aq (aw e hn)]; exact e) (fun b u v e=>by rw [aq (aw e hn)]; exact e) (fun b ps e=>⟨#[],by rw [aq (aw e hn),e]; simp⟩) (fun m hm=>?_) (fun b u e=>?_) I.bare
 ·obtain ⟨f0,f1,f2,f3,f4,f5⟩:=hf b hb
  exact ⟨f3,f1,f4,f5⟩
 ·rw [aq (Nat.ne_of_lt (Nat.lt_of_lt_of_le (Heap.lt_size e) hp))]; exact n
 ·obtain ⟨o,es,ep,ho,r⟩:=hm
  exact ⟨o,es,ep,k _ o (fun z=>(hf _ z).2.1 rfl) ho,r⟩
 ·by_cases hb:b = a
  ·subst hb; rw [ae] at e; cases e; exact new
  ·rw [aq hb] at e
   refine (I.bA b u e).ff (fun c v hc q=>k c v ?_ q) (fun c q=>by rw [aq (aw q hn)]; exact q) fun c xs q=>by rw [aq (aw q hn)]; exact q
   rcases hc with z | z
   ·rw [z]; exact ua b u e
   ·exact ua c _ z
theorem Inv.tu {t':Nat} {ch:List Addr} (I:Inv X pins σ H s) (k:∀ b u,b∉ch→s.heap.get? b = some u→h'.get? b = some u) (hf:∀ b∈ch,lF X pins H b):Inv X pins σ H { s with heap:=h',toks:=t' }:=by
 have ua:∀ b u,H b = some u→b∉ch:=fun b u e z=>by rw [(hf b z).1] at e; cases e
 refine I.step (g':=s.gens) (d':=s.drawn) (ch:=ch) (fun b hb=>?_) (fun b o _ _ hc e _=>k b o hc e) (fun b o _ _ hc e _=>⟨o.slots,k b o hc e⟩) (fun b u _ e n=>n) (fun b o hc e=>⟨o,k b o hc e⟩)
  (fun b xs e=>e) (fun b u v e=>e) (fun b ps e=>⟨#[],by rw [e]; simp⟩) (fun m hm=>?_) (fun b u e=>?_) I.bare
 ·obtain ⟨f0,f1,f2,f3,f4,f5⟩:=hf b hb
  exact ⟨f3,f1,f4,f5⟩
 ·obtain ⟨o,es,ep,ho,r⟩:=hm
  exact ⟨o,es,ep,k _ o (fun z=>(hf _ z).2.1 rfl) ho,r⟩
 ·refine (I.bA b u e).ff (fun c v hc q=>k c v ?_ q) (fun c q=>q) fun c xs q=>q
  rcases hc with z | z
  ·rw [z]; exact ua b u e
  ·exact ua c _ z
end
def F1 (K:PySem.W.Frag) (a:Addr):It:=
 ⟨fun i H=>∃ xs x,ay K H a xs∧xs[i]? = some x,
  fun i H x H'=>∃ p y,H p = none∧x = .ref p∧(∀ xs,ay K H a xs→xs[i]? = some y)∧H' = upd H p (.tup [.int i,y]),
  fun i H=>∃ xs,ay K H a xs∧xs.length≤i⟩
theorem uK {P:Program} {w:World} {K:PySem.W.Frag} {elts:List Expr} {kx:Nat} {px:Pos} (a e it:Addr) (gM:e≠it) :
  Turn P w K (.Tuple elts kx px) (F1 K a) [e,it] e (fun i h=>(∃ old,IsEnum h e it (i:Nat) old)∧h.IsListIter it a i) where
 mem:=by simp
 obj:=fun i h st b hb=>by
  obtain ⟨⟨old,he⟩,hit⟩:=st
  rcases List.mem_cons.mp hb with rfl | hb
  ·exact ⟨_,he,fun v z=>by cases z⟩
  ·obtain rfl:b = it:=by simpa using hb
   obtain ⟨o,e1,c,d⟩:=hit
   exact ⟨o,e1,fun v z=>by rw [d] at z; cases z⟩
 keep:=fun i h h' st k=>by
  obtain ⟨⟨old,he⟩,hit⟩:=st
  exact ⟨⟨old,k e (by simp) _ he⟩,hit.at fun o q=>k it (by simp) o q⟩
 item:=by
  intro X hP hw hK hc i pins s σ H E I hf st hg
  subst hP hw hK
  obtain ⟨⟨old,he⟩,hit⟩:=st
  obtain ⟨xs,x,hq,hx⟩:=hg
  obtain ⟨aO,rv,p,hz⟩:=I.list hq
  obtain ⟨u,hu,ru⟩:=rv.get hx
  have EZ:e < s.heap.objs.size:=Heap.lt_size he
  have KN:it < s.heap.objs.size:=by obtain ⟨_,q,_⟩:=id hit; exact Heap.lt_size q
  refine wpAny_pyNext_enum_item he hit p.isList (x:=u) (by simpa using hu) gM fun h' ho sj hT hsz hk=>⟨_,rfl,?_⟩
  refine wpAny_letOwnedTupleGo_enum ho fun h2 vN vM=>?_
  replace vM:Heap.SameBut e h' h2:=vM
  have hn:H s.heap.objs.size = none:=I.bA.fresh (Nat.le_refl _)
  have kk:∀ b o,b∉[e,it]→s.heap.get? b = some o→h2.get? b = some o:=fun b o hb q=>(vM.2 b fun z=>hb (by simp [z])).trans (hk b o (fun z=>hb (by simp [z])) (fun z=>hb (by simp [z])) q)
  have K1:h2.get? s.heap.objs.size = some { cls:=.type "tuple",data:=.seq #[.int i s.toks,u] }:=(vM.2 _ (Nat.ne_of_gt EZ)).trans hT
  refine ⟨.ref s.heap.objs.size,upd H s.heap.objs.size (.tup [.int i,x]),Inv.iQ (s:=s) (h':=h2) (t':=s.toks + 1) I kk hf (Nat.le_refl _) ⟨by simp only [List.length_cons,List.length_nil]; rw [sizeLine_eq]; decide,[.int i s.toks,u],.cons ⟨_,rfl⟩ (.cons ru .nil),⟨_,K1,rfl,_,rfl⟩⟩,rfl,
   ⟨_,x,hn,rfl,fun ys hy=>by rw [I.iq hy hq]; exact hx,rfl⟩,⟨⟨_,vN⟩,sj.at fun o q=>(vM.2 it (Ne.symm gM)).trans q⟩,fun b hb=>?_⟩
  rw [aq ?_]
  ·exact (hf b hb).1
  ·rcases List.mem_cons.mp hb with rfl | hb
   ·exact Nat.ne_of_lt EZ
   ·obtain rfl:b = it:=by simpa using hb
    exact Nat.ne_of_lt KN
 done:=by
  intro X hP hw hK hc i pins s σ H E I hf st hg
  subst hP hw hK
  obtain ⟨⟨old,he⟩,hit⟩:=st
  obtain ⟨xs,hq,hx⟩:=hg
  obtain ⟨aO,rv,p,hz⟩:=I.list hq
  have hl:=rv.length
  exact wpAny_pyNext_enum_end (I.ok.hd hc) he hit p.isList (by simp; omega) fun h' eb=>⟨rfl,Inv.tu (t':=s.toks) (ch:=[e,it]) I (fun b o hb q=>eb b o (fun z=>hb (by simp [z])) q) hf⟩
 self:=fun _ _ _ _ _ st h=>by
  obtain ⟨⟨old,he⟩,hit⟩:=st
  exact wpAny_pyIter_enum he h
def EI (K:PySem.W.Frag) (ta:TA):TI:=fun σ H R=>ta σ H fun vs H1=>∃ a,vs = [.ref a]∧(∃ xs,ay K H1 a xs)∧R (F1 K a) H1
theorem zv {X:Cx} {l:Expr} {ta:TA} {p pos:Pos} {elts:List Expr} {kx:Nat} {px:Pos} (hm:X.mg "enumerate" = none) (ha:PA X [l] ta) (hg:Gl X "enumerate":=by rfl) (hs:starEach [l] X.env = [(false,eval l X.env)]:=by rfl) :
  PI X (.Tuple elts kx px) (.Call (.Name "enumerate" p) [l] [] pos) (EI X.K ta):=by
 intro pins s σ H R I h
 refine Call_ (dU I hg hm boot_enumerate (PyProof.Rows.callWith_type1 (cS (ha pos pins s σ H _ I h) fun us s1 ⟨vs,H1,I1,r1,q1⟩=>?_) hs rfl))
 obtain ⟨a,rfl,⟨xs,hq⟩,q⟩:=q1
 obtain ⟨u,rfl,ru⟩:=vals1 r1
 cases ru
 obtain ⟨aO,rv,pl,hz⟩:=I1.list hq
 refine call_enumerate_list pl.isList fun h' he hit hsz hk=>?_
 refine wpAny_pyIter_enum he ?_
 have I2:Inv X pins σ H1 { s1 with heap:=h' }:=I1.kept (t':=s1.toks) fun b o e=>hk b o e
 refine ⟨_,[s1.heap.objs.size + 1,s1.heap.objs.size],_,_,H1,rfl,I2,uK a _ _ (Nat.succ_ne_self _),⟨⟨_,he⟩,hit⟩,fun b hb=>?_,q⟩
 rcases List.mem_cons.mp hb with rfl | hb
 ·exact I1.vm (Nat.le_succ _) (I1.bA.fresh (Nat.le_succ _))
 ·obtain rfl:b = s1.heap.objs.size:=by simpa using hb
  exact I1.vm (Nat.le_refl _) (I1.bA.fresh (Nat.le_refl _))
theorem x6 {K:PySem.W.Frag} {a:Addr} {xs:List V} {g:TG} {tb:TS} {D:Ends} {σ : St} {H:Hp} (Pv:Nat→St→Hp→Prop) (h0:Pv 0 σ H) (hl:∀ i σ H,i≤xs.length→Pv i σ H→ay K H a xs)
  (hs:∀ i x p σ H,xs[i]? = some x→Pv i σ H→H p = none→g (.ref p) σ (upd H p (.tup [.int i,x])) fun σ2 H2=>tb { D with nx:=Pv (i + 1),ct:=Pv (i + 1),bk:=D.nx } σ2 H2) (hd:∀ σ H,Pv xs.length σ H→D.nx σ H) :
  ∃ W:Nat→Nat→St→Hp→Prop,(∃ m,W 0 m σ H)∧∀ i m σ H,W i m σ H→
   ((F1 K a).stop i H∧D.nx σ H)∨((F1 K a).go i H∧∃ N:St→Hp→Prop,(∀ σ' H',N σ' H'→∃ m',m' < m∧W (i + 1) m' σ' H')∧∀ x H',(F1 K a).vG i H x H'→g x σ H' fun σ2 H2=>tb { D with nx:=N,ct:=N,bk:=D.nx } σ2 H2):=by
 refine ⟨fun i m σ H=>m = xs.length - i∧i≤xs.length∧Pv i σ H,⟨xs.length,by simp,Nat.zero_le _,h0⟩,?_⟩
 rintro i m σ H ⟨rfl,hi,p⟩
 have q:=hl i σ H hi p
 by_cases eV:i < xs.length
 ·refine .inr ⟨⟨xs,xs[i],q,by simp [eV]⟩,Pv (i + 1),fun σ' H' p'=>⟨xs.length - (i + 1),by omega,rfl,eV,p'⟩,fun x H' y=>?_⟩
  obtain ⟨r,y,hr,rfl,hy,rfl⟩:=y
  exact hs i y r σ H (hy xs q) p hr
 ·have e:i = xs.length:=by omega
  subst e
  exact .inl ⟨⟨xs,q,Nat.le_refl _⟩,hd σ H p⟩
section
variable {σ : St} {H:Hp} {Q:VK} {D:Ends}
theorem r_var {i:Nat} {v:V} (h : σ[i]? = some (some v)) (q:Q v H):fS i σ H Q:=⟨v,h,q⟩
theorem r_c {v:V} (q:Q v H):tC v σ H Q:=q
theorem r_op {r:R2} {ta tb:TE} (h:ta σ H fun x H1=>tb σ H1 fun y H2=>r x y H2 Q):DJ r ta tb σ H Q:=h
theorem wH {g:Int→Int→V} {i j:Int} (q:Q (g i j) H):BY g (.int i) (.int j) H Q:=⟨i,j,rfl,rfl,q⟩
theorem wI {C:Int→Int→Prop} {g:Int→Int→V} {i j:Int} (c:C i j) (q:Q (g i j) H):rI C g (.int i) (.int j) H Q:=⟨i,j,rfl,rfl,c,q⟩
theorem wO {i j:Int} (q:Q (.bl (decide (i = j))) H):M4 (.int i) (.int j) H Q:=⟨rfl,by rw [jL,Bool.beq_eq_decide_eq]; exact q⟩
theorem wM {i j:Int} (q:Q (.bl (!decide (i = j))) H):M3 (.int i) (.int j) H Q:=⟨rfl,by rw [jL,Bool.beq_eq_decide_eq]; exact q⟩
theorem r_seq {t u:TS} (h:t { D with nx:=u D } σ H):BC t u D σ H:=h
theorem rF (h:D.nx σ H):AQ D σ H:=h
theorem r_asg {te:TE} {g:TG} (h:te σ H fun x H1=>g x σ H1 D.nx):yY te g D σ H:=h
theorem r_gname {i:Nat} {v:V} {R:St→Hp→Prop} (h:R (σ.set i (some v)) H):jr i v σ H R:=h
theorem wG {te:TE} (h:te σ H D.rt):DH te D σ H:=h
theorem nT {te:TE} (h:te σ H fun _ H1=>D.nx σ H1):wc te D σ H:=h
theorem tQ {c:TT} {t u:TS} (h:c σ H fun b H1=>if b = true then t D σ H1 else u D σ H1):BD c t u D σ H:=h
theorem rD {t:TE} {R:Bool→Hp→Prop} (h:t σ H fun x H'=>∃ k,x = .bl k∧R k H'):AN t σ H R:=h
theorem Ie {t:TE} {R:Bool→Hp→Prop} (h:t σ H fun x H'=>∃ k,x = .bl k∧R k H'):tB t σ H R:=h
theorem BW {k:Bool} {R:Bool→Prop} (h:R k):∃ k',V.bl k = .bl k'∧R k':=⟨k,rfl,h⟩
theorem wL {t:TT} {R:Bool→Hp→Prop} (h:t σ H fun c H1=>R (!c) H1):DK t σ H R:=h
theorem wV {t u:TT} {R:Bool→Hp→Prop} (h:t σ H fun c H1=>if c = true then u σ H1 R else R false H1):DP t u σ H R:=h
theorem BU {t u:TT} {R:Bool→Hp→Prop} (h:t σ H fun c H1=>if c = true then R true H1 else u σ H1 R):MG t u σ H R:=h
theorem rL {ta tb:TE} (h:ta σ H fun x H1=>∃ c,x = .bl c∧if c = true then tb σ H1 Q else Q (.bl false) H1):AR ta tb σ H Q:=h
theorem rE {ta:TE} (h:ta σ H fun x H1=>∃ c,x = .bl c∧Q (.bl (!c)) H1):AO ta σ H Q:=h
theorem gC {R:List V→Hp→Prop} (h:R [] H):yX σ H R:=h
theorem dy {ta:TE} {tr:TA} {R:List V→Hp→Prop} (h:ta σ H fun x H1=>tr σ H1 fun xs H2=>R (x :: xs) H2):tE ta tr σ H R:=h
theorem nU {sp:Sp} {E:XK} {t:TA} (h:t σ H fun vs H1=>sp (vs ++ []) H1 Q E):we sp [] E t σ H Q:=h
theorem uU {r:List V→Hp→VK→Prop} {t:TA} (h:t σ H fun vs H1=>r vs H1 Q):F8 r t σ H Q:=h
theorem wD {t:TA} (h:t σ H fun xs H1=>xs.length≤sizeLine∧∀ p,H1 p = none→Q (.ref p) (upd H1 p (.tup xs))):DG t σ H Q:=h
theorem wN {t:TA} (h:t σ H fun xs H1=>xs.length≤sizeLine∧∀ p,H1 p = none→Q (.ref p) (upd H1 p (.lst xs))):DM t σ H Q:=h
theorem wJ {i j:Nat} {ta:TA} (h:ta σ H fun vs H1=>∃ v w,vs = [v,w]∧D.nx ((σ.set i (some v)).set j (some w)) H1):DI i j ta D σ H:=h
theorem dq {wi:TI} {g:TG} {tb:TS} (h:wi σ H fun J H1=>∃ W:Nat→Nat→St→Hp→Prop,(∃ m,W 0 m σ H1)∧∀ i m σ H,W i m σ H→
 (J.stop i H∧D.nx σ H)∨(J.go i H∧∃ N:St→Hp→Prop,(∀ σ' H',N σ' H'→∃ m',m' < m∧W (i + 1) m' σ' H')∧∀ x H',J.vG i H x H'→g x σ H' fun σ2 H2=>tb { D with nx:=N,ct:=N,bk:=D.nx } σ2 H2)):BE wi g tb D σ H:=h
theorem EG {A B:Prop} (h:A):if true = true then A else B:=zL h
theorem Gy {A B:Prop} (h:B):if false = true then A else B:=zM h
theorem if2 {c A B:Prop} [Decidable c] (h1:c→A) (h2:¬ c→B):if decide c = true then A else B:=by
 by_cases h:c
 ·rw [decide_eq_true h]; exact zL (h1 h)
 ·rw [decide_eq_false h]; exact zM (h2 h)
theorem gL {c A B:Prop} [Decidable c] (h1:¬ c→A) (h2:c→B):if (!decide c) = true then A else B:=by
 by_cases h:c
 ·rw [decide_eq_true h]; exact zM (h2 h)
 ·rw [decide_eq_false h]; exact zL (h1 h)
end
end L2
end
section
namespace L2
open PySem PySem.Spec PyProof.Rows
theorem aZ:bootBuiltins "len" = some (.builtin "len"):=by decide +kernel
theorem bE:bootBuiltins "isinstance" = some (.builtin "isinstance"):=by decide +kernel
theorem C8:bootBuiltins "int" = some (.type "int"):=by decide +kernel
theorem Au:bootBuiltins "bool" = some (.type "bool"):=by decide +kernel
theorem iI:bootBuiltins "list" = some (.type "list"):=by decide +kernel
theorem mf:bootBuiltins "ValueError" = some (.type "ValueError"):=by decide +kernel
structure Def (K:PySem.W.Frag) (mg:Str→Option Value) (x:Str) (st:Stmt) (ps:List Str):Prop where
 ex:∃ f fd,Dg K x x st f fd∧mg x = some (.ref f)∧Binds K fd ps []
theorem ah.upd {H:Hp} {p:Addr} {o:HO} (h:H p = none):ah H (upd H p o):=fun b u e=>by rw [aq (aw e h)]; exact e
section
variable {σ : St} {H:Hp} {Q:VK} {K:PySem.W.Frag}
theorem aS {p:Addr} {xs:List V} {i:Int} {v:V} (h:ay K H p xs) (hi:mh xs i = some v) (q:Q v H):zq K (.ref p) (.int i) H Q:=⟨p,xs,i,v,rfl,rfl,h,hi,q⟩
theorem nQ {x c:V} {t u:Value} {b:Bool} (ty:iJ K H x t) (hc:o4 c u) (e:PySem.W.kitOne K t u = some b) (q:Q (.bl b) H):A5 K [x,c] H Q:=⟨x,c,t,u,b,rfl,ty,hc,e,q⟩
theorem iT {n:Nat} {t:yQ} {a:Addr} {xs:List V} {R:St→Hp→Prop} (h:SqT K H a xs) (hl:xs.length = n) (q:t xs σ H R):CV K n t (.ref a) σ H R:=⟨a,xs,rfl,h,hl,q⟩
theorem nR {t:TG} {u:yQ} {v:V} {vs:List V} {R:St→Hp→Prop} (q:t v σ H fun σ' H'=>u vs σ' H' R):Bj t u (v :: vs) σ H R:=⟨v,vs,rfl,q⟩
theorem rG {R:St→Hp→Prop} (q:R σ H):Fb [] σ H R:=⟨rfl,q⟩
theorem zK {K:PySem.W.Frag}:PySem.W.kitOne K (.type "int") (.type "int") = some true:=by simp [PySem.W.kitOne]
end
end L2
namespace Fr
structure Vl (a b t u:Int):Prop where
 pos:0 < u
 co:Int.gcd t u = 1
 eq:t * b = a * u
 ta:t.natAbs≤a.natAbs
 ub:u.natAbs≤b.natAbs
end Fr
namespace L2
open PySem PySem.Spec PyProof.Rows
theorem sZ {c:TT} {tb:TS} {D:Ends} {σ : St} {H:Hp} (Pv:St→Hp→Prop) (μ : St→Hp→Nat) (h0:Pv σ H)
  (hs:∀ σ H,Pv σ H→c σ H fun b H1=>if b = true then ∃ N:St→Hp→Prop,(∀ σ' H',N σ' H'→∃ m',m' < μ σ H∧(m' = μ σ' H'∧Pv σ' H'))∧tb { D with nx:=N,ct:=N,bk:=D.nx } σ H1 else D.nx σ H1):vZ c tb D σ H:=
 ⟨fun m σ H=>m = μ σ H∧Pv σ H,⟨_,rfl,h0⟩,by rintro m σ H ⟨rfl,p⟩; exact hs σ H p⟩
theorem w_turn {tb:TS} {r:VK} {bk:St→Hp→Prop} {σ : St} {H:Hp} {Pv:St→Hp→Prop} {μ : St→Hp→Nat} {m:Nat} (h:tb { nx:=fun σ' H'=>Pv σ' H'∧μ σ' H' < m,rt:=r,bk:=bk,ct:=fun σ' H'=>Pv σ' H'∧μ σ' H' < m } σ H) :
  ∃ N:St→Hp→Prop,(∀ σ' H',N σ' H'→∃ m',m' < m∧(m' = μ σ' H'∧Pv σ' H'))∧tb { nx:=N,rt:=r,bk:=bk,ct:=N } σ H:=⟨_,fun _ _ p=>⟨_,p.2,rfl,p.1⟩,h⟩
theorem Cy {A B:Prop} (h:B):if (!true) = true then A else B:=zM h
theorem Cz {A B:Prop} (h:A):if (!false) = true then A else B:=zL h
theorem AS:2≤sizeLine:=by rw [sizeLine_eq]; decide
theorem DR:3≤sizeLine:=by rw [sizeLine_eq]; decide
end L2
namespace L2
open PySem PySem.Spec PyProof.Rows
theorem dX {CX:qT} {P:Program} {w:World} {K:PySem.W.Frag} {mg:Str→Option Value} {base:Heap} {N:List Str} {q:Str} {sc:Scope} {f:Addr} {cd:Value} {A:Around} {o:List Env} {s:Shared} {H:Hp} {E:XK}:(iY CX P w K mg base N q sc f cd A o s H E).K = K:=rfl
end L2
namespace L2
open PySem PySem.Spec PyProof.Rows
section
variable {K:PySem.W.Frag}
theorem Ck:PySem.W.kitOne K (.type "int") (.type "bool") = some false:=by kernel_rfl
theorem xJ:PySem.W.kitOne K (.type "list") (.type "list") = some true:=by kernel_rfl
end
end L2
namespace L2
open PySem PySem.Spec PyProof.Rows
theorem mulL {a b:Int} (h1 : -(2 ^ 64) < a) (h2:a < 2 ^ 64):IntMulOk a b:=.of_left (intBits_le_64 h1 h2)
theorem Sz.PH {n:Nat} {x:Int} (h1 : -(2 ^ 64) < x) (h2:x < 2 ^ 64) (hn:64≤n):Sz n x:=Sz.mono (m:=64) (by unfold Sz; omega) hn
theorem oN {i j:Int} (h1:0 < j) (h2:j < 2 ^ 64):Mw i j:=⟨h1,Sz.PH (by omega) h2 (by decide)⟩
section
variable {X:Cx} {a b:Expr} {i j v:Int} {op:Operator} {pos:Pos} {C:Int→Int→Prop} {g:Int→Int→V}
theorem oh (ho:lA X (binaryOp op) (rI C g)) (ha:PE X a (tC (.int i))) (hb:PE X b (tC (.int j))) (c:C i j) (e:g i j = .int v):PE X (.BinOp a op b pos) (tC (.int v)):=
 fun pins s σ H Q I h=>aA ho ha hb pins s σ H Q I ⟨i,j,rfl,rfl,c,by rw [e]; exact h⟩
end
end L2
namespace L2
open PySem PySem.Spec PyProof.Rows
end L2
end
section
namespace L2
open PySem PySem.Spec PySem.W PySem.Calls PyProof.Rows Builtin Builtin.ObjectAttr Builtin.Getset_descriptor
def ExcAt (C:Addr) (a:Addr) (h:Heap):Prop:=∃ ob,h.get? a = some ob∧ob.cls = .ref C∧PySem.W.notCls ob = true
def sE (C a:Addr):HO:=.ext (ExcAt C a)
theorem ExcAt.ff {C a:Addr} {h h':Heap} (x:ExcAt C a h) (k:∀ o,h.get? a = some o→h'.get? a = some o):ExcAt C a h':=let ⟨o,e,r⟩:=x; ⟨o,k o e,r⟩
theorem Ad {P:Program} {w:World} {H:Hp} {h:Heap} {C a:Addr} (x:ExcAt C a h):bg P w H h a (sE C a):=
 ⟨x,let ⟨o,e,_⟩:=x; ⟨o,e⟩,fun _ _ y k=>y.ff k⟩
theorem Ae {P:Program} {w:World} {H:Hp} {h:Heap} {C a:Addr} (hk:gy P w H h) (e:H a = some (sE C a)):ExcAt C a h:=(hk a _ e).1
theorem ExcAt.ty {C a:Addr} {h:Heap} {M:Model} (x:ExcAt C a h):Looks M h (typeOf (.ref a)) (.ref C):=by
 obtain ⟨o,e,c,_⟩:=x
 exact c▸(Looks.ld e).andThen .now
structure ju (K:Frag) (D:Addr):Prop where
 Sg:findIn K (.ref D) "__getattribute__" = some (some (.builtin "BaseException.__getattribute__"))
 Se:findIn K (.ref D) "__getattr__" = some none
 KA:mroIn K D (.type "BaseException") = some true
 cl:(clsIn K D).isSome = true
 ha:findIn K (.ref D) "__class__" = some (some (.builtin "object.__class__"))
 hn:specialIn K (.builtin "object.__class__") "__get__" = some (some (.builtin "getset_descriptor.__get__"))
 Gz:takesIn K (.builtin "object.__class__") = some true
 hm:mroIn K D (.type "object") = some true
section
variable {prog:Program} {w:World} {A:Around} {E:Value→Shared→Prop} {s:Shared} {K:Frag} {x D:Addr}
theorem Af {M:Model} {h:Heap} (X:K.In h) (c:ju K D):Looks M h (find (.ref x) (.ref D) "__class__") (.bind (.builtin "getset_descriptor.__get__") (.builtin "object.__class__")):=by
 have l1:=looks_findIn (M:=M) X c.ha
 have l2:Looks M h (getOf (some (.builtin "object.__class__"))) (some (.builtin "getset_descriptor.__get__")):=looks_specialIn X c.hn
 have l3:=looks_takesIn (M:=M) X c.Gz
 refine l1.andThen (l2.andThen ?_)
 have l4:Looks M h (dataDescriptor? (some (.builtin "object.__class__")) (some (.builtin "getset_descriptor.__get__"))) (some (.builtin "getset_descriptor.__get__",.builtin "object.__class__")):=l3.andThen .now
 exact l4.andThen (Looks.tag .now)
theorem CZ {R:Result→Shared→Prop} {tp:Value} (X:K.In s.heap) (I:ExcAt D x s.heap) (c:ju K D) (h:R (.ok (.ret (.ref D))) s) :
  codeAny (model prog w) A (.call (.builtin "getset_descriptor.__get__") ⟨[.builtin "object.__class__",.ref x,tp],[]⟩) R s:=by
 obtain ⟨oo,e,cc,nc⟩:=I
 obtain ⟨Jc,od,Qu,vI⟩:=oo
 have I':ExcAt D x s.heap:=⟨_,e,cc,nc⟩
 obtain ⟨hh,g,dr,t,os⟩:=s
 have k0:=I'.ty (M:=model prog w)
 have k1:=looks_mroIn (M:=model prog w) X c.hm
 refine codeAny_call_builtin KF.slot_gs.plain KF.entry_gs (KF.slot_gs.check _ _ _ _ _ _ _ _ KF.type_class (KF.args_gs _ _ _) ?_)
 unfold Builtin.«getset_descriptor.__get__» descrGet
 rw [dga_obj]
 refine wpAny_bind (wpAny_pure ?_)
 unfold descrGetter descrCheckInstance descrNameAndClass isInstance
 simp only [KF.owner_class]
 repeat lk
 refine ⟨Code.quiet_builtin _ (by decide +kernel),codeAny_builtin KF.entry_class ?_⟩
 unfold Builtin.«object.__class__» shownTypeOf
 repeat lk
 exact h
theorem yd {M:Model} {A8:Value} {Q:Unit→Shared→Prop} (X:K.In s.heap) (I:ExcAt D x s.heap) (KA:mroIn K D (.type "BaseException") = some true) (hq:Q () s):wpAny M A (checkBuiltinCall "BaseException.__getattribute__" ⟨[.ref x,A8],[]⟩) Q E s:=by
 obtain ⟨hh,g,d,t,os⟩:=s
 have k0:=I.ty (M:=M)
 have k1:=looks_mroIn (M:=M) X KA
 have hk:builtinKind "BaseException.__getattribute__" = some .slot:=by decide +kernel
 have hs:splitId "BaseException.__getattribute__" = some ("BaseException", "__getattribute__"):=by decide +kernel
 have ha:=F.args_bexc_ga (.ref x) A8
 simp only [checkBuiltinCall,hk,hs]
 refine wpAny_bind ?_
 unfold isInstance
 repeat (first | lk | wp_step)
 exact hq
theorem yb {tk:Tok} {Q:PySem.Fin→Shared→Prop} (X:K.In s.heap) (I:ExcAt D x s.heap) (c:ju K D) (hq:Q (.done (.ret (.ref D))) s) :
  wpAny (model prog w) A (Builtin.«object.__getattribute__» ⟨[.ref x,.str "__class__" tk],[]⟩) Q E s:=by
 have I':=I
 have X':=X
 obtain ⟨hh,g,d,t,os⟩:=s
 have k0:=I.ty (M:=model prog w)
 have k2:=Af (x:=x) (M:=model prog w) X c
 repeat (any_goals (first | assumption | with_reducible refine Looks.at (by assumption) ?_ | wp_step))
 refine CZ (s:=⟨hh,g,d,t,os⟩) X' I' c ?_
 repeat (any_goals (first | assumption | wp_step))
theorem Ag {tk:Tok} {R:Result→Shared→Prop} (X:K.In s.heap) (I:ExcAt D x s.heap) (c:ju K D) (hq:R (.ok (.ret (.ref D))) s) :
  codeAny (model prog w) A (.call (.builtin "BaseException.__getattribute__") ⟨[.ref x,.str "__class__" tk],[]⟩) R s:=
 codeAny_call_builtin F.attr_ValueError.ga.plain F.entry_bexc_ga (yd X I c.KA (yb X I c hq))
theorem yc {Q:Option Value→Shared→Prop} (X:K.In s.heap) (I:ExcAt D x s.heap) (c:ju K D) (h:Q (some (.ref D)) { s with toks:=s.toks + 1 }):wpAny (model prog w) A (getAttr? (.ref x) "__class__") Q E s:=by
 have I':=I
 have X':=X
 obtain ⟨hh,g,d,t,os⟩:=s
 have k0:=I.ty (M:=model prog w)
 have k1:=looks_findIn (M:=model prog w) X c.Sg
 have k3:=looks_findIn (M:=model prog w) X c.Se
 have f3:=F.attr_ValueError.ga.bind (.ref x)
 have Ke:(Value.builtin "BaseException.__getattribute__" == Value.builtin "object.__getattribute__") = false:=by decide +kernel
 have Kf:(onTheHeap (Value.ref D) && Value.builtin "BaseException.__getattribute__" == Value.builtin "object.__getattribute__") = false:=by rw [Ke]; rfl
 have UY:(false && onTheHeap (Value.builtin "BaseException.__getattribute__")) = false:=rfl
 unfold getAttr? getAttrBy?
 refine wpAny_bind (wpAny_mkText (wpAny_bind (wpAny_attempt ?_)))
 repeat (any_goals (first | assumption | with_reducible refine Looks.at (by assumption) ?_ | wp_step))
 refine Ag (s:=⟨hh,g,d,t + 1,os⟩) X' I' c ?_
 repeat (any_goals (first | assumption | wp_step))
theorem xI (c:ju K D):KitX K (.ref x) (.ref D) (ExcAt D x) where
 ty:=fun _ _ _ I=>I.ty
 it:=fun _ _ X _=>by
  obtain ⟨Tn,CT⟩:=Option.isSome_iff_exists.mp c.cl
  unfold clsIn at CT
  split at CT
  ·rename_i c' d' To HY ho
   intro A' Q' E' s' k q
   unfold isType loadHead
   exact wpAny_bind (wpAny_loadPart (k _ _ (X _ _ ho)) (wpAny_pure q))
  ·cases CT
 ne:=fun h tp dd aO n sl X Dk=>by
  obtain ⟨Tn,CT⟩:=Option.isSome_iff_exists.mp c.cl
  refine Bool.eq_false_iff.mpr fun q=>?_
  have e:D = tp:=Value.ref.inj (beq_iff_eq.mp q)
  subst e
  unfold clsIn at CT
  split at CT
  ·rename_i c' d' To HY ho
   have z:=(X _ _ ho).symm.trans Dk
   cases z
  ·cases CT
 ca:=fun X I k=>yc X I c k
end
end L2
end
section
namespace L2
open PySem PySem.Spec PySem.W PySem.Calls PyProof.Rows
theorem bg.there {P:Program} {w:World} {H:Hp} {h:Heap} {a:Addr} {o:HO} (x:bg P w H h a o):∃ ob,h.get? a = some ob:=by
 induction o with
 | lst xs=>obtain ⟨_,_,_,_,e⟩:=x; exact ⟨_,e⟩
 | tup xs=>obtain ⟨_,_,_,ob,e,_⟩:=x; exact ⟨ob,e⟩
 | dK aI=>obtain ⟨_,_,_,_,o,_,_,e,_⟩:=x; exact ⟨o,e⟩
 | dT aI=>obtain ⟨_,_,_,_,o,_,_,e,_⟩:=x; exact ⟨o,e⟩
 | set S n=>obtain ⟨ob,_,_,_,e,_⟩:=x; exact ⟨ob,e⟩
 | ins C dx fs=>obtain ⟨_,_,_,e,_⟩:=x; exact ⟨_,e⟩
 | own y=>exact x
 | xd fs=>obtain ⟨_,⟨od,_,_,e,_⟩,_⟩:=x; exact ⟨od,e⟩
 | Gf lo hi=>obtain ⟨_,_,_,e⟩:=x; exact ⟨_,e⟩
 | kR ob u ih=>obtain ⟨e,_⟩:=x; exact ⟨ob,e⟩
 | AM ps=>exact ⟨_,x⟩
 | met f y=>exact ⟨_,x⟩
 | ext φ=>obtain ⟨_,e,_⟩:=x; exact e
def uE (B:Heap) (fr:List Addr) (h:Heap):Prop:=∀ b o,h.get? b = some o→b∉fr→∃ o',B.get? b = some o'
section
variable {X:Cx} {pins:List (Addr×Obj)} {σ : St} {H:Hp} {s:Shared} {B h':Heap}
theorem Inv.x9 {t':Nat} (I:Inv X pins σ H s) (hex:X.ex = []) (b1:B.StaysIn s.heap) (b2:B.StaysIn h') (c0:uE B (gF X.stack) X.s₀.heap) (ct:∀ b o,H b = some o→∃ ob,B.get? b = some ob)
  (cp:∀ p∈X.pn ++ pins,∃ ob,B.get? p.1 = some ob) (up:s.heap.UpToSlots h'):Inv X pins σ H { s with heap:=h',toks:=t' }:=by
 have Dj:∀ {b o ob},s.heap.get? b = some o→B.get? b = some ob→h'.get? b = some o:=fun {b o ob} e q=>by
  have:=b1 b ob q
  rw [e] at this; cases this
  exact b2 b _ q
 have nL:∀ b o,X.s₀.heap.get? b = some o→b∉X.fs→b∉gF X.stack:=fun b o e hb z=>by
  rcases List.mem_cons.mp (I.gH b z) with q | q
  ·exact absurd (Nat.lt_of_lt_of_le (Heap.lt_size e) I.ok.above) (by rw [q]; exact Nat.lt_irrefl _)
  ·exact hb q
 have Nh:∀ b:Addr,b∉X.ex:=fun b z=>by rw [hex] at z; cases z
 have fr:∀ b∈X.fs,∃ o,s.heap.get? b = some o∧∀ vs,o.data≠.fields vs:=fun b hb=>(I.iX.mem hb).2
 have cellK:∀ {c v},s.heap.IsCell c v→h'.IsCell c v:=fun {c v} ⟨o,ho,hd⟩=>by
  obtain ⟨sl,e⟩:=up c o ho fun vs z=>by rw [hd] at z; cases z
  exact ⟨_,e,hd⟩
 refine ⟨I.ok,I.os,I.bare,⟨fun b o e n hb _=>?_,fun b o e n hb _=>?_,I.base.free,fun b o e _=>?_,I.base.jR,I.base.jA,I.base.jS⟩,?_,fun x c e=>?_,I.free,I.d4,fun p hp=>?_,fun b u e=>?_,I.len⟩
 ·obtain ⟨ob,q⟩:=c0 b o e (nL b o e hb)
  exact Dj (I.base.keep b o e n hb (Nh b)) q
 ·obtain ⟨sl,q⟩:=I.base.slot b o e n hb (Nh b)
  obtain ⟨o2,q2,nf⟩:=fr b hb
  obtain ⟨AS,q3⟩:=up b o2 q2 nf
  rw [q] at q2; cases q2
  exact ⟨AS,q3⟩
 ·by_cases hb:b∈X.fs
  ·obtain ⟨o2,q2,nf⟩:=fr b hb
   obtain ⟨AS,q3⟩:=up b o2 q2 nf
   exact ⟨_,q3⟩
  ·obtain ⟨ob,q⟩:=c0 b o e (nL b o e hb)
   exact ⟨ob,b2 b ob q⟩
 ·obtain ⟨m,hn,hl⟩:=I.loc
  refine ⟨m,up.ns hn,fun i x v e1 e2 e3=>?_⟩
  obtain ⟨u,r,l⟩:=hl i x v e1 e2 e3
  refine ⟨u,r,?_⟩
  rcases l with l | ⟨k,c,e,z⟩
  ·exact .inl l
  ·exact .inr ⟨k,c,e,cellK z⟩
 ·obtain ⟨v,z⟩:=I.cell x c e
  exact ⟨v,cellK z⟩
 ·obtain ⟨e,n,ne,nf,d⟩:=I.pin p hp
  obtain ⟨ob,q⟩:=cp p hp
  exact ⟨Dj e q,n,ne,nf,d⟩
 ·refine (I.bA b u e).ff (fun c v hc q=>?_) (fun _ q=>q) fun _ _ q=>q
  rcases hc with z | z
  ·subst z
   obtain ⟨ob,q2⟩:=ct c u e
   exact Dj q q2
  ·obtain ⟨ob,q2⟩:=ct c _ z
   exact Dj q q2
end
structure AI (P:Program) (w:World) (outer:List Env) (H:Hp) (s:Shared) (a:Addr) (cls:Value) (H':Hp) (s':Shared):Prop where
 os:s'.os = s.os
 bare:AllBare s'.gens
 un:Un (gF outer) [] H H' s.heap s'.heap
 bA:gy P w H' s'.heap
 Ab:∃ B a0,Heap.FlyingW B outer a cls a0 s'.heap∧uE B (gF outer) s.heap∧∀ b o,H' b = some o→∃ ob,B.get? b = some ob
 new:H' a = none
 fresh:s.heap.get? a = none
def cA (P:Program) (w:World):qT:=fun outer H s E e s'=>∃ a cls H',e = .ref a∧AI P w outer H s a cls H' s'∧E cls none H'
section
variable {X:Cx} {pins:List (Addr×Obj)} {σ : St} {H:Hp} {s:Shared}
structure Body (X:Cx):Prop where
 ex:X.ex = []
 pn:X.pn = []
 vH:X.stack = X.env :: X.outer
 fr:X.env.frame = some X.env.locals
theorem Av {CX:qT} {P:Program} {w:World} {K:Frag} {mg:Str→Option Value} {base:Heap} {N:List Str} {qual:Str} {scope:Scope} {f:Addr} {cd:Value} {A:Around} {outer:List Env} {s:Shared} {H:Hp} {E:XK} :
  Body (iY CX P w K mg base N qual scope f cd A outer s H E):=⟨rfl,rfl,rfl,rfl⟩
theorem Inv.none_of (I:Inv X pins σ H s) {a:Addr} (e:s.heap.get? a = none):H a = none:=by
 cases q:H a with
 | none=>rfl
 | some o=>
  obtain ⟨ob,z⟩:=(I.bA a o q).there
  rw [e] at z; cases z
theorem Inv.x5 (I:Inv X pins σ H s) (hex:X.ex = []) {a:Addr} (e:s.heap.get? a = none):X.s₀.heap.get? a = none:=by
 cases q:X.s₀.heap.get? a with
 | none=>rfl
 | some o=>
  obtain ⟨o',z⟩:=I.base.there a o q (by rw [hex]; simp)
  rw [e] at z; cases z
theorem rZ {E:XK} {E':Value→Shared→Prop} {h':Heap} {e:Addr} {cls:Value} {vs:List Value} (I:Inv X pins σ H s) (hb:Body X) (hx:Heap.MadeExcOf s.heap h' e cls vs) (q:E cls none H) :
  wpAny (model X.prog X.w) X.A (leaving X.env (.ref e)) (fun _ BJ=>cA X.prog X.w X.outer X.H₀ X.s₀ E (.ref e) BJ) E' { s with heap:=h' }:=by
 have N3:∀ env∈X.stack,∀ b,env.frame = some b→b∈X.stack.filterMap (·.frame):=fun env he b hb=>List.mem_filterMap.mpr ⟨env,he,hb⟩
 have NY:(hideAll s.heap (gF X.stack)).StaysIn s.heap:=fun b o q=>of_hideAll _ q
 have Bc:X.A.frames = some (X.env :: X.outer):=by rw [← hb.vH]; exact I.ok.frames
 have hl:s.heap.FunFrames (hideAll s.heap (gF X.stack)) (X.env :: X.outer):=by rw [← hb.vH]; exact funFrames_hide I.stack N3
 have cv:∀ {b o},s.heap.get? b = some o→b∉gF X.stack→(hideAll s.heap (gF X.stack)).get? b = some o:=fun e n=>hideAll_get _ e n
 have sub:∀ b∈gF X.outer,b∈gF X.stack:=fun b z=>by rw [hb.vH]; unfold gF; rw [List.filterMap_cons,hb.fr]; exact List.mem_cons_of_mem _ z
 refine wpAny_leaves_madeW (base:=hideAll s.heap (gF X.stack)) (s:={ s with heap:=h' }) Bc hb.fr NY hl hx fun h2 t Ab tup bt up=>?_
 have OW:s.heap.UpToSlots h2:=(Heap.UpToSlots.of_keeps hx.keeps).trans up
 have c0:uE (hideAll s.heap (gF X.stack)) (gF X.stack) X.s₀.heap:=fun b o e n=>by
  obtain ⟨o',z⟩:=I.base.there b o e (by rw [hb.ex]; simp)
  exact ⟨o',cv z n⟩
 have ct:∀ b o,H b = some o→∃ ob,(hideAll s.heap (gF X.stack)).get? b = some ob:=fun b o e=>by
  obtain ⟨ob,z⟩:=(I.bA b o e).there
  exact ⟨ob,cv z fun m=>by rw [I.nI b m] at e; cases e⟩
 have J:Inv X [] σ H { s with heap:=h2,toks:=s.toks }:=Inv.x9 (I.nZ fun p hp=>by cases hp) hb.ex NY Ab.1 c0 ct (fun p hp=>by rw [hb.pn] at hp; cases hp) OW
 refine ⟨e,cls,H,rfl,⟨J.os,J.bare,?_,J.bA,⟨_,_,Ab,?_,ct⟩,I.none_of hx.new,I.x5 hb.ex hx.new⟩,q⟩
 ·have:=J.base
  rw [hb.ex] at this
  exact this
 ·intro b o e' n
  refine c0 b o e' fun m=>?_
  rw [hb.vH] at m
  unfold gF at m
  rw [List.filterMap_cons,hb.fr] at m
  rcases List.mem_cons.mp m with z | z
  ·exact absurd (Nat.lt_of_lt_of_le (Heap.lt_size e') I.ok.above) (by rw [z]; exact Nat.lt_irrefl _)
  ·exact n z
theorem AI.inv {a:Addr} {cls:Value} {H':Hp} {s':Shared} (I:Inv X pins σ H s) (F:AI X.prog X.w X.stack H s a cls H' s'):Inv X pins σ H' s':=
 I.Bo (ch:=[]) F.os F.un F.bA F.bare fun b z=>by cases z
end
theorem bx {P:Program} {w:World} {X:Cx}:Passes (cA P w) X E0:=by
 rintro pins σ H1 s1 e s' I ⟨a,cls,H',rfl,F,q⟩
 exact q.elim
end L2
end
section
namespace L2
open PySem PySem.Spec PySem.W PySem.Calls PyProof.Rows
theorem Ac {K:Frag} {h:Heap} {C:Addr} {FR:List Value} {newId:String} (X:K.In h) (q:excIn K C FR newId = true) :
  ∃ bm N nm qn bs hdct sn sub ab col dd k0 k1 k2 k3 k5 mN,h.get? C = some (excClassObj nm qn C N bs bm hdct sn sub ab col dd k0 k1 k2 k3 k5 newId)∧h.Ns N mN∧mN "__init__" = none∧OwnTail h FR bm:=by
 unfold excIn at q
 split at q
 ·rename_i dd cd sl ho
  split at q
  ·rename_i C' bm k0 k1 k2 k3 n k5 hm hs
   simp only [Bool.and_eq_true,beq_iff_eq,Bool.not_eq_true'] at q
   obtain ⟨⟨⟨⟨⟨q1,q2⟩,E2⟩,ht⟩,bA⟩,GH⟩:=q
   subst q1 q2
   obtain ⟨nm,bs,mro,ns,qn,hd,sn,sub,ab,col,del⟩:=cd
   dsimp only at hm E2 bA GH
   subst hm E2
   obtain ⟨l⟩:=sl
   have hl:l = [k0,k1,k2,k3,some (.builtin n),k5]:=hs
   subst hl
   exact ⟨bm,ns,nm,qn,bs,hd,sn,sub,ab,col,dd,k0,k1,k2,k3,k5,_,X _ _ ho,.of_isNs (isNs_of_in X bA),nsMap_none_of_in X bA GH,tail_of_in X ht⟩
  ·cases q
 ·cases q
def wb (Ex:XK) (C:Addr) (ta:TA):TS:=fun _ σ H=>ta σ H fun vs H1=>vs.length≤sizeLine∧Ex (.ref C) none H1
theorem pQ {X:Cx} {x:Str} {C:Addr} {Bn newId Cw:String} {FR:List Value} {np en pos:Pos} {e:Expr} {es:List Expr} {ta:TA} {Ex:XK} (FB:ExcBaseFacts Bn newId Cw FR) (hq:excIn X.K C FR newId = true) (hm:X.mg x = some (.ref C))
  (hc:X.calm = true) (ha:PA X (e :: es) ta)
  (hx:∀ pins s σ H h' a vs,Inv X pins σ H s→Heap.MadeExcOf s.heap h' a (.ref C) vs→Ex (.ref C) none H→X.xe (.ref a) { s with heap:=h' }) (hg:Gl X x:=by rfl) (sk:(x == ("__debug__" : Str)) = false:=by decide)
  (he:starEach (e :: es) X.env = (false,eval e X.env) :: starEach es X.env:=by rfl) (mZ:(backTo en (starEach es X.env)).any (·.1) = false:=by rfl) :
  PS X (.Raise (some (.Call (.Name x np) (e :: es) [] en)) none pos) (wb Ex C ta):=by
 intro pins s σ H D I h
 obtain ⟨tl,N,nm,q,bs,hdct,sn,sub,ab,col,dd,k0,k1,k2,k3,k5,mN,hC,hN,GH,T⟩:=Ac I.ok.mod.EE hq
 refine wpAny_Raise_call_subT (C:=C) (nm:=nm) (q:=q) (N:=N) (bs:=bs) (bm:=tl) (hdct:=hdct) (sn:=sn) (sub:=sub) (ab:=ab) (col:=col) (dd:=dd) (k0:=k0) (k1:=k1) (k2:=k2) (k3:=k3) (k5:=k5)
  FB (mN:=mN) (T.hasType FB.hasBase) (I.ok.hd hc) (by rw [he]; show (false || (backTo en (starEach es X.env)).any (·.1)) = false; rw [mZ]; rfl) GH (iu I hg hm ⟨rfl,?_⟩ sk)
 have h2:=ha en pins s σ H _ I h
 rw [he] at h2 ⊢
 refine Calls.evalArgs_plain (wpAny_mono h2 (fun us s2 z=>?_) fun _ _ y=>y)
 obtain ⟨vs,H1,I1,r1,hl,qx⟩:=z
 exact ⟨rfl,by rw [← r1.length]; exact hl,I1.bk _ _ hC,hN.keeps I1.bk,T.keeps I1.bk,fun h' a mk=>hx pins s2 σ H1 h' a us I1 mk qx⟩
theorem wC {P:Program} {w:World} {K:Frag} {mg:Str→Option Value} {base:Heap} {N:List Str} {qual:Str} {scope:Scope} {f:Addr} {cd:Value} {A:Around} {outer:List Env} {s0:Shared} {H0:Hp} {E:XK} {C:Addr} :
  ∀ pins s σ H h' a vs,Inv (iY (cA P w) P w K mg base N qual scope f cd A outer s0 H0 E) pins σ H s→Heap.MadeExcOf s.heap h' a (.ref C) vs→E (.ref C) none H→
   (iY (cA P w) P w K mg base N qual scope f cd A outer s0 H0 E).xe (.ref a) { s with heap:=h' }:=fun pins s σ H h' a vs I mk q=>rZ I Av mk q
section
variable {X:Cx} {pins:List (Addr×Obj)} {σ : St} {H:Hp} {s:Shared}
theorem Inv.DD {a:Addr} {o:HO} (I:Inv X pins σ H s) (hn:H a = none) (new:bg X.prog X.w (upd H a o) s.heap a o) (fr:X.s₀.heap.get? a = none) (nL:a≠X.env.locals) (nc:∀ x c,X.env.cells.lookup x = some c→c≠a) (np:∀ p∈X.pn ++ pins,p.1≠a) :
  Inv X pins σ (upd H a o) s:=by
 refine ⟨I.ok,I.os,I.bare,⟨I.base.keep,I.base.slot,fun b u e n hx=>?_,I.base.there,fun b xs e=>?_,fun b u v e=>?_,fun b ps e=>?_⟩,I.loc,I.cell,?_,fun x c e=>?_,fun p hp=>?_,fun b u e=>?_,I.len⟩
 ·have hb:b≠a:=fun z=>by rw [z,fr] at e; cases e
  rw [aq hb]; exact I.base.free b u e n hx
 ·have z:=I.base.jR b xs e
  rw [aq (aw z hn)]; exact z
 ·have z:=I.base.jA b u v e
  rw [aq (aw z hn)]; exact z
 ·obtain ⟨m,z⟩:=I.base.jS b ps e
  exact ⟨m,by rw [aq (aw z hn)]; exact z⟩
 ·rw [aq (Ne.symm nL)]; exact I.free
 ·rw [aq (nc x c e)]; exact I.d4 x c e
 ·obtain ⟨e,n,r⟩:=I.pin p hp
  exact ⟨e,by rw [aq (np p hp)]; exact n,r⟩
 ·by_cases hb:b = a
  ·subst hb; rw [ae] at e; cases e; exact new
  ·rw [aq hb] at e
   exact (I.bA b u e).ff (fun c v _ q=>q) (fun c q=>by rw [aq (aw q hn)]; exact q) fun c xs q=>by rw [aq (aw q hn)]; exact q
theorem jI {M:Model} {A:Around} {E:Value→Shared→Prop} {i:Nat} {x:Str} {pos:Pos} {Q:Unit→Shared→Prop} (I:Inv X pins σ H s) (hN:X.N.Nodup) (hi:X.N[i]? = some x) (hk:X.env.scope.names.lookup x = some .local)
  (h:∀ s',Inv X pins (σ.set i none) H s'→Q () s'):wpAny M A (do bindName X.env x .none; unbindBehindTheSuite X.env x pos) Q E s:=by
 obtain ⟨m,hn,hl⟩:=id I.loc
 have CS:(X.env.scope.kind == .class || (X.env.scope.kind == .module && X.env.locals != X.env.globals)) = false:=by rw [I.ok.kind]; rfl
 have hiσ : i < σ.length:=by rw [I.len]; exact (List.getElem?_eq_some_iff.mp hi).1
 refine wpAny_nameGoes_keeps hk hn CS fun h' v zU hs=>h _ ?_
 obtain ⟨oL,_,_,NT,_⟩:=id hn
 have lt:∀ b o,X.s₀.heap.get? b = some o→b≠X.env.locals:=fun b o e=>Nat.ne_of_lt (Nat.lt_of_lt_of_le (Heap.lt_size e) I.ok.above)
 refine ⟨I.ok,I.os,I.bare,⟨fun b o e n hb hx=>(hs.2 b (lt b o e)).trans (I.base.keep b o e n hb hx),fun b o e n hb hx=>?_,I.base.free,fun b o e hx=>?_,I.base.jR,I.base.jA,I.base.jS⟩,⟨_,zU,fun j y v' e1 e2 e3=>?_⟩,fun y c e=>?_,I.free,I.d4,fun p hp=>?_,fun b u e=>?_,by simpa using I.len⟩
 ·obtain ⟨sl,e1⟩:=I.base.slot b o e n hb hx
  exact ⟨sl,(hs.2 b (lt b o e)).trans e1⟩
 ·obtain ⟨o',e1⟩:=I.base.there b o e hx
  exact ⟨o',(hs.2 b (lt b o e)).trans e1⟩
 ·by_cases hj:j = i
  ·subst hj
   rw [List.getElem?_set_self hiσ] at e2
   cases e2
  ·rw [List.getElem?_set_ne (Ne.symm hj)] at e2
   obtain ⟨u',r',q⟩:=hl j y v' e1 e2 e3
   refine ⟨u',r',?_⟩
   rcases q with ⟨k,e⟩ | ⟨k,c,e,z⟩
   ·refine .inl ⟨k,?_⟩
    have:y≠x:=fun e=>hj (ki hN e1 (e▸hi))
    simp [this,e]
   ·exact .inr ⟨k,c,e,z.sameBut hs (I.Ap y c e)⟩
 ·obtain ⟨w',z⟩:=I.cell y c e
  exact ⟨w',z.sameBut hs (I.Ap y c e)⟩
 ·obtain ⟨e,n,ne,nf,d⟩:=I.pin p hp
  exact ⟨(hs.2 p.1 ne).trans e,n,ne,nf,d⟩
 ·refine (I.bA b u e).ff (fun c w' hc q=>(hs.2 c ?_).trans q) (fun _ q=>q) fun _ _ q=>q
  rintro rfl
  rcases hc with rfl | hc
  ·rw [I.free] at e; cases e
  ·rw [I.free] at hc; cases hc
def Cx.marked (X:Cx) (a:Addr):Cx:={ X with A:=X.A.mark (some (.ref a)),calm:=false,xe:=fun _ _=>False }
theorem Inv.mark {a:Addr} (I:Inv X pins σ H s):Inv (X.marked a) pins σ H s:=
 ⟨⟨I.ok.mod,I.ok.kind,I.ok.glob,I.ok.blt,I.ok.above,I.ok.inj,I.ok.has,I.ok.Dy,(fun z=>absurd (show false = true from z) Bool.false_ne_true),I.ok.frames,I.ok.vH,I.ok.K9,I.ok.bs,I.ok.Bp,I.ok.u3,I.ok.ya,I.ok.iX,I.ok.CW⟩,I.os,I.bare,I.base,I.loc,I.cell,I.free,I.d4,I.pin,I.bA,I.len⟩
theorem Inv.unmark {a:Addr} (J:X.Ok) (I:Inv (X.marked a) pins σ H s):Inv X pins σ H s:=⟨J,I.os,I.bare,I.base,I.loc,I.cell,I.free,I.d4,I.pin,I.bA,I.len⟩
end
def EX (X:Cx) (pins:List (Addr×Obj)) (σ : St) (Ex:XK) (e:Value) (s':Shared):Prop:=
 ∃ a cls H' s0 H0,e = .ref a∧Inv X pins σ H0 s0∧AI X.prog X.w X.stack H0 s0 a cls H' s'∧Ex cls none H'
section
variable {X:Cx} {k j:Nat} {ps:List Str} {sp:Sp} {x:Str} {p pos:Pos} {e:Expr} {es:List Expr} {t:TA}
theorem FQ (h:df X.prog X.w X.K X.mg X.base (cA X.prog X.w) x k ps sp) (hr:dP j X.A) (ha:PA X.zB (e :: es) t) (hk:k≤j:=by decide) (hg:Gl X x:=by rfl) (sk:(x == ("__debug__" : Str)) = false:=by decide)
  (he:starEach (e :: es) X.env = (false,eval e X.env) :: starEach es X.env:=by rfl) (mZ:(backTo pos (starEach es X.env)).any (·.1) = false:=by rfl)
  {pins:List (Addr×Obj)} {s:Shared} {σ : St} {H:Hp} {Q:VK} {Ex:XK} (I:Inv X pins σ H s) (hw:t σ H fun vs H1=>sp (vs ++ []) H1 Q Ex) :
  wpAny (model X.prog X.w) X.A (eval (.Call (.Name x p) (e :: es) [] pos) X.env) (EP X pins σ Q) (EX X pins σ Ex) s:=by
 obtain ⟨f,fd,F,hm,yK,hb⟩:=h.ex
 refine wpAny_Call_Name_kw (iu I hg hm ?_ sk)
 refine PySem.W.callWith_K (h₀:=X.base) I.ok.mod.EE yK (wpAny_mono (ha pos pins s σ H _ (I.jP _) hw) (fun us s1 ⟨vs,H1,I1,r,q⟩=>⟨I1.lH,?_⟩) fun _ _ z=>False.elim z) he mZ
 have I1:=I1.fz
 dsimp only at q
 rw [List.append_nil] at q
 have hl:us.length = ps.length:=by rw [← r.length]; exact F.len _ _ _ _ q
 have o6:=hb s1 us I1.lH (by rw [List.append_nil]; exact hl)
 rw [List.append_nil] at o6
 refine wpAny_call (codeAny_mono (F.run X.A X.stack s1 H1 ⟨us,[]⟩ us vs Q Ex (hr.mono hk) I1.Fh o6 r q) fun rr s' hq=>?_)
 cases rr with
 | error ev=>
  obtain ⟨a,cls,H',rfl,fl,qe⟩:=hq
  exact ⟨a,cls,H',s1,H1,rfl,I1,fl,qe⟩
 | ok fl=>
  cases fl with
  | ret u=>exact I1.after hq
  | next=>exact False.elim hq
  | brk=>exact False.elim hq
  | cont=>exact False.elim hq
end
def K5 (K:Frag) (M:Addr) (jn:Nat) (ts:TS) (D:Ends) (σ : St):XK:=fun cls _ H'=>∃ C,cls = .ref C∧exmOne K (.ref C) (.ref M) = some true∧
 ∀ a,H' a = none→ts { nx:=fun σ' H2=>D.nx (σ'.set jn none) H2,rt:=D.rt,bk:=fun σ' H2=>D.bk (σ'.set jn none) H2,ct:=fun σ' H2=>D.ct (σ'.set jn none) H2 } (σ.set jn (some (.ref a))) (upd H' a (sE C a))
theorem yp {X:Cx} {x n:Str} {M:Addr} {jn:Nat} {b₀ : Stmt} {pD:List Stmt} {ts:TS} {np pos:Pos} (hb:Body X) (hm:X.mg x = some (.ref M)) (hN:X.N.Nodup) (hj:X.N[jn]? = some n) (hl:X.env.scope.names.lookup n = some .local)
  (hs:∀ a,qK (X.marked a) (b₀ :: pD) ts) (hg:Gl X x:=by rfl) (sk:(x == ("__debug__" : Str)) = false:=by decide)
  {pins:List (Addr×Obj)} {σ : St} {D:Ends} {e:Value} {s':Shared} (h:EX X pins σ (K5 X.K M jn ts D σ) e s') :
  wpAny (model X.prog X.w) X.A (noteFrame e X.env) (fun _ s2=>wpAny (model X.prog X.w) X.A (setFlight e none) (fun _ s3=>
   wpAny (model X.prog X.w) X.A (handleBy e X.env [.ExceptHandler (some (.Name x np)) (some n) (b₀ :: pD) pos]) (SP X pins D) X.xe s3) X.xe s2) X.xe s':=by
 obtain ⟨a,cls,H',s0,H0,rfl,I0,F,C,rfl,hx,q⟩:=h
 obtain ⟨B,a0,Ab,Oy,ct⟩:=F.Ab
 have I':=F.inv I0
 have Bc:X.A.frames = some (X.env :: X.outer):=by rw [← hb.vH]; exact I0.ok.frames
 have c0:uE B (gF X.stack) X.s₀.heap:=fun b o e n=>by
  obtain ⟨o',z⟩:=I0.base.there b o e (by rw [hb.ex]; simp)
  exact Oy b o' z n
 have QR:∀ p∈X.pn ++ pins,p.1≠a:=fun p hp z=>by
  have:=(I0.pin p hp).1
  rw [z,F.fresh] at this; cases this
 have cp:∀ p∈X.pn ++ pins,∃ ob,B.get? p.1 = some ob:=fun p hp=>by
  obtain ⟨e,nn,ne,nf,d⟩:=I0.pin p hp
  refine Oy _ _ e fun z=>?_
  rcases List.mem_cons.mp (I0.gH _ z) with r | r
  ·exact ne r
  ·exact nf r
 rw [hb.vH] at Ab
 refine wpAny_looks_onW Bc hb.fr Ab fun h4 E1 MA=>?_
 refine wpAny_landsW E1 fun h5 CY Mz=>?_
 have J5:Inv X pins σ H' { s' with heap:=h5,toks:=s'.toks }:=Inv.x9 I' hb.ex Ab.1 CY.1 c0 ct cp (MA.trans Mz)
 obtain ⟨ob,Kw,Kv⟩:=CY.there
 have ty:Looks (model X.prog X.w) h5 (typeOf (.ref a)) (.ref C):=Kv▸(Looks.ld Kw).andThen .now
 refine wpAny_handleBy_cons (codeAny_handlers_test (iu (X:=X.marked a) J5.mark hg hm ?_ sk)) (by intro z; cases z)
 refine (exm_one J5.lH ty hx).at ?_
 refine codeAny_handlers_suite_as ?_
 refine lands_againW (s:={ s' with heap:=h5 }) CY fun h6 Fg OV=>?_
 have J6:Inv X pins σ H' { s' with heap:=h6,toks:=s'.toks }:=Inv.x9 I' hb.ex Ab.1 Fg.1 c0 ct cp ((MA.trans Mz).trans OV)
 obtain ⟨oe,ws,Kt,Ks,CI,RU⟩:=Fg.first
 have ex:ExcAt C a h6:=⟨oe,Kt,Ks,by unfold notCls; rw [CI]⟩
 have nL:a≠X.env.locals:=fun z=>by
  obtain ⟨m,⟨o,es,ep,ho,hd,_⟩,_⟩:=J6.loc
  have ve:h6.get? X.env.locals = some o:=ho
  rw [← z,Kt] at ve; cases ve
  rw [CI] at hd; cases hd
 have nc:∀ y c,X.env.cells.lookup y = some c→c≠a:=fun y c e z=>by
  obtain ⟨v,o,ho,hd⟩:=J6.cell y c e
  have ve:h6.get? c = some o:=ho
  rw [z,Kt] at ve; cases ve
  rw [CI] at hd; cases hd
 have J7:Inv X pins σ (upd H' a (sE C a)) { s' with heap:=h6,toks:=s'.toks }:=Inv.DD J6 F.new (Ad ex) (I0.x5 hb.ex F.fresh) nL nc QR
 refine fU (X:=X.marked a) (v:=.ref a) J7.mark hN hj (.inl hl) rfl (fun s8 J8=>?_) (.inr hl)
 refine wpAny_mono (hs a pins s8 _ _ _ J8 (q a F.new)) (fun f s9 z=>?_) fun _ _ z=>False.elim z
 cases f with
 | next=>
  obtain ⟨σ',H2,J9,r⟩:=z
  exact jI (J9.unmark J7.ok) hN hj hl fun DU AE=>⟨_,H2,AE,r⟩
 | brk=>
  obtain ⟨σ',H2,J9,r⟩:=z
  exact jI (J9.unmark J7.ok) hN hj hl fun DU AE=>⟨_,H2,AE,r⟩
 | cont=>
  obtain ⟨σ',H2,J9,r⟩:=z
  exact jI (J9.unmark J7.ok) hN hj hl fun DU AE=>⟨_,H2,AE,r⟩
 | ret u=>
  obtain ⟨v,σ',H2,J9,rv,r⟩:=z
  exact jI (J9.unmark J7.ok) hN hj hl fun DU AE=>⟨v,_,H2,AE,rv,r⟩
def wa (K:Frag) (sp:Sp) (ta:TA) (M:Addr) (jn:Nat) (ts:TS):TS:=fun D σ H=>ta σ H fun vs H1=>sp (vs ++ []) H1 (fun _ H2=>D.nx σ H2) (K5 K M jn ts D σ)
theorem xc {X:Cx} {k j:Nat} {ps:List Str} {sp:Sp} {f x n:Str} {p1 p2 p3:Pos} {e:Expr} {es:List Expr} {ta:TA} {M:Addr} {jn:Nat} {b₀ : Stmt} {pD:List Stmt} {ts:TS} {np qi pos:Pos}
  (h:df X.prog X.w X.K X.mg X.base (cA X.prog X.w) f k ps sp) (hr:dP j X.A) (ha:PA X.zB (e :: es) ta) (hb:Body X) (hm:X.mg x = some (.ref M)) (hN:X.N.Nodup) (hj:X.N[jn]? = some n) (hl:X.env.scope.names.lookup n = some .local)
  (hs:∀ a,qK (X.marked a) (b₀ :: pD) ts) (hk:k≤j:=by decide) (Sf:Gl X f:=by rfl) (CP:(f == ("__debug__" : Str)) = false:=by decide)
  (he:starEach (e :: es) X.env = (false,eval e X.env) :: starEach es X.env:=by rfl) (mZ:(backTo p2 (starEach es X.env)).any (·.1) = false:=by rfl)
  (hg:Gl X x:=by rfl) (sk:(x == ("__debug__" : Str)) = false:=by decide) (Ki:swapsWith (.Call (.Name f p1) (e :: es) [] p2) none p3.line X.env = pure false:=by rfl) :
  PS X (.Try [.Expr (.Call (.Name f p1) (e :: es) [] p2) p3] [.ExceptHandler (some (.Name x np)) (some n) (b₀ :: pD) qi] [] [] pos) (wa X.K sp ta M jn ts):=by
 intro pins s σ H D I hw
 refine wpAny_Try_except ?_
 refine wpAny_execs_cons (wpAny_Expr_any (wpAny_mono (FQ h hr ha hk Sf CP he mZ I hw) (fun v s1 z=>?_) fun ev s1 z=>?_) I.quiet Ki)
 ·obtain ⟨y,H1,I1,r1,q1⟩:=z
  exact wpAny_execs_nil (wpAny_execs_nil ⟨σ,H1,I1,q1⟩)
 ·exact yp hb hm hN hj hl hs hg sk z
end L2
end
section
namespace L2
open PySem PySem.Spec PySem.W PySem.Calls PyProof.Rows
section
variable {P:Program} {w:World} {K:PySem.W.Frag} {mg:Str→Option Value} {base:Heap}
theorem Def.ef {x:Str} {st:Stmt} {N ps:List Str} {k:Nat} {sp:Sp} (D:Def K mg x st ps) (S:aQ N ps (aj st)) (len:∀ vs H Q E,sp vs H Q E→vs.length = ps.length)
  (kL:∀ (f:Addr) (de:Value) (A:Around) (outer:List Env) (s:Shared) (H:Hp) (vs:List V) (Q:VK) (E:XK),dP k (A.deeper (envOfC x (aj st) s.heap.objs.size f de))→sp vs H Q E→
   ∃ t,qK (iY (cA P w) P w K mg base N x (aj st) f de A outer s H E).zB (aL st) t∧t { nx:=fun _ H'=>Q .cX H',rt:=Q } (start N vs) H):df P w K mg base (cA P w) x (k + 1) ps sp:=by
 obtain ⟨f,fd,F,hm,hb⟩:=D.ex
 have kp:=F.kp
 obtain ⟨oc,od,kV,doc,pm,an,de,ct,vI,rfl,lk,su⟩:=F.ex
 refine ⟨⟨f,_,x8 lk su S len fun A outer s H vs Q E hr vL=>?_,hm,kp,hb⟩⟩
 obtain ⟨t,h,q⟩:=kL f de A outer s H vs Q E hr vL
 exact ⟨t,h.zB,q⟩
theorem Def.KW {x:Str} {st:Stmt} {N ps:List Str} {k:Nat} {sp:Sp} (D:Def K mg x st ps) (S:aQ N ps (aj st)) (len:∀ vs H Q E,sp vs H Q E→vs.length = ps.length)
  (kL:∀ (f:Addr) (de:Value) (A:Around) (outer:List Env) (s:Shared) (H:Hp) (vs:List V) (Q:VK) (E:XK),dP k (A.deeper (envOfC x (aj st) s.heap.objs.size f de))→sp vs H Q E→
   ∃ t,qK (iY (cA P w) P w K mg base N x (aj st) f de A outer s H E) (aL st) t∧t { nx:=fun _ H'=>Q .cX H',rt:=Q } (start N vs) H):df P w K mg base (cA P w) x (k + 1) ps sp:=by
 obtain ⟨f,fd,F,hm,hb⟩:=D.ex
 have kp:=F.kp
 obtain ⟨oc,od,kV,doc,pm,an,de,ct,vI,rfl,lk,su⟩:=F.ex
 exact ⟨⟨f,_,x8 lk su S len fun A outer s H vs Q E hr vL=>kL f de A outer s H vs Q E hr vL,hm,kp,hb⟩⟩
theorem Dg.okN {x:Str} {st:Stmt} {f:Addr} {fd:FuncData} {N ps:List Str} {k:Nat} {sp:Sp} (F:Dg K x x st f fd) (S:aQ N ps (aj st)) (len:∀ vs H Q E,sp vs H Q E→vs.length = ps.length)
  (kL:∀ (de:Value) (A:Around) (outer:List Env) (s:Shared) (H:Hp) (vs:List V) (Q:VK) (E:XK),dP k (A.deeper (envOfC x (aj st) s.heap.objs.size f de))→sp vs H Q E→
   ∃ t,qK (iY (cA P w) P w K mg base N x (aj st) f de A outer s H E).zB (aL st) t∧t { nx:=fun _ H'=>Q .cX H',rt:=Q } (start N vs) H):mB P w K mg base (cA P w) (k + 1) f fd ps sp:=by
 obtain ⟨oc,od,kV,doc,pm,an,de,ct,vI,rfl,lk,su⟩:=F.ex
 refine x8 lk su S len fun A outer s H vs Q E hr vL=>?_
 obtain ⟨t,h,q⟩:=kL de A outer s H vs Q E hr vL
 exact ⟨t,h.zB,q⟩
end
theorem vq {P:Program} {w:World} {o:List Env} {H:Hp} {s:Shared} {e:Value} {s':Shared} (h:cA P w o H s (fun _ _ _=>False) e s'):False:=by
 obtain ⟨_,_,_,_,_,z⟩:=h
 exact z
theorem yB {CX:qT} {P:Program} {w:World} {K:Frag} {mg:Str→Option Value} {base:Heap} {N:List Str} {qual:Str} {scope:Scope} {f:Addr} {cd:Value} {A:Around} {outer:List Env} {s:Shared} {H:Hp} {E:XK} :
  Body (iY CX P w K mg base N qual scope f cd A outer s H E).zB:=⟨rfl,rfl,rfl,rfl⟩
inductive Bs (K:Frag) (H:Hp):V→Value→Prop where
 | cX:Bs K H .cX (.type "NoneType")
 | exc {a C:Addr} (e:H a = some (sE C a)) (c:ju K C):Bs K H (.ref a) (.ref C)
theorem Bs.NB {X:Cx} {pins:List (Addr×Obj)} {σ : St} {H:Hp} {s:Shared} {x:V} {t u:Value} (y:Bs X.K H x t) (I:Inv X pins σ H s) (r:RelV x u):∃ Hh,KitX X.K u t Hh∧Hh s.heap∧u≠.builtin "__main__.__loader__#opaque":=by
 cases y with
 | cX=>cases (show u = Value.none from r); exact ⟨_,kitx_none,trivial,fun z=>nomatch z⟩
 | exc e c=>cases (show u = Value.ref _ from r); exact ⟨_,xI c,Ae I.bA e,fun z=>nomatch z⟩
def wY (K:Frag):List V→Hp→VK→Prop:=fun xs H Q=>∃ x c t u b,xs = [x,c]∧Bs K H x t∧o4 c u∧kitOne K t u = some b∧Q (.bl b) H
theorem lj {X:Cx}:d5 X (.builtin "isinstance") (wY X.K):=by
 intro pins s σ H xs us Q I r h
 obtain ⟨x,c,t,u,b,rfl,ty,rc,e,q⟩:=h
 obtain ⟨u1,u2,rfl,r1,r2⟩:=vals2 r
 have e2:u2 = u:=by
  cases rc <;> (cases r2; rfl)
 subst e2
 obtain ⟨Hh,Z,p,ne⟩:=ty.NB I r1
 exact kia_one Z I.lH p e ne fun tk=>⟨.bl b,H,I.tok _,rfl,q⟩
def wZ (K:Frag):List V→Hp→VK→Prop:=fun xs H Q=>∃ x tp cs t us b,xs = [x,.ref tp]∧Bs K H x t∧H tp = some (.tup cs)∧Paired o4 cs us∧kitAny K t us = some b∧Q (.bl b) H
theorem qF:∀ {cs:List V} {us ws:List Value},Paired o4 cs us→Vals cs ws→ws = us
 | _,_,_,.nil,.nil=>rfl
 | _,_,_,.cons r t,.cons q z=>by
  have e:=qF t z
  subst e
  cases r <;> (cases q; rfl)
theorem lq {X:Cx}:d5 X (.builtin "isinstance") (wZ X.K):=by
 intro pins s σ H xs us Q I r h
 obtain ⟨x,tp,cs,t,ws,b,rfl,ty,Dk,pc,e,q⟩:=h
 obtain ⟨u1,u2,rfl,r1,r2⟩:=vals2 r
 cases (show u2 = Value.ref tp from r2)
 obtain ⟨Hh,Z,p,ne⟩:=ty.NB I r1
 obtain ⟨_,aO,rv,ob,Kw,hc,n,hd⟩:=(show bg X.prog X.w H s.heap tp (.tup cs) from I.bA tp _ Dk)
 have ei:=qF pc rv
 subst ei
 obtain ⟨oc,od,Qu,vI⟩:=ob
 dsimp only at hc hd
 subst hc hd
 exact kia_tup Z I.lH p Kw e ne fun tk=>⟨.bl b,H,I.tok _,rfl,q⟩
section
variable {H:Hp} {Q:VK} {K:Frag}
theorem tO {x c:V} {t u:Value} {b:Bool} (ty:Bs K H x t) (hc:o4 c u) (e:kitOne K t u = some b) (q:Q (.bl b) H):wY K [x,c] H Q:=⟨x,c,t,u,b,rfl,ty,hc,e,q⟩
theorem tP {x:V} {tp:Addr} {cs:List V} {t:Value} {us:List Value} {b:Bool} (ty:Bs K H x t) (h:H tp = some (.tup cs)) (hc:Paired o4 cs us) (e:kitAny K t us = some b) (q:Q (.bl b) H):wZ K [x,.ref tp] H Q:=⟨x,tp,cs,t,us,b,rfl,ty,h,hc,e,q⟩
theorem nP {Ex:XK} {C:Addr} {ta:TA} {D:Ends} {σ : St} (h:ta σ H fun vs H1=>vs.length≤sizeLine∧Ex (.ref C) none H1):wb Ex C ta D σ H:=h
theorem nN {sp:Sp} {ta:TA} {M:Addr} {jn:Nat} {ts:TS} {D:Ends} {σ : St} (h:ta σ H fun vs H1=>sp (vs ++ []) H1 (fun _ H2=>D.nx σ H2) (K5 K M jn ts D σ)):wa K sp ta M jn ts D σ H:=h
end
end L2
end
section
namespace L2
open PySem PySem.Spec PySem.W PySem.Calls PyProof.Rows
def Ef (K:Frag):R2:=fun x y H Q=>∃ p q a b c d,x = .ref p∧y = .ref q∧SqT K H p [.int a,.int b]∧SqT K H q [.int c,.int d]∧Q (.bl (!decide (a = c∧b = d))) H
theorem B9 {X:Cx} (hu:X.A.units < cLine):lA X (compareOp .NotEq) (Ef X.K):=by
 intro pins s σ H x y v u Q I rx ry h
 obtain ⟨p,q,a,b,c,d,rfl,rfl,hp,hq,qq⟩:=h
 cases rx
 cases ry
 obtain ⟨aO,r1,p1,_⟩:=I.tuple hp
 obtain ⟨Cr,r2,p2,_⟩:=I.tuple hq
 obtain ⟨u1,u2,rfl,⟨t1,rfl⟩,⟨t2,rfl⟩⟩:=vals2 r1
 obtain ⟨w1,w2,rfl,⟨t3,rfl⟩,⟨t4,rfl⟩⟩:=vals2 r2
 refine SeqAt.RcNeAt.tuples (e:=fun j=>if j = 0 then a == c else b == d) p1 p2 hu (fun j h1 h2=>?_) X.prog X.w X.xe _ (aX I qq ?_)
 ·have hj:j = 0∨j = 1:=by
   have:j < 2:=h1
   omega
  rcases hj with rfl | rfl
  ·exact SeqAt.EqAt.int_int a t1 c t3
  ·exact SeqAt.EqAt.int_int b t2 d t4
 ·show (!decide (a = c∧b = d)) = (!((List.range 2).all (fun j=>if j = 0 then a == c else b == d) && (2 == 2)))
  have e:(List.range 2).all (fun j=>if j = 0 then a == c else b == d) = ((a == c) && (b == d)):=by
   rw [show List.range 2 = [0,1] from rfl]
   simp
  rw [e]
  by_cases h1:a = c <;> by_cases h2:b = d <;> simp [h1,h2]
theorem Ec {K:Frag} {H:Hp} {Q:VK} {p q:Addr} {a b c d:Int} (hp:SqT K H p [.int a,.int b]) (hq:SqT K H q [.int c,.int d]) (k:Q (.bl (!decide (a = c∧b = d))) H):Ef K (.ref p) (.ref q) H Q:=⟨p,q,a,b,c,d,rfl,rfl,hp,hq,k⟩
theorem vU {X:Cx} {k:Nat} (hr:dP k X.A):X.A.units < cLine:=hr.Bz
end L2
end
section
namespace L2
open PySem PySem.Spec PySem.W PySem.Calls PyProof.Rows
def AllIn (cells:List (Str×Addr)):List (Str×Addr)→Prop
 | []=>True
 | p :: r=>cells.lookup p.1 = some p.2∧AllIn cells r
theorem AllIn.get {cells:List (Str×Addr)}:∀ {cl:List (Str×Addr)},AllIn cells cl→∀ {x c},cl.lookup x = some c→cells.lookup x = some c
 | [],_,x,c,e=>by cases e
 | (n,d) :: r,h,x,c,e=>by
  rw [List.lookup_cons] at e
  cases q:x == n with
  | true=>
   rw [q] at e; cases e
   have z:x = n:=by simpa using q
   subst z
   exact h.1
  | false=>rw [q] at e; exact AllIn.get h.2 e
def yE (X:Cx) (ifs:List Expr) (t:TT):Prop:=
 ∀ (pins:List (Addr×Obj)) (s:Shared) (σ : St) (H:Hp) (Q:Bool→Hp→Prop),Inv X pins σ H s→t σ H Q→
  wpAny (model X.prog X.w) X.A (forIn ifs true fun c r=>if r = true then do let ok ← isTrue c X.env (eval c X.env); pure (ForInStep.yield ok) else pure (ForInStep.yield r)) (TP X pins σ Q) X.xe s
def pq:TT:=fun _ H Q=>Q true H
theorem cU {X:Cx}:yE X [] pq:=fun _ _ _ H _ I h=>wpAny_tests_nil ⟨H,I,h⟩
theorem h9 {X:Cx} {c:Expr} {t:TT} (h:PT X c t):yE X [c] t:=fun pins s σ H Q I hw=>wpAny_tests_one (h pins s σ H Q I hw)
section
variable {prog:Program} {w:World} {A:Around} {R:Result→Shared→Prop} {s:Shared}
theorem vv {elt target iter:Expr} {ifs:List Expr} {scope:Scope} {pos:Pos} {it acc:Value} {env:Env} (I:Nat→Shared→Prop)
  (turn:∀ n s,I n s→wpAny (model prog w) A (pyNext it) (fun r s₁=>match r with
   | none=>R (.ok .next) s₁
   | some v=>wpAny (model prog w) A (letOwnedTupleGo target it v) (fun _ s1=>wpAny (model prog w) A (assign target env v) (fun _ s₂=>
     wpAny (model prog w) A (forIn ifs true fun c r=>if r = true then do let ok ← isTrue c env (eval c env); pure (ForInStep.yield ok) else pure (ForInStep.yield r)) (fun ok s₃=>
      if ok = true then wpAny (model prog w) A (eval elt env) (fun x s₄=>wpAny (model prog w) A (call (.builtin "list.append") [acc,x]) (fun _ s₅=>∃ m,m < n∧I m s₅) (fun _ _=>False) s₄) (fun _ _=>False) s₃
      else ∃ m,m < n∧I m s₃) (fun _ _=>False) s₂) (fun _ _=>False) s1) (fun _ _=>False) s₁) (fun _ _=>False) s)
  (n:Nat) (h:I n s):codeAny (model prog w) A (.compLoop (.ListComp elt [⟨target,iter,ifs,0⟩] scope pos) 0 it acc env) R s:=by
 refine codeAny_loop rfl I (fun n s hI=>?_) n h
 show wpAny _ A ((compTurn (.ListComp elt [⟨target,iter,ifs,0⟩] scope pos) 0 it acc env).onRaise (fun x=>do noteFrame x env; theTreesLotGoes x)) _ _ s
 refine wpAny_noted ?_
 rw [compTurn_list]
 refine wpAny_bind (wpAny_standAt (wpAny_bind (wpAny_mono (turn n s hI) (fun r s₁ h₁=>?_) fun _ _ z=>False.elim z)))
 cases r with
 | none=>exact wpAny_pure h₁
 | some v=>
  refine wpAny_bind (wpAny_mono h₁ (fun _ s1 h1=>wpAny_bind (wpAny_mono h1 (fun _ s₂ h₂=>wpAny_bind (wpAny_mono h₂ (fun ok s₃ h₃=>?_) fun _ _ z=>False.elim z)) fun _ _ z=>False.elim z)) fun _ _ z=>False.elim z)
  cases ok with
  | false=>exact wpAny_pure ⟨rfl,h₃⟩
  | true=>
   exact wpAny_bind (wpAny_bind (wpAny_mono h₃ (fun x s₄ h₄=>wpAny_bind (wpAny_mono h₄ (fun _ s₅ h₅=>wpAny_pure (wpAny_pure ⟨rfl,h₅⟩)) fun _ _ z=>False.elim z)) fun _ _ z=>False.elim z))
end
def Cx.block (X:Cx) (scope:Scope) (cl:List (Str×Addr)) (C:Addr) (N:List Str) (fp:List Addr) (pins:List (Addr×Obj)) (s:Shared) (H:Hp):Cx:=
 { X with N:=N,s₀:=s,H₀:=H,env:=compEnvC scope cl C X.env,outer:=X.stack,ex:=fp,fn:=fun _=>false,pn:=X.pn ++ pins,xe:=fun _ _=>False }
def gu (n:Nat) (fr:List Nat) (σ : St):St:=List.replicate n none ++ fr.map fun i=>(σ[i]?).join
structure jO (X:Cx) (scope:Scope) (cl:List (Str×Addr)) (tg:List Str) (fr:List (Str×Nat)):Prop where
 kind:scope.kind = .function
 Cc:∀ y∈scope.names,y.2≠.cell
 names:∀ y∈scope.names,y.2 = .local→scope.names.lookup y.1 = some .local
 Fu:closureFor scope X.env = pure cl
 Bq:AllIn X.env.cells cl
 has:((relabel scope X.env).names.all fun p=>!(p.2 == .cell || p.2 == .free) || (cl.lookup p.1).isSome) = true
 SD:∀ p∈fr,X.N[p.2]? = some p.1∧He X.env.scope p.1∧(cl.lookup p.1).isSome = true∧(relabel scope X.env).names.lookup p.1 = some .cell
 SE:∀ p∈fr,X.env.kindOf p.1 = some .cell
section
variable {X:Cx} {pins:List (Addr×Obj)} {σ : St} {H:Hp} {s:Shared} {scope:Scope} {cl:List (Str×Addr)} {tg:List Str} {fr:List (Str×Nat)}
theorem lookup_mem {κ α : Type} [BEq κ] [LawfulBEq κ]:∀ {l:List (κ×α)} {x : κ} {v : α},l.lookup x = some v→(x,v)∈l
 | [],_,_,e=>by cases e
 | (k,u) :: r,x,v,e=>by
  rw [List.lookup_cons] at e
  cases q:x == k with
  | true=>
   rw [q] at e; cases e
   have z:x = k:=by simpa using q
   subst z
   exact List.mem_cons_self
  | false=>rw [q] at e; exact List.mem_cons_of_mem _ (lookup_mem e)
theorem qI {C:Addr} {fp:List Addr} {h':Heap} {t':Nat} {m:Str→Option Value} (B:jO X scope cl tg fr) (I:Inv X pins σ H s) (hf:∀ b∈fp,lF X pins H b∧b < s.heap.objs.size) (hC:s.heap.objs.size≤C) (hn:h'.Ns C m) (k:∀ b o,s.heap.get? b = some o→h'.get? b = some o)
  {H2:Hp} (hu:Un (gF X.stack) fp H H2 s.heap h') (bA:gy X.prog X.w H2 h') (um:H2 C = none) :
  Inv (X.block scope cl C (tg ++ fr.map (·.1)) fp pins s H) [] (gu tg.length (fr.map (·.2)) σ) H2 { s with heap:=h',toks:=t' }:=by
 have cells:∀ {x c},cl.lookup x = some c→X.env.cells.lookup x = some c:=fun e=>B.Bq.get e
 have cC:∀ x c,X.env.cells.lookup x = some c→c≠C:=fun x c e z=>by
  obtain ⟨v,o,ho,_⟩:=I.cell x c e
  exact absurd (Nat.lt_of_lt_of_le (Heap.lt_size ho) hC) (by rw [z]; exact Nat.lt_irrefl _)
 have cellK:∀ {c v},s.heap.IsCell c v→h'.IsCell c v:=fun {c v} ⟨o,e,d⟩=>⟨o,k c o e,d⟩
 have Bm:∀ x c,X.env.cells.lookup x = some c→c∉fp∧H2 c = none:=fun x c e=>by
  have nf:c∉fp:=fun z=>(hf c z).1.2.2.2.2.1 x c e rfl
  obtain ⟨v,o,ho,_⟩:=I.cell x c e
  exact ⟨nf,hu.free c o ho (I.d4 x c e) nf⟩
 have IJ:∀ p∈X.pn ++ pins,p.1∉fp∧H2 p.1 = none:=fun p hp=>by
  have nf:p.1∉fp:=fun z=>(hf p.1 z).1.2.2.2.2.2 p hp rfl
  obtain ⟨e,n,_⟩:=I.pin p hp
  exact ⟨nf,hu.free p.1 _ e n nf⟩
 have Pp:∀ b∈gF X.stack,b < s.heap.objs.size:=fun b hb=>by
  obtain ⟨_,o,ho,_⟩:=I.stack.mem hb
  exact Heap.lt_size ho
 refine ⟨⟨I.ok.mod,B.kind,I.ok.glob,I.ok.blt,hC,fun x y c h1 h2=>I.ok.inj x y c (cells h1) (cells h2),fun x hx=>?_,fun x c z=>absurd (show false = true from z) Bool.false_ne_true,I.ok.hd,I.ok.frames,.inl rfl,fun b hb=>?_,fun b o e=>⟨?_,?_⟩,?_,fun b o e z=>?_,fun b hb z=>?_,I.stack,I.nI⟩,
  rfl,I.bare,hu,⟨m,hn,fun i x v h1 h2 h3=>?_⟩,fun x c e=>?_,um,fun x c e=>(Bm x c (cells e)).2,fun p hp=>?_,bA,?_⟩
 ·have e:(relabel scope X.env).names.lookup x = some .cell∨(relabel scope X.env).names.lookup x = some .free:=hx
  have mem:∃ kk,(x,kk)∈(relabel scope X.env).names∧(kk == NameKind.cell || kk == NameKind.free) = true:=by
   rcases e with e | e
   ·exact ⟨_,lookup_mem e,rfl⟩
   ·exact ⟨_,lookup_mem e,rfl⟩
  obtain ⟨kk,mm,hk⟩:=mem
  have z:=List.all_eq_true.mp B.has _ mm
  simp only [hk,Bool.not_true,Bool.false_or] at z
  exact Option.isSome_iff_exists.mp z
 ·exact ⟨fun z=>absurd (Nat.lt_of_lt_of_le (hf b hb).2 hC) (by rw [z]; exact Nat.lt_irrefl _),fun x c e z=>(Bm x c (cells e)).1 (z▸hb)⟩
 ·exact (I.bs b o e).1
 ·exact (I.bs b o e).2
 ·exact Nat.le_trans I.ok.Bp I.sz
 ·rcases (hf b z).1.2.2.2.1 with q | q
  ·exact I.ok.u3 b o e q
  ·exact absurd (Nat.lt_of_lt_of_le (Heap.lt_size (I.ok.bs b o e).1) q) (Nat.lt_irrefl _)
 ·have z':b∈gF X.stack:=z
  rcases List.mem_cons.mp (I.gH b z') with q | q
  ·exact (hf b hb).1.2.1 q
  ·exact (hf b hb).1.2.2.1 q
 ·have hi:tg.length≤i:=by
   refine Nat.le_of_not_lt fun z=>?_
   unfold gu at h2
   rw [List.getElem?_append_left (by simpa using z),List.getElem?_replicate,if_pos z] at h2
   cases h2
  have vi:(fr.map (·.1))[i - tg.length]? = some x:=by
   have z:(tg ++ fr.map (·.1))[i]? = some x:=h1
   rw [List.getElem?_append_right hi] at z
   exact z
  have qw:((fr.map (·.2)).map fun i=>(σ[i]?).join)[i - tg.length]? = some (some v):=by
   unfold gu at h2
   rw [List.getElem?_append_right (by simpa using hi)] at h2
   simpa using h2
  rw [List.getElem?_map] at vi
  rw [List.getElem?_map,List.getElem?_map] at qw
  cases q:fr[i - tg.length]? with
  | none=>rw [q] at vi; cases vi
  | some p=>
   rw [q] at vi qw
   have ex:p.1 = x:=Option.some.inj vi
   have ev:(σ[p.2]?).join = some v:=Option.some.inj qw
   subst ex
   obtain ⟨f1,f2,f3,f4⟩:=B.SD p (List.mem_of_getElem? q)
   have eσ : σ[p.2]? = some (some v):=by
    cases z : σ[p.2]? with
    | none=>rw [z] at ev; cases ev
    | some w'=>rw [z] at ev; exact congrArg some ev
   obtain ⟨m0,EO,R7⟩:=I.loc
   obtain ⟨u,r,l⟩:=R7 p.2 p.1 v f1 eσ f2
   refine ⟨u,r,?_⟩
   obtain ⟨c,hc⟩:=Option.isSome_iff_exists.mp f3
   have hk:=B.SE p (List.mem_of_getElem? q)
   rcases l with ⟨kl,_⟩ | ⟨_,c',uo,z⟩
   ·rw [hk] at kl; cases kl
   ·have e':=cells hc
    rw [uo] at e'
    cases e'
    exact .inr ⟨.inl f4,c,hc,cellK z⟩
 ·obtain ⟨v,z⟩:=I.cell x c (cells e)
  exact ⟨v,cellK z⟩
 ·rw [List.append_nil] at hp
  obtain ⟨e,n,ne,nf,d⟩:=I.pin p hp
  refine ⟨k _ _ e,(IJ p hp).2,fun z=>absurd (Nat.lt_of_lt_of_le (Heap.lt_size e) hC) (by rw [z]; exact Nat.lt_irrefl _),fun z=>?_,d⟩
  rcases List.mem_cons.mp (I.gH _ z) with q | q
  ·exact ne q
  ·exact nf q
 ·unfold gu
  show _ = (tg ++ fr.map (·.1)).length
  simp
end
end L2
end
section
namespace L2
open PySem PySem.Spec PySem.W PySem.Calls PyProof.Rows
def jT (wi:TI) (g:TG) (tt:TT) (te:TE) (n:Nat) (fr:List Nat):TE:=fun σ H Q=>wi σ H fun J H1=>∀ acc,H1 acc = none→∃ W:Nat→Nat→St→List V→Hp→Prop,(∃ m,W 0 m (gu n fr σ) [] (upd H1 acc (.lst [])))∧
 ∀ i m σ' ys H2,W i m σ' ys H2→((J.stop i H2∧Q (.ref acc) H2)∨(J.go i H2∧∀ x H3,J.vG i H2 x H3→g x σ' H3 fun σ2 H4=>tt σ2 H4 fun b H5=>
  if b = true then te σ2 H5 fun y H6=>H6 acc = some (.lst ys)∧ys.length < sizeLine∧∃ m',m' < m∧W (i + 1) m' σ2 (ys ++ [y]) (upd H6 acc (.lst (ys ++ [y]))) else ∃ m',m' < m∧W (i + 1) m' σ2 ys H5))
section
variable {X:Cx} {scope:Scope} {cl:List (Str×Addr)} {tg:List Str} {fr:List (Str×Nat)} {elt target iter:Expr} {ifs:List Expr} {wi:TI} {g:TG} {tt:TT} {te:TE} {pos:Pos}
theorem nh (B:jO X scope cl tg fr) (hc:X.calm = true) (hi:PI X target iter wi)
  (hg:∀ C fp pins s H,PG (X.block scope cl C (tg ++ fr.map (·.1)) fp pins s H) target g) (ht:∀ C fp pins s H,yE (X.block scope cl C (tg ++ fr.map (·.1)) fp pins s H) ifs tt) (he:∀ C fp pins s H,PE (X.block scope cl C (tg ++ fr.map (·.1)) fp pins s H) elt te)
  {pins:List (Addr×Obj)} {σ : St} {H:Hp} {s:Shared} {Q:VK} (I:Inv X pins σ H s) (hw:jT wi g tt te tg.length (fr.map (·.2)) σ H Q) {RR:Value→Addr→Result→Shared→Prop}
  (Su:∀ D C s1 H5 m,Inv X pins σ H5 s1→s1.heap.Ns C m→H5 C = none→C≠X.env.locals→X.s₀.heap.objs.size≤C→(∀ x c,X.env.cells.lookup x = some c→c≠C)→(∀ p∈X.pn ++ pins,p.1≠C)→Q (.ref D) H5→RR (.ref D) C (.ok .next) s1) :
  wpAny (model X.prog X.w) X.A (eval iter X.env) (fun xv s1=>wpAny (model X.prog X.w) X.A (pyIter xv) (fun it s2=>wpAny (model X.prog X.w) X.A (newList []) (fun acc s3=>
   wpAny (model X.prog X.w) X.A (newFunctionEnv scope X.env.globals cl [] X.env.qual none .none (some X.env)) (fun Fw s4=>
    codeAny (model X.prog X.w) X.A (.compStart (.ListComp elt [⟨target,iter,ifs,0⟩] scope pos) 0 it acc { Fw with scope:=relabel scope X.env }) (RR acc Fw.locals) s4) X.xe s3) X.xe s2) X.xe s1) X.xe s:=by
 refine wpAny_mono (hi pins s σ H _ I hw) (fun xv s1 h1=>wpAny_mono h1 (fun J1 s2 h2=>?_) fun _ _ z=>z) fun _ _ z=>z
 obtain ⟨it,fp,tn,J,H1,rfl,I2,T,Hm,f2,RC⟩:=h2
 have yN:∀ b∈fp,b < s2.heap.objs.size:=fun b hb=>by
  obtain ⟨o,e,_⟩:=T.obj _ _ Hm b hb
  exact Heap.lt_size e
 refine wpAny_newObj_type (wpAny_newFunctionEnv B.Cc (by intro y hy; simp at hy) (fun h3 yJ GA=>?_) B.kind)
 dsimp only at yJ GA ⊢
 generalize hP:s2.heap.push { cls:=.type "list",dict:=none,data:=.seq ([]:List Value).toArray } = hp at yJ GA ⊢
 have hC:hp.objs.size = s2.heap.objs.size + 1:=by rw [← hP,Heap.size_push]
 have eV:s2.heap.objs.size < hp.objs.size:=by rw [hC]; exact Nat.lt_succ_self _
 have k3:∀ b o,s2.heap.get? b = some o→h3.get? b = some o:=fun b o e=>by
  have l:=Heap.lt_size e
  refine GA.extBut b o (Nat.ne_of_lt (Nat.lt_trans l eV)) (Heap.get?_push_of_some _ (hP▸Heap.get?_push_of_some _ e))
 have hD:H1 s2.heap.objs.size = none:=I2.bA.fresh (Nat.le_refl _)
 have bT:h3.get? s2.heap.objs.size = some { cls:=.type "list",dict:=none,data:=.seq ([]:List Value).toArray }:=GA.extBut _ _ (Nat.ne_of_lt eV) (Heap.get?_push_of_some _ (hP▸Heap.get?_push_size _ rfl))
 obtain ⟨W,⟨m0,w0⟩,turn⟩:=RC _ hD
 have OY:Un (gF X.stack) fp H1 (upd H1 s2.heap.objs.size (.lst [])) s2.heap h3:=Un.laid k3 (Nat.le_refl _) hD
 have Qt:gy X.prog X.w (upd H1 s2.heap.objs.size (.lst [])) h3:=I2.bA.laid k3 (Nat.le_refl _) ⟨Nat.zero_le _,[],0,.nil,bT⟩
 have fC:upd H1 s2.heap.objs.size (.lst []) hp.objs.size = none:=by rw [aq (Nat.ne_of_gt eV)]; exact I2.bA.fresh (Nat.le_of_lt eV)
 have Q5:=I2.lt
 have nL:hp.objs.size≠X.env.locals:=Nat.ne_of_gt (Nat.lt_trans Q5 eV)
 have PJ:X.s₀.heap.objs.size≤hp.objs.size:=Nat.le_trans I2.sz (Nat.le_of_lt eV)
 have cC:∀ x c,X.env.cells.lookup x = some c→c≠hp.objs.size:=fun x c e z=>by
  obtain ⟨v,o,ho,_⟩:=I2.cell x c e
  exact absurd (Nat.lt_trans (Heap.lt_size ho) eV) (by rw [z]; exact Nat.lt_irrefl _)
 have pC:∀ p∈X.pn ++ pins,p.1≠hp.objs.size:=fun p CH z=>by
  exact absurd (Nat.lt_trans (Heap.lt_size (I2.pin p CH).1) eV) (by rw [z]; exact Nat.lt_irrefl _)
 have J0:=qI (t':=s2.toks + ([]:List (Str×Value)).length) B I2 (fun b hb=>⟨f2 b hb,yN b hb⟩) (Nat.le_of_lt eV) yJ k3 OY Qt fC
 have K7:∀ {H':Hp} {pl:List (Addr×Obj)},(∀ b∈fp,H' b = none)→(∀ p∈pl,p.1∉fp)→∀ b∈fp,lF (X.block scope cl hp.objs.size (tg ++ fr.map (·.1)) fp pins s2 H1) pl H' b:=fun hn mZ b hb=>by
  obtain ⟨g0,g1,g2,g3,g4,g5⟩:=f2 b hb
  refine ⟨hn b hb,fun z=>?_,fun z=>?_,.inl hb,fun x c e=>g4 x c (B.Bq.get e),fun p CH z=>?_⟩
  ·have z':b = hp.objs.size:=z
   exact absurd (Nat.lt_trans (yN b hb) eV) (by rw [z']; exact Nat.lt_irrefl _)
  ·rcases List.mem_cons.mp (I2.gH b z) with q | q
   ·exact g1 q
   ·exact g2 q
  ·rcases List.mem_append.mp CH with q | q
   ·exact g5 p q z
   ·exact mZ p q (z▸hb)
 have loop:∀ s3:Shared,s3 = { s2 with heap:=h3,toks:=s2.toks + ([]:List (Str×Value)).length }→
   codeAny (model X.prog X.w) X.A (.compLoop (.ListComp elt [⟨target,iter,ifs,0⟩] scope pos) 0 (.ref it) (.ref s2.heap.objs.size) (compEnvC scope cl hp.objs.size X.env)) (RR (.ref s2.heap.objs.size) hp.objs.size) s3:=by
  rintro s3 rfl
  refine vv (fun n s'=>∃ i σ' ys H5,Inv (X.block scope cl hp.objs.size (tg ++ fr.map (·.1)) fp pins s2 H1) [] σ' H5 s'∧tn i s'.heap∧(∀ b∈fp,H5 b = none)∧W i n σ' ys H5) ?_ m0
   ⟨0,_,[],_,J0,T.keep _ _ _ Hm fun b hb o e=>k3 b o e,fun b hb=>?_,w0⟩
  ·rintro n s' ⟨i,σ',ys,H5,J5,t5,f5,w5⟩
   rcases turn i n σ' ys H5 w5 with ⟨stop,q⟩ | ⟨go,step⟩
   ·refine wpAny_mono (T.done (X.block scope cl hp.objs.size (tg ++ fr.map (·.1)) fp pins s2 H1) rfl rfl rfl hc i [] s' σ' H5 (fun _ _=>False) J5 (K7 f5 (by simp)) t5 stop) (fun r s6 ⟨hr,J6⟩=>?_) fun _ _ z=>z
    subst hr
    obtain ⟨m6,RZ,_⟩:=J6.loc
    exact Su _ _ _ H5 m6 (I2.Bo (ch:=fp) J6.os J6.base J6.bA J6.bare fun b hb=>by obtain ⟨g0,g1,g2,g3,g4,g5⟩:=f2 b hb; exact ⟨g3,g1,g4,g5⟩) RZ J6.free nL PJ cC pC q
   ·refine wpAny_mono (T.item (X.block scope cl hp.objs.size (tg ++ fr.map (·.1)) fp pins s2 H1) rfl rfl rfl hc i [] s' σ' H5 (fun _ _=>False) J5 (K7 f5 (by simp)) t5 go) (fun r s6 ⟨u,hr,h6⟩=>?_) fun _ _ z=>z
    subst hr
    refine wpAny_mono h6 (fun _ s7 ⟨x,H7,J7,r7,y7,t7,f7⟩=>?_) fun _ _ z=>z
    have TU:=J7.pinned (K7 f7 (by simp)) (T.obj _ _ t7)
    have again:∀ {σ8:St} {H8:Hp} {s8:Shared} {Dz:List V},Inv (X.block scope cl hp.objs.size (tg ++ fr.map (·.1)) fp pins s2 H1) ([] ++ ka fp s7.heap) σ8 H8 s8→(∃ m',m' < n∧W (i + 1) m' σ8 Dz H8)→
      ∃ m',m' < n∧∃ i σ' ys H5,Inv (X.block scope cl hp.objs.size (tg ++ fr.map (·.1)) fp pins s2 H1) [] σ' H5 s8∧tn i s8.heap∧(∀ b∈fp,H5 b = none)∧W i m' σ' ys H5:=fun {σ8 H8 s8 Dz} J8 ⟨m',hm,w8⟩=>by
     refine ⟨m',hm,i + 1,σ8,Dz,H8,J8.hU,T.keep _ _ _ t7 fun b hb o e=>(J8.pin (b,o) (List.mem_append_right _ (List.mem_append_right _ (fJ hb e)))).1,fun b hb=>?_,w8⟩
     obtain ⟨o,e,d⟩:=T.obj _ _ t7 b hb
     exact (J8.pin (b,o) (List.mem_append_right _ (List.mem_append_right _ (fJ hb e)))).2.1
    refine wpAny_mono (hg _ _ _ _ _ _ s7 σ' H7 x u _ TU r7 (step x H7 y7)) (fun _ s8 ⟨σ8,H8,J8,q8⟩=>?_) fun _ _ z=>z
    refine wpAny_mono (ht _ _ _ _ _ _ s8 σ8 H8 _ J8 q8) (fun b s9 ⟨H9,J9,q9⟩=>?_) fun _ _ z=>z
    cases b with
    | false=>
     rw [if_neg Bool.false_ne_true] at q9 ⊢
     exact again J9 q9
    | true=>
     rw [if_pos rfl] at q9 ⊢
     refine wpAny_mono (he _ _ _ _ _ _ s9 σ8 H9 _ J9 q9) (fun y DU ⟨v,T6,AE,P8,K0,KJ,Qb⟩=>?_) fun _ _ z=>z
     refine wpAny_mono (cK (X:=X.block scope cl hp.objs.size (tg ++ fr.map (·.1)) fp pins s2 H1) _ DU σ8 T6 (.ref s2.heap.objs.size) [v] (.ref s2.heap.objs.size) [y] (fun _ OO=>∃ m',m' < n∧W (i + 1) m' σ8 (ys ++ [v]) OO) AE rfl (.cons P8 .nil) ⟨_,ys,v,rfl,rfl,K0,KJ,Qb⟩) (fun _ UC ⟨_,OO,TV,_,Qa⟩=>?_) fun _ _ z=>z
     exact again TV Qa
  ·have l:=yN b hb
   rw [aq (Nat.ne_of_lt l)]; exact (f2 b hb).1
 exact codeAny_compStart_list (loop _ rfl) (T.self X.A 0 _ _ _ (T.keep _ _ _ Hm fun b hb o e=>k3 b o e) (loop _ rfl))
theorem fG (B:jO X scope cl tg fr) (hc:X.calm = true) (hi:PI X target iter wi)
  (hg:∀ C fp pins s H,PG (X.block scope cl C (tg ++ fr.map (·.1)) fp pins s H) target g) (ht:∀ C fp pins s H,yE (X.block scope cl C (tg ++ fr.map (·.1)) fp pins s H) ifs tt) (he:∀ C fp pins s H,PE (X.block scope cl C (tg ++ fr.map (·.1)) fp pins s H) elt te)
  (hs:∀ x,foldedSetIterable iter X.env x = pure x:=by intro _; rfl):PE X (.ListComp elt [⟨target,iter,ifs,0⟩] scope pos) (jT wi g tt te tg.length (fr.map (·.2))):=by
 intro pins s σ H Q I hw
 rw [eval_ListComp]
 refine wpAny_comprehension_free (use:=none) rfl hs B.Fu B.kind B.names (nh B hc hi hg ht he I hw (RR:=fun acc C=>compPost (model X.prog X.w) X.A X.xe none (EP X pins σ Q) acc C) fun D C s1 H5 m J hn f0 f1 f2 f3 f4 q=>?_)
 refine ⟨m,hn,fun h' sb=>⟨.ref D,H5,?_,rfl,q⟩⟩
 exact J.turned (t':=s1.toks) (fun b o hb e=>(sb.2 b hb).trans e) f0 f1 (.inr f2) f3 f4
theorem fF {i:Nat} {y:Str} {py DQ:Pos} (hN:X.N.Nodup) (hy:X.N[i]? = some y) (hl:Loc X.env.scope y) (B:jO X scope cl tg fr) (hc:X.calm = true) (hi:PI X target iter wi)
  (hg:∀ C fp pins s H,PG (X.block scope cl C (tg ++ fr.map (·.1)) fp pins s H) target g) (ht:∀ C fp pins s H,yE (X.block scope cl C (tg ++ fr.map (·.1)) fp pins s H) ifs tt) (he:∀ C fp pins s H,PE (X.block scope cl C (tg ++ fr.map (·.1)) fp pins s H) elt te)
  (hs:∀ x,foldedSetIterable iter X.env x = pure x:=by intro _; rfl) (Ki:swapsWith (.ListComp elt [⟨target,iter,ifs,0⟩] scope pos) (some (.Name y py)) DQ.line X.env = pure true:=by rfl)
  (hf:X.fn y = true∨X.env.scope.names.lookup y = some .local:=by first | exact .inl rfl | exact .inr rfl | assumption) :
  PS X (.Assign [.Name y py] (.ListComp elt [⟨target,iter,ifs,0⟩] scope pos) DQ) (yY (jT wi g tt te tg.length (fr.map (·.2))) (jr i)):=by
 intro pins s σ H D I hw
 rw [exec_Assign_Name_used _ _ _ _ Ki]
 refine wpAny_bind (wpAny_standAt (wpAny_bind ?_))
 show wpAny _ _ (do let _ ← comprehension (.ListComp elt [⟨target,iter,ifs,0⟩] scope pos) scope X.env _ (newList []) false (eval iter X.env) (some (assign (.Name y py) X.env))) _ _ s
 refine wpAny_bind (wpAny_mono (wpAny_comprehension_free (use:=some (assign (.Name y py) X.env)) (Q:=fun _ s'=>SP X pins D .next s') rfl hs B.Fu B.kind B.names
  (nh B hc hi hg ht he I hw (RR:=fun acc C=>compPost (model X.prog X.w) X.A X.xe (some (assign (.Name y py) X.env)) (fun _ s'=>SP X pins D .next s') acc C) fun R C s1 H5 m J hn f0 f1 f2 f3 f4 q=>?_)) (fun _ s' hq=>wpAny_pure (wpAny_pure hq)) fun _ _ z=>z)
 show wpAny _ _ (assign (.Name y py) X.env (.ref R)) _ _ _
 refine wpAny_assign_Name (mF (v:=.ref R) J hN hy hl rfl (fun s2 J2 ⟨a,sb,ha⟩=>?_) hf)
 have na:C≠a:=by
  rcases ha with z | z
  ·rw [z]; exact f1
  ·exact Ne.symm (f3 y a z)
 refine ⟨m,hn.sameBut sb na,fun h' PD=>⟨_,H5,?_,q⟩⟩
 exact J2.turned (t':=s2.toks) (fun b o hb e=>(PD.2 b hb).trans e) f0 f1 (.inr f2) f3 f4
end
end L2
end
section
namespace L2
open PySem PySem.Spec PySem.W PySem.Calls PyProof.Rows
section
variable {X:Cx}
def tS:V→List V→Hp→VK→Prop:=fun x vs H Q=>∃ l xs y,∃ k:Nat,x = .ref l∧vs = [.int k,y]∧H l = some (.lst xs)∧k≤xs.length∧xs.length < sizeLine∧Q .cX (upd H l (.lst (xs.take k ++ y :: xs.drop k)))
theorem eD:Hg X "list.insert" tS:=by
 intro pins s σ H x vs v us Q I rx rv h
 obtain ⟨l,xs,y,k,rfl,rfl,hH,hk,hz,q⟩:=h
 cases rx
 obtain ⟨u1,u2,rfl,⟨t,rfl⟩,ru⟩:=vals2 rv
 obtain ⟨z,aO,n,r,hl,e⟩:=I.u5 hH
 have Sw:=ku
 have fit:¬ (!Builtin.List.listFitsIndex (k:Int)) = true:=by
  have:Builtin.List.listFitsIndex (k:Int) = true:=by
   unfold Builtin.List.listFitsIndex
   simp only [Bool.and_eq_true,decide_eq_true_eq]
   constructor <;> omega
  rw [this]; decide
 have ek:(if (k:Int) < 0 then ((k:Int) + (aO.toArray.size:Int)).toNat else min (k:Int).toNat aO.toArray.size) = k:=by
  rw [if_neg (by omega),Int.toNat_natCast,List.size_toArray]
  omega
 have ee:(aO.toArray.extract 0 k).push u2 ++ aO.toArray.extract k = (aO.take k ++ u2 :: aO.drop k).toArray:=by
  apply Array.ext'
  simp
  rw [List.take_of_length_le (by rw [List.length_drop]; omega)]
 have rr:Vals (xs.take k ++ y :: xs.drop k) (aO.take k ++ u2 :: aO.drop k):=Vals.append (Vals.take k r) (.cons ru (Vals.drop k r))
 have xP:(xs.take k ++ y :: xs.drop k).length≤sizeLine:=by
  rw [List.length_append,List.length_cons,List.length_take,List.length_drop]
  omega
 have sz:aO.toArray.size≤sizeLine:=by rw [List.size_toArray]; omega
 have fin:∀ f:Array Value→Array Value,f aO.toArray = (aO.take k ++ u2 :: aO.drop k).toArray→EP X pins σ Q Value.none { s with heap:=s.heap.update l (Obj.mapSeq f),toks:=s.toks }:=fun f hf=>
  ⟨.cX,_,I.Cg (its':=aO.take k ++ u2 :: aO.drop k) (ys:=xs.take k ++ y :: xs.drop k) hH e hf rr xP,rfl,q⟩
 have fin2:EP X pins σ Q Value.none { s with heap:=s.heap.update l (Obj.mapSeq fun xs=>have kk:=if (k:Int) < 0 then ((k:Int) + (xs.size:Int)).toNat else min (k:Int).toNat xs.size; (xs.extract 0 kk).push u2 ++ xs.extract kk),toks:=s.toks }:=by
  refine fin _ ?_
  dsimp only
  rw [ek]
  exact ee
 clear fin ek ee rr xP q
 generalize (k:Int) = x at fit fin2 ⊢
 generalize aO.toArray = items at e sz
 exact call_meets F.slot_list_insert ⟨_,e,rfl⟩ F.entry_list_insert (F.args_list_insert_3 _ _ _) (AutoSeq1.list_insert_list_int_val_1 l items n x t u2 fit sz) ⟨e,fin2⟩
def Gg (K:Frag):List V→Hp→VK→Prop:=fun vs H Q=>∃ (a:Addr) (ns:List Int),vs = [.ref a]∧ay K H a (ns.map V.int)∧ns.length < 64∧∀ (lU:List Int) p,lU.Perm ns→lU.Pairwise (·≤·)→H p = none→Q (.ref p) (upd H p (.lst (lU.map V.int)))
end
mutual
inductive pd (H:Hp):V→PyData→Prop where
 | int (i:Int):pd H (.int i) (.int i)
 | lst {a:Addr} {vs:List V} {ds:List PyData}:H a = some (.lst vs)→dZ H vs ds→pd H (.ref a) (.list ds)
 | tup {a:Addr} {vs:List V} {ds:List PyData}:H a = some (.tup vs)→dZ H vs ds→pd H (.ref a) (.tuple ds)
inductive dZ (H:Hp):List V→List PyData→Prop where
 | nil:dZ H [] []
 | cons {v:V} {vs:List V} {d:PyData} {ds:List PyData}:pd H v d→dZ H vs ds→dZ H (v :: vs) (d :: ds)
end
section
variable {X:Cx} {pins:List (Addr×Obj)} {σ : St} {H:Hp} {s:Shared}
mutual
theorem pd.reads (I:Inv X pins σ H s):∀ {v:V} {d:PyData} {u:Value},pd H v d→RelV v u→∃ as,Reads s.heap u d as
 | _,_,u,.int i,r=>by
  obtain ⟨t,rfl⟩:=r
  exact ⟨_,.int i t⟩
 | _,_,u,.lst (a:=a) (vs:=vs) e h,r=>by
  cases (show u = Value.ref a from r)
  obtain ⟨_,aO,n,rv,g⟩:=(show bg X.prog X.w H s.heap a (.lst vs) from I.bA a _ e)
  obtain ⟨as,ra⟩:=dZ.reads I h rv
  exact ⟨_,.list g rfl rfl (by simpa using ra)⟩
 | _,_,u,.tup (a:=a) (vs:=vs) e h,r=>by
  cases (show u = Value.ref a from r)
  obtain ⟨_,aO,rv,o,g,hc,n,hd⟩:=(show bg X.prog X.w H s.heap a (.tup vs) from I.bA a _ e)
  obtain ⟨as,ra⟩:=dZ.reads I h rv
  exact ⟨_,.tuple g hc hd (by simpa using ra)⟩
theorem dZ.reads (I:Inv X pins σ H s):∀ {vs:List V} {ds:List PyData} {us:List Value},dZ H vs ds→Vals vs us→∃ as,ReadsAll s.heap us ds as
 | _,_,_,.nil,.nil=>⟨_,.nil⟩
 | _,_,_,.cons h t,.cons r q=>by
  obtain ⟨as,ra⟩:=pd.reads I h r
  obtain ⟨bs,rb⟩:=dZ.reads I t q
  exact ⟨_,.cons ra rb⟩
end
end
def Ei (neg:Bool):R2:=fun x y H Q=>∃ da db,pd H x da∧pd H y db∧SeqAt.shaped da = true∧SeqAt.shaped db = true∧Q (.bl (if neg then !PyData.eqv da db else PyData.eqv da db)) H
theorem rS {X:Cx} (hu:X.A.units + 64 < cLine):lA X (compareOp .Eq) (Ei false):=by
 intro pins s σ H x y v u Q I rx ry h
 obtain ⟨da,db,ra,rb,ha,hb,q⟩:=h
 obtain ⟨as,r1⟩:=pd.reads I ra rx
 obtain ⟨bs,r2⟩:=pd.reads I rb ry
 exact SeqAt.compareEq_shaped r1 r2 ha hb hu (aX I q rfl)
theorem gK {X:Cx} (hu:X.A.units + 64 < cLine):lA X (compareOp .NotEq) (Ei true):=by
 intro pins s σ H x y v u Q I rx ry h
 obtain ⟨da,db,ra,rb,ha,hb,q⟩:=h
 obtain ⟨as,r1⟩:=pd.reads I ra rx
 obtain ⟨bs,r2⟩:=pd.reads I rb ry
 exact SeqAt.compareNe_shaped r1 r2 ha hb hu (aX I q rfl)
def bb (l:List Int):PyData:=.list (l.map .int)
def fQ (L:List (List Int)):PyData:=.list (L.map bb)
def Fs (p:Int×Int):PyData:=.tuple [.int p.1,.int p.2]
def Ly (L:List (Int×Int)):PyData:=.list (L.map Fs)
theorem lay_ints:∀ l:List Int,PyData.canLayAll0 (l.map .int) = true∧PyData.depthAll (l.map .int) = 0
 | []=>⟨by simp [PyData.canLayAll0],by simp [PyData.depthAll]⟩
 | i :: l=>by
  obtain ⟨h1,h2⟩:=lay_ints l
  simp [PyData.canLayAll0,PyData.depthAll,PyData.canLay0,PyData.depth,h1,h2]
theorem kC:∀ L:List (List Int),PyData.canLayAll0 (L.map bb) = true∧PyData.depthAll (L.map bb)≤1
 | []=>⟨by simp [PyData.canLayAll0],by simp [PyData.depthAll]⟩
 | l :: L=>by
  obtain ⟨h1,h2⟩:=kC L
  obtain ⟨h3,h4⟩:=lay_ints l
  simp [PyData.canLayAll0,PyData.depthAll,PyData.canLay0,PyData.depth,bb,h1,h3,h4]
  omega
theorem jh (L:List (List Int)):SeqAt.shaped (fQ L) = true:=by
 obtain ⟨h1,h2⟩:=kC L
 unfold SeqAt.shaped fQ
 simp [PyData.canLay0,PyData.depth,h1]
 omega
theorem iB:∀ l m:List Int,PyData.eqvAll (l.map .int) (m.map .int) = decide (l = m)
 | [],[]=>by simp [PyData.eqvAll]
 | [],_ :: _=>by simp [PyData.eqvAll]
 | _ :: _,[]=>by simp [PyData.eqvAll]
 | i :: l,j :: m=>by
  simp only [List.map_cons,PyData.eqvAll,PyData.eqv,iB l m]
  by_cases h1:i = j <;> by_cases h2:l = m <;> simp [h1,h2]
theorem m8:∀ L M:List (List Int),PyData.eqvAll (L.map bb) (M.map bb) = decide (L = M)
 | [],[]=>by simp [PyData.eqvAll]
 | [],_ :: _=>by simp [PyData.eqvAll]
 | _ :: _,[]=>by simp [PyData.eqvAll]
 | i :: l,j :: m=>by
  rw [List.map_cons,List.map_cons,PyData.eqvAll,m8 l m]
  have e:PyData.eqv (bb i) (bb j) = decide (i = j):=by unfold bb; rw [PyData.eqv]; exact iB i j
  rw [e]
  by_cases h1:i = j <;> by_cases h2:l = m <;> simp [h1,h2]
theorem qz (L M:List (List Int)):PyData.eqv (fQ L) (fQ M) = decide (L = M):=by
 unfold fQ; rw [PyData.eqv]; exact m8 L M
end L2
end
section
namespace L2
open PySem PySem.Spec PySem.W PySem.Calls PyProof.Rows
theorem lr:bootBuiltins "min" = some (.builtin "min"):=by decide +kernel
theorem nu:bootBuiltins "sorted" = some (.builtin "sorted"):=by decide +kernel
theorem oO {i j:Int} (h1:0 < j) (h2:j < 2 ^ 250):Mw i j:=⟨h1,Sz.mono (m:=250) (by unfold Sz; omega) (by decide)⟩
theorem ox {ns:List Int} {k:Int} (h0:0≤k) (h1:k < ns.length):∃ n,mh (ns.map V.int) k = some (V.int n):=by
 obtain ⟨j,rfl⟩:=Int.eq_ofNat_of_zero_le h0
 have hj:j < ns.length:=by omega
 exact ⟨ns[j],jN (by simp [hj])⟩
end L2
end
section
namespace L2
open PySem PySem.Spec PySem.W PySem.Calls PyProof.Rows
theorem aC {α : Type} {p : α→Prop}:∀ x∈([]:List α),p x:=fun _ h=>by cases h
theorem ai {α : Type} {p : α→Prop} {a : α} {l:List α} (h:p a) (t:∀ x∈l,p x):∀ x∈a :: l,p x:=List.forall_mem_cons.mpr ⟨h,t⟩
end L2
namespace L2
open PySem PySem.Spec PySem.W PySem.Calls PyProof.Rows
section
variable {σ : St} {H:Hp} {Q:VK} {D:Ends} {K:Frag}
theorem zp {T:String} {r:V→List V→Hp→VK→Prop} {to:TE} {t:TA} (h:to σ H fun x H1=>DC K T x H1∧t σ H1 fun xs H2=>r x xs H2 Q):HE K T r to t σ H Q:=h
theorem wU {T:String} {r:V→List V→Hp→VK→Prop} {to:TE} (h:to σ H fun x H1=>DC K T x H1∧r x [] H1 Q):DO K T r to σ H Q:=h
theorem nO {R:Bool→Hp→Prop} (h:R true H):pq σ H R:=h
theorem dJ {l:Addr} {xs:List V} {y:V} (h:H l = some (.lst xs)) (hl:xs.length < sizeLine) (q:Q .cX (upd H l (.lst (xs ++ [y])))):nW (.ref l) [y] H Q:=⟨l,xs,y,rfl,rfl,h,hl,q⟩
theorem fi {l:Addr} {xs:List V} {y:V} {i:Int} {k:Nat} (hi:i = k) (h:H l = some (.lst xs)) (hk:k≤xs.length) (hl:xs.length < sizeLine) (q:Q .cX (upd H l (.lst (xs.take k ++ y :: xs.drop k)))):tS (.ref l) [.int i,y] H Q:=⟨l,xs,y,k,rfl,by rw [hi],h,hk,hl,q⟩
theorem zj {p:Addr} {x:Int} {ns:List Int} {neg:Bool} (h:ay K H p (ns.map V.int)) (q:Q (.bl (if neg then !decide (x∈ns) else decide (x∈ns))) H):Il K neg (.int x) (.ref p) H Q:=by
 have e:Gx (.int x) (ns.map V.int) = decide (x∈ns):=by
  unfold Gx
  rw [List.any_map]
  have:(fun y=>Ah y (V.int x)) ∘ V.int = fun y=>y == x:=by funext y; rfl
  rw [this]
  clear this q h
  induction ns with
  | nil=>simp
  | cons a l ih=>
   rw [List.any_cons,ih]
   by_cases h1:a = x
   ·subst h1; simp
   ·have h2:¬ x = a:=fun z=>h1 z.symm
    simp [h1,h2]
 refine ⟨p,_,rfl,.inl h,rfl,?_,by rw [e]; exact q⟩
 rw [List.all_map]
 simp [iA]
theorem eW {n i:Nat} {A:Prop} (hi:i < n) (h:A):∃ m',m' < n - i∧(m' = n - (i + 1)∧i + 1≤n∧A):=⟨_,by omega,rfl,hi,h⟩
theorem fO {R:Hp→Prop} {acc:Addr} {lo:Int} {n:Nat} {g:TG} {tt:TT} {te:TE} (Pv:Nat→St→List V→Hp→Prop) (h0:Pv 0 σ [] H)
  (hs:∀ i σ ys H,i < n→Pv i σ ys H→g (.int (lo + i)) σ H fun σ2 H4=>tt σ2 H4 fun b H5=>if b = true then te σ2 H5 fun y H6=>H6 acc = some (.lst ys)∧ys.length < sizeLine∧∃ m',m' < n - i∧(m' = n - (i + 1)∧i + 1≤n∧Pv (i + 1) σ2 (ys ++ [y]) (upd H6 acc (.lst (ys ++ [y])))) else ∃ m',m' < n - i∧(m' = n - (i + 1)∧i + 1≤n∧Pv (i + 1) σ2 ys H5))
  (hd:∀ σ ys H,Pv n σ ys H→R H) :
  ∃ W:Nat→Nat→St→List V→Hp→Prop,(∃ m,W 0 m σ [] H)∧∀ i m σ' ys H2,W i m σ' ys H2→(((yR lo n).stop i H2∧R H2)∨((yR lo n).go i H2∧∀ x H3,(yR lo n).vG i H2 x H3→g x σ' H3 fun σ2 H4=>tt σ2 H4 fun b H5=>
   if b = true then te σ2 H5 fun y H6=>H6 acc = some (.lst ys)∧ys.length < sizeLine∧∃ m',m' < m∧W (i + 1) m' σ2 (ys ++ [y]) (upd H6 acc (.lst (ys ++ [y]))) else ∃ m',m' < m∧W (i + 1) m' σ2 ys H5)):=by
 refine ⟨fun i m σ ys H=>m = n - i∧i≤n∧Pv i σ ys H,⟨n,by simp,Nat.zero_le _,h0⟩,?_⟩
 rintro i m σ ys H ⟨rfl,hi,p⟩
 by_cases eV:i < n
 ·refine .inr ⟨eV,fun x H' y=>?_⟩
  obtain ⟨e,y⟩:=y
  subst e y
  exact hs i σ ys _ eV p
 ·have e:i = n:=by omega
  subst e
  exact .inl ⟨Nat.le_refl _,hd σ ys H p⟩
theorem dC {R:Hp→Prop} {acc a:Addr} {xs:List V} {g:TG} {tt:TT} {te:TE} (Pv:Nat→St→List V→Hp→Prop) (h0:Pv 0 σ [] H) (hl:∀ i σ ys H,i≤xs.length→Pv i σ ys H→ay K H a xs)
  (hs:∀ i x σ ys H,xs[i]? = some x→i < xs.length→Pv i σ ys H→g x σ H fun σ2 H4=>tt σ2 H4 fun b H5=>if b = true then te σ2 H5 fun y H6=>H6 acc = some (.lst ys)∧ys.length < sizeLine∧∃ m',m' < xs.length - i∧(m' = xs.length - (i + 1)∧i + 1≤xs.length∧Pv (i + 1) σ2 (ys ++ [y]) (upd H6 acc (.lst (ys ++ [y])))) else ∃ m',m' < xs.length - i∧(m' = xs.length - (i + 1)∧i + 1≤xs.length∧Pv (i + 1) σ2 ys H5))
  (hd:∀ σ ys H,Pv xs.length σ ys H→R H) :
  ∃ W:Nat→Nat→St→List V→Hp→Prop,(∃ m,W 0 m σ [] H)∧∀ i m σ' ys H2,W i m σ' ys H2→(((Bv K a).stop i H2∧R H2)∨((Bv K a).go i H2∧∀ x H3,(Bv K a).vG i H2 x H3→g x σ' H3 fun σ2 H4=>tt σ2 H4 fun b H5=>
   if b = true then te σ2 H5 fun y H6=>H6 acc = some (.lst ys)∧ys.length < sizeLine∧∃ m',m' < m∧W (i + 1) m' σ2 (ys ++ [y]) (upd H6 acc (.lst (ys ++ [y]))) else ∃ m',m' < m∧W (i + 1) m' σ2 ys H5)):=by
 refine ⟨fun i m σ ys H=>m = xs.length - i∧i≤xs.length∧Pv i σ ys H,⟨xs.length,by simp,Nat.zero_le _,h0⟩,?_⟩
 rintro i m σ ys H ⟨rfl,hi,p⟩
 have q:=hl i σ ys H hi p
 by_cases eV:i < xs.length
 ·refine .inr ⟨⟨xs,xs[i],q,by simp [eV]⟩,fun x H' y=>?_⟩
  obtain ⟨e,y⟩:=y
  subst e
  exact hs i x σ ys _ (y xs q) eV p
 ·have e:i = xs.length:=by omega
  subst e
  exact .inl ⟨⟨xs,q,Nat.le_refl _⟩,hd σ ys H p⟩
theorem dS {wi:TI} {g:TG} {tt:TT} {te:TE} {n:Nat} {fr:List Nat} (h:wi σ H fun J H1=>∀ acc,H1 acc = none→∃ W:Nat→Nat→St→List V→Hp→Prop,(∃ m,W 0 m (gu n fr σ) [] (upd H1 acc (.lst [])))∧
 ∀ i m σ' ys H2,W i m σ' ys H2→((J.stop i H2∧Q (.ref acc) H2)∨(J.go i H2∧∀ x H3,J.vG i H2 x H3→g x σ' H3 fun σ2 H4=>tt σ2 H4 fun b H5=>
  if b = true then te σ2 H5 fun y H6=>H6 acc = some (.lst ys)∧ys.length < sizeLine∧∃ m',m' < m∧W (i + 1) m' σ2 (ys ++ [y]) (upd H6 acc (.lst (ys ++ [y]))) else ∃ m',m' < m∧W (i + 1) m' σ2 ys H5))):jT wi g tt te n fr σ H Q:=h
end
end L2
end
section
namespace Gm
open PySem L2
def put (l:List Int) (k:Nat) (x:Int):List Int:=l.take k ++ x :: l.drop k
theorem eG (l:List Int) (k:Nat) (x:Int):(put l k x).Perm (x :: l):=by
 unfold put
 refine List.perm_middle.trans ?_
 rw [List.take_append_drop]
theorem cM {l:List Int} {k:Nat} {x y:Int}:y∈put l k x↔y = x∨y∈l:=by rw [(eG l k x).mem_iff,List.mem_cons]
theorem mR {l:List Int} {k:Nat} {x:Int} (h:x∉l) (n:l.Nodup):(put l k x).Nodup:=(eG l k x).nodup_iff.mpr (List.nodup_cons.mpr ⟨h,n⟩)
theorem map_put {l:List Int} {k:Nat} {x:Int}:(l.map V.int).take k ++ V.int x :: (l.map V.int).drop k = (put l k x).map V.int:=by simp [put,List.map_take,List.map_drop]
structure aH (L:List (List Int)):Prop where
 nd:∀ (i:Nat) (l:List Int),L[i]? = some l→l.Nodup
 rg:∀ (i:Nat) (l:List Int),L[i]? = some l→∀ x∈l,0≤x∧x < L.length∧x≠i
 sy:∀ (i:Nat) (l:List Int),L[i]? = some l→∀ x∈l,∀ j:Nat,x = j→∀ m,L[j]? = some m→(i:Int)∈m
structure Made (n one other:Nat) (L:List (List Int)):Prop where
 len:L.length = n
 map:aH L
 bd:∀ (i:Nat) (l:List Int),L[i]? = some l→∀ x∈l,(i < one∧x < one)∨(i = one∧x < other)∨(x = one∧i < other)
theorem Made.skip {n one other:Nat} {L:List (List Int)} (h:Made n one other L):Made n one (other + 1) L:=
 ⟨h.len,h.map,fun i l e x hx=>by have:=h.bd i l e x hx; omega⟩
theorem Made.next {n one:Nat} {L:List (List Int)} (h:Made n one one L):Made n (one + 1) 0 L:=
 ⟨h.len,h.map,fun i l e x hx=>by have:=h.bd i l e x hx; omega⟩
theorem Made.start {n:Nat} {L:List (List Int)} (h:L.length = n) (e:∀ (i:Nat) (l:List Int),L[i]? = some l→l = []):Made n 0 0 L:=by
 refine ⟨h,⟨fun i l q=>by rw [e i l q]; exact List.nodup_nil,fun i l q x hx=>?_,fun i l q x hx=>?_⟩,fun i l q x hx=>?_⟩ <;> (rw [e i l q] at hx; cases hx)
theorem rk {L:List (List Int)} {a b i:Nat} {x y l:List Int} (h:((L.set a x).set b y)[i]? = some l):(i = b∧l = y)∨(i≠b∧i = a∧l = x)∨(i≠b∧i≠a∧L[i]? = some l):=by
 by_cases hb:i = b
 ·subst hb
  rw [List.getElem?_set] at h
  rw [if_pos rfl] at h
  split at h
  ·exact .inl ⟨rfl,(Option.some.inj h).symm⟩
  ·cases h
 ·rw [List.getElem?_set_ne (fun z=>hb z.symm)] at h
  by_cases ha:i = a
  ·subst ha
   rw [List.getElem?_set,if_pos rfl] at h
   split at h
   ·exact .inr (.inl ⟨hb,rfl,(Option.some.inj h).symm⟩)
   ·cases h
  ·rw [List.getElem?_set_ne (fun z=>ha z.symm)] at h
   exact .inr (.inr ⟨hb,ha,h⟩)
theorem Made.step {n one other k1 k2:Nat} {L:List (List Int)} {l1 l2:List Int} (h:Made n one other L) (ho:other < one) (hn:one < n) (e1:L[one]? = some l1) (e2:L[other]? = some l2) :
  Made n one (other + 1) ((L.set one (put l1 k1 other)).set other (put l2 k2 one)):=by
 have n1:(other:Int)∉l1:=fun z=>by have:=h.bd _ _ e1 _ z; omega
 have n2:(one:Int)∉l2:=fun z=>by have:=h.bd _ _ e2 _ z; omega
 have hl:=h.len
 refine ⟨by rw [List.length_set,List.length_set]; exact hl,⟨fun i l e=>?_,fun i l e x hx=>?_,fun i l e x hx j hj m em=>?_⟩,fun i l e x hx=>?_⟩
 ·rcases rk e with ⟨_,rfl⟩ | ⟨_,_,rfl⟩ | ⟨_,_,q⟩
  ·exact mR n2 (h.map.nd _ _ e2)
  ·exact mR n1 (h.map.nd _ _ e1)
  ·exact h.map.nd _ _ q
 ·rw [List.length_set,List.length_set]
  rcases rk e with ⟨rfl,rfl⟩ | ⟨_,rfl,rfl⟩ | ⟨_,_,q⟩
  ·rcases cM.mp hx with z | z
   ·omega
   ·exact h.map.rg _ _ e2 _ z
  ·rcases cM.mp hx with z | z
   ·omega
   ·exact h.map.rg _ _ e1 _ z
  ·exact h.map.rg _ _ q _ hx
 ·rcases rk e with ⟨rfl,rfl⟩ | ⟨hb,rfl,rfl⟩ | ⟨hb,ha,q⟩
  ·rcases rk em with ⟨rfl,rfl⟩ | ⟨jb,rfl,rfl⟩ | ⟨jb,ja,qm⟩
   ·rcases cM.mp hx with z | z
    ·omega
    ·have:=h.map.rg _ _ e2 _ z; omega
   ·exact cM.mpr (.inl rfl)
   ·rcases cM.mp hx with z | z
    ·omega
    ·exact h.map.sy _ _ e2 _ z _ hj _ qm
  ·rcases rk em with ⟨rfl,rfl⟩ | ⟨jb,rfl,rfl⟩ | ⟨jb,ja,qm⟩
   ·exact cM.mpr (.inl rfl)
   ·rcases cM.mp hx with z | z
    ·omega
    ·have:=h.map.rg _ _ e1 _ z; omega
   ·rcases cM.mp hx with z | z
    ·omega
    ·exact h.map.sy _ _ e1 _ z _ hj _ qm
  ·rcases rk em with ⟨rfl,rfl⟩ | ⟨jb,rfl,rfl⟩ | ⟨jb,ja,qm⟩
   ·exact cM.mpr (.inr (h.map.sy _ _ q _ hx _ hj _ e2))
   ·exact cM.mpr (.inr (h.map.sy _ _ q _ hx _ hj _ e1))
   ·exact h.map.sy _ _ q _ hx _ hj _ qm
 ·rcases rk e with ⟨rfl,rfl⟩ | ⟨_,rfl,rfl⟩ | ⟨_,_,q⟩
  ·rcases cM.mp hx with z | z
   ·omega
   ·have:=h.bd _ _ e2 _ z; omega
  ·rcases cM.mp hx with z | z
   ·omega
   ·have:=h.bd _ _ e1 _ z; omega
  ·have:=h.bd _ _ q _ hx; omega
structure aN (H:Hp) (p:Addr) (as:List Addr) (L:List (List Int)):Prop where
 top:H p = some (.lst (as.map V.ref))
 len:as.length = L.length
 row:∀ (i:Nat) (a:Addr) (l:List Int),as[i]? = some a→L[i]? = some l→H a = some (.lst (l.map V.int))
section
variable {H H':Hp} {p:Addr} {as:List Addr} {L:List (List Int)}
theorem aN.at (g:aN H p as L) {i:Nat} (hi:i < L.length):∃ a l,as[i]? = some a∧L[i]? = some l∧H a = some (.lst (l.map V.int)):=by
 have h2:i < as.length:=by rw [g.len]; exact hi
 exact ⟨as[i],L[i],by simp [h2],by simp [hi],g.row i _ _ (by simp [h2]) (by simp [hi])⟩
theorem aN.same (g:aN H p as L) (e:ah H H'):aN H' p as L:=⟨e _ _ g.top,g.len,fun i a l h1 h2=>e _ _ (g.row i a l h1 h2)⟩
theorem aN.set (g:aN H p as L) (nd:(p :: as).Nodup) {i:Nat} {a:Addr} {l':List Int} (hi:as[i]? = some a):aN (upd H a (.lst (l'.map V.int))) p as (L.set i l'):=by
 have hp:p≠a:=fun z=>(List.nodup_cons.mp nd).1 (z▸List.mem_of_getElem? hi)
 refine ⟨by rw [aq hp]; exact g.top,by rw [List.length_set]; exact g.len,fun j b l h1 h2=>?_⟩
 by_cases hj:j = i
 ·subst hj
  rw [hi] at h1
  cases h1
  rw [List.getElem?_set,if_pos rfl] at h2
  split at h2
  ·cases h2; exact ae
  ·cases h2
 ·rw [List.getElem?_set_ne (fun z=>hj z.symm)] at h2
  have hb:b≠a:=fun z=>by
   subst z
   obtain ⟨q1,w1⟩:=List.getElem?_eq_some_iff.mp h1
   obtain ⟨q2,w2⟩:=List.getElem?_eq_some_iff.mp hi
   exact hj ((List.getElem_inj (List.nodup_cons.mp nd).2).mp (w1.trans w2.symm))
  rw [aq hb]
  exact g.row j b l h1 h2
theorem aN.ix (g:aN H p as L) {i:Nat} {a:Addr} (hi:as[i]? = some a):mh (as.map V.ref) (i:Int) = some (V.ref a):=jN (by rw [List.getElem?_map,hi]; rfl)
theorem pN {H:Hp}:∀ l:List Int,dZ H (l.map V.int) (l.map PyData.int)
 | []=>.nil
 | i :: l=>.cons (.int i) (pN l)
theorem br {a:Addr} {l:List Int} (h:H a = some (.lst (l.map V.int))):pd H (.ref a) (bb l):=.lst h (pN l)
theorem pM:∀ {as:List Addr} {L:List (List Int)},as.length = L.length→(∀ (i:Nat) (a:Addr) (l:List Int),as[i]? = some a→L[i]? = some l→H a = some (.lst (l.map V.int)))→dZ H (as.map V.ref) (L.map bb)
 | [],[],_,_=>.nil
 | [],_ :: _,h,_=>by simp at h
 | _ :: _,[],h,_=>by simp at h
 | a :: as,l :: L,h,r=>.cons (br (r 0 a l rfl rfl)) (pM (by simpa using h) fun i b m h1 h2=>r (i + 1) b m (by simpa using h1) (by simpa using h2))
theorem aN.MV (g:aN H p as L):pd H (.ref p) (fQ L):=.lst g.top (pM g.len g.row)
end
theorem ah.fresh {H H':Hp} {a:Addr} {o:HO} (e:ah H H') (h:H a = none):ah H (upd H' a o):=fun b u q=>by rw [aq (fun z=>by rw [z,h] at q; cases q)]; exact e b u q
inductive Reach (L:List (List Int)) (s:Int):Int→Prop where
 | here:Reach L s s
 | step {i:Nat} {l:List Int} {x:Int}:Reach L s i→L[i]? = some l→x∈l→Reach L s x
theorem eZ {α : Type} [BEq α] [LawfulBEq α]:∀ {l r:List α},l.Nodup→(∀ x∈l,x∈r)→l.length≤r.length
 | [],_,_,_=>Nat.zero_le _
 | x :: l,r,n,h=>by
  have hx:x∈r:=h x List.mem_cons_self
  have n2:=List.nodup_cons.mp n
  have ih:=eZ (r:=r.erase x) n2.2 fun y hy=>by
   have ne:y≠x:=fun z=>n2.1 (z▸hy)
   exact (List.mem_erase_of_ne ne).mpr (h y (List.mem_cons_of_mem _ hy))
  rw [List.length_erase_of_mem hx] at ih
  have:=List.length_pos_of_mem hx
  rw [List.length_cons]; omega
theorem cZ {n:Nat} {l:List Int} (h:l.Nodup) (r:∀ x∈l,0≤x∧x < n):l.length≤n:=by
 have:=eZ (r:=(List.range n).map fun i:Nat=>(i:Int)) h fun x hx=>by
  have:=r x hx
  exact List.mem_map.mpr ⟨x.toNat,List.mem_range.mpr (by omega),by omega⟩
 simpa using this
theorem len_eq {α : Type} [BEq α] [LawfulBEq α] {l r:List α} (h1:l.Nodup) (h2:r.Nodup) (h:∀ x,x∈l↔x∈r):l.length = r.length:=
 Nat.le_antisymm (eZ h1 fun x=>(h x).mp) (eZ h2 fun x=>(h x).mpr)
end Gm
namespace Gm
open PySem L2
theorem Made.small {n i j:Nat} {L:List (List Int)} (m:Made n i j L) {k:Nat} {l:List Int} (h:L[k]? = some l):l.length≤n:=
 cZ (m.map.nd _ _ h) fun x hx=>by have:=m.map.rg _ _ h _ hx; have:=m.len; omega
theorem ax {n:Nat} (h:n≤1000):n < sizeLine:=by rw [PySem.sizeLine_eq]; omega
end Gm
end
section
namespace Gm
open PySem L2
def rz (i:Nat) (l:List Int):Nat→List Int
 | 0=>[]
 | j + 1=>rz i l j ++ (if ((i + 1 + j:Nat):Int)∈l then [((i + 1 + j:Nat):Int)] else [])
def gN (L:List (List Int)):Nat→List (Int×Int)
 | 0=>[]
 | k + 1=>gN L k ++ (rz k (L.getD k []) (L.length - (k + 1))).map fun x=>((k:Int),x)
theorem ig {i:Nat} {l:List Int}:∀ {j:Nat} {x:Int},x∈rz i l j↔(i:Int) < x∧x < (i + 1 + j:Nat)∧x∈l
 | 0,x=>by simp only [rz,List.not_mem_nil,false_iff]; intro h; omega
 | j + 1,x=>by
  rw [rz,List.mem_append,ig]
  by_cases h:((i + 1 + j:Nat):Int)∈l
  ·rw [if_pos h,List.mem_singleton]
   constructor
   ·rintro (⟨h1,h2,h3⟩ | rfl)
    ·exact ⟨h1,by omega,h3⟩
    ·exact ⟨by omega,by omega,h⟩
   ·rintro ⟨h1,h2,h3⟩
    by_cases e:x = ((i + 1 + j:Nat):Int)
    ·exact .inr e
    ·exact .inl ⟨h1,by omega,h3⟩
  ·rw [if_neg h]
   simp only [List.not_mem_nil,or_false]
   constructor
   ·rintro ⟨h1,h2,h3⟩
    exact ⟨h1,by omega,h3⟩
   ·rintro ⟨h1,h2,h3⟩
    have:x≠((i + 1 + j:Nat):Int):=fun z=>h (z▸h3)
    exact ⟨h1,by omega,h3⟩
theorem jg {i:Nat} {l:List Int}:∀ j,(rz i l j).Pairwise (· < ·)
 | 0=>.nil
 | j + 1=>by
  rw [rz,List.pairwise_append]
  refine ⟨jg j,by split <;> simp,fun a ha b hb=>?_⟩
  have:=ig.mp ha
  split at hb
  ·rw [List.mem_singleton] at hb; omega
  ·cases hb
abbrev PR (H:Hp):List Addr→List (Int×Int)→Prop:=Paired fun a x=>H a = some (.tup [.int x.1,.int x.2])
theorem PR.len {H:Hp} {ps:List Addr} {T:List (Int×Int)} (h:PR H ps T):ps.length = T.length:=Paired.length h
end Gm
end
section
namespace Gm
open PySem L2
structure Fl (L:List (List Int)) (s:Int) (ks ws:List Int):Prop where
 nd:ks.Nodup
 nw:ws.Nodup
 st:s∈ks
 re:∀ x∈ks,Reach L s x
 sub:∀ x∈ws,x∈ks
 cl:∀ (i:Nat) (l:List Int),(i:Int)∈ks→(i:Int)∉ws→L[i]? = some l→∀ x∈l,x∈ks
structure Fi (L:List (List Int)) (s:Int) (ks ws:List Int) (pl:Nat) (l:List Int) (k:Nat):Prop where
 nd:ks.Nodup
 nw:ws.Nodup
 st:s∈ks
 re:∀ x∈ks,Reach L s x
 sub:∀ x∈ws,x∈ks
 pk:(pl:Int)∈ks
 cl:∀ (i:Nat) (m:List Int),(i:Int)∈ks→(i:Int)∉ws→i≠pl→L[i]? = some m→∀ x∈m,x∈ks
 tk:∀ x∈l.take k,x∈ks
section
variable {L:List (List Int)} {s:Int} {ks ws:List Int} {pl k:Nat} {l:List Int} {x:Int}
theorem y8 {l:List Int} {x:Int}:(l ++ [x]).Nodup↔x∉l∧l.Nodup:=by
 rw [(List.perm_append_singleton x l).nodup_iff,List.nodup_cons]
end
def OP (L:List (List Int)) (fs:List Int):Prop:=∀ (i:Nat) (l:List Int),L[i]? = some l→(∃ x,x∈l∧x∈fs)→(i:Int)∈fs
structure Pa (L:List (List Int)) (fs:List Int) (k:Nat):Prop where
 nd:fs.Nodup
 st:(0:Int)∈fs
 re:∀ x∈fs,Reach L 0 x
 gr:OP L fs∨k + 1≤fs.length
structure Pi (L:List (List Int)) (zZ fs:List Int) (j:Nat):Prop where
 nd:fs.Nodup
 st:(0:Int)∈fs
 re:∀ x∈fs,Reach L 0 x
 kp:OP L zZ→fs = zZ
 gr:zZ.length < fs.length∨(fs = zZ∧∀ (i:Nat) (l:List Int),i < j→L[i]? = some l→(∃ x,x∈l∧x∈fs)→(i:Int)∈fs)
end Gm
namespace Gm
open PySem L2
theorem shaped_ints (l:List Int):SeqAt.shaped (bb l) = true:=by
 obtain ⟨h1,h2⟩:=lay_ints l
 unfold SeqAt.shaped bb
 simp [PyData.canLay0,PyData.depth,h1,h2]
theorem eh (l m:List Int):PyData.eqv (bb l) (bb m) = decide (l = m):=by unfold bb; rw [PyData.eqv]; exact iB l m
end Gm
end
section
namespace L2
open PySem PySem.Spec PySem.W PySem.Calls PyProof.Rows
section
variable {X:Cx} {K:Frag}
theorem lL (h:X.K = K):lA X (compareOp .NotIn) (Il K true):=h▸d6
theorem fv (h:X.K = K):Mu X (zq K):=h▸aD
theorem gG (h:X.K = K):d5 X (.type "list") (fun xs H Q=>∃ p ys,xs = [.ref p]∧(ay K H p ys∨SqT K H p ys)∧∀ l,H l = none→Q (.ref l) (upd H l (.lst ys))):=by subst h; exact iG
end
end L2
end
section
namespace L2
open PySem PySem.Spec PySem.W PySem.Calls PyProof.Rows HT
section
open PySem.SeqAt
open PySem.AutoSeq1 (wpAny_loadPart')
open PySem.MeetsSeq PySem.MeetsSeq2 PySem.MeetsSeq3
theorem oB {vs:List Value} {ns:List Int} (h:IntsAre vs ns) {i:Nat} (hi:i < ns.length):∃ t,vs[i]? = some (.int ns[i] t):=by
 induction h generalizing i with
 | nil=>simp at hi
 | cons a t r ih=>
  cases i with
  | zero=>exact ⟨t,rfl⟩
  | succ i=>
   obtain ⟨u,hu⟩:=ih (i:=i) (by simpa using hi)
   exact ⟨u,by simpa using hu⟩
theorem zI (l b:Addr) (us vs:Array Value) (n1 n2:Nat) (d1 d2:Option Addr) (s1 s2:Array (Option Value)) (ns ms:List Int) (hi:IntsAre us.toList ns) (hj:IntsAre vs.toList ms) (k:Nat) :
  ∀ i:Nat,us.size - i = k→i≤ns.length→i≤ms.length→Meets (Builtin.«list.__eq__.loop» ⟨[.ref l,.ref b,rawInt i,rawInt 0],[]⟩)
   (fun A R s=>s.heap.get? l = some { cls:=.type "list",dict:=d1,data:=.seq us n1,slots:=s1 }∧
    s.heap.get? b = some { cls:=.type "list",dict:=d2,data:=.seq vs n2,slots:=s2 }∧R (.ok (.ret (.bool (lexLt (ns.drop i) (ms.drop i))))) s):=by
 have z1:us.size = ns.length:=by rw [← hi.length]; simp
 have z2:vs.size = ms.length:=by rw [← hj.length]; simp
 have stop:∀ i,i≤ns.length→i≤ms.length→¬ (i < ns.length∧i < ms.length)→lexLt (ns.drop i) (ms.drop i) = decide (us.size < vs.size):=fun i h1 h2 h3=>by
  by_cases q:i < ns.length
  ·have q2:ms.drop i = []:=List.drop_eq_nil_of_le (by omega)
   rw [q2,List.drop_eq_getElem_cons q,kz]
   exact (decide_eq_false (by omega)).symm
  ·have q2:ns.drop i = []:=List.drop_eq_nil_of_le (by omega)
   rw [q2]
   by_cases q3:i < ms.length
   ·rw [List.drop_eq_getElem_cons q3,ky]
    exact (decide_eq_true (by omega)).symm
   ·rw [List.drop_eq_nil_of_le (by omega),lW]
    exact (decide_eq_false (by omega)).symm
 have ends:∀ i,i≤ns.length→i≤ms.length→¬ (i < ns.length∧i < ms.length)→Meets (Builtin.«list.__eq__.loop» ⟨[.ref l,.ref b,rawInt i,rawInt 0],[]⟩)
   (fun A R s=>s.heap.get? l = some { cls:=.type "list",dict:=d1,data:=.seq us n1,slots:=s1 }∧
    s.heap.get? b = some { cls:=.type "list",dict:=d2,data:=.seq vs n2,slots:=s2 }∧R (.ok (.ret (.bool (lexLt (ns.drop i) (ms.drop i))))) s):=by
  intro i h1 h2 h3 prog w A R s h
  have e:=stop i h1 h2 h3
  obtain ⟨hp,g,d,tk,os⟩:=s; obtain ⟨hl,hb,h⟩:=h
  rw [e] at h
  wp_walk using wpAny_loadPart' hb,wpAny_loadPart' hl
  by_cases q:i < us.size
  ·have x1:us[((i:Nat):Int).toNat]? = some us[i]:=by simp [q]
   have x2:vs[((i:Nat):Int).toNat]? = none:=by simp; omega
   rw [x1,x2]
   wp_walk using wpAny_loadPart' hb,wpAny_loadPart' hl
   exact h
  ·have x1:us[((i:Nat):Int).toNat]? = none:=by simp; omega
   rw [x1]
   wp_walk using wpAny_loadPart' hb,wpAny_loadPart' hl
   exact h
 induction k with
 | zero=>exact fun i hk h1 h2=>ends i h1 h2 (by omega)
 | succ k ih=>
  intro i hk h1 h2
  by_cases sv:i < ms.length
  ·have Bf:i < ns.length:=by omega
   intro prog w A R s h
   obtain ⟨hp,g,d,tk,os⟩:=s; obtain ⟨hl,hb,h⟩:=h
   obtain ⟨t1,e1⟩:=oB hi Bf
   obtain ⟨t2,e2⟩:=oB hj sv
   have x1:us[((i:Nat):Int).toNat]? = some (.int ns[i] t1):=by simpa using e1
   have x2:vs[((i:Nat):Int).toNat]? = some (.int ms[i] t2):=by simpa using e2
   rw [List.drop_eq_getElem_cons Bf,List.drop_eq_getElem_cons sv,eJ] at h
   wp_walk using wpAny_loadPart' hb,wpAny_loadPart' hl
   rw [x1,x2]
   obtain ⟨e,he,EU⟩:=yf A.in1 ⟨hp,g,d,tk,os⟩ ns[i] t1 ms[i] t2
   refine wpAny_bind (he prog w _ _ ?_)
   have Sl:((i:Int) + 1) = ((i + 1:Nat):Int):=by omega
   cases e with
   | true=>
    rw [if_pos (EU.mp rfl)] at h
    wp_walk
    rw [Sl]
    refine ⟨plainId_quiet plain_eq_loop _,codeAny_builtin entry_eq_loop ?_⟩
    rw [Around.under_plainId plain_eq_loop _]
    exact ih (i + 1) (by omega) (by omega) (by omega) prog w A R _ ⟨hl,hb,h⟩
   | false=>
    rw [if_neg (fun q=>absurd (EU.mpr q) Bool.false_ne_true)] at h
    wp_walk using wpAny_loadPart' hb,wpAny_loadPart' hl
    rw [x1,x2]
    have RO:=wA A.in1 ⟨hp,g,d,tk,os⟩ ns[i] t1 ms[i] t2 prog w
    wp_walk using RO
    exact h
  ·exact ends i h1 h2 (by omega)
theorem ip (l b:Addr) (us vs:Array Value) (n1 n2:Nat) (d1 d2:Option Addr) (s1 s2:Array (Option Value)) (ns ms:List Int) (hi:IntsAre us.toList ns) (hj:IntsAre vs.toList ms) :
  Meets (Builtin.«list.__lt__» ⟨[.ref l,.ref b],[]⟩)
   (fun A R s=>s.heap.get? l = some { cls:=.type "list",dict:=d1,data:=.seq us n1,slots:=s1 }∧
    s.heap.get? b = some { cls:=.type "list",dict:=d2,data:=.seq vs n2,slots:=s2 }∧R (.ok (.ret (.bool (lexLt ns ms)))) s):=by
 intro prog w A R s h
 obtain ⟨hp,g,d,tk,os⟩:=s; obtain ⟨hl,hb,h⟩:=h
 have f3:=AutoSeq1.sub_list_list
 wp_walk using wpAny_loadPart' hb,wpAny_loadPart' hl
 refine ⟨plainId_quiet plain_eq_loop _,codeAny_builtin entry_eq_loop ?_⟩
 rw [Around.under_plainId plain_eq_loop _]
 exact zI l b us vs n1 n2 d1 d2 s1 s2 ns ms hi hj _ 0 rfl (Nat.zero_le _) (Nat.zero_le _) prog w A R _ ⟨hl,hb,h⟩
end
end L2
end
section
namespace L2
open PySem PySem.Spec PySem.W PySem.Calls PyProof.Rows HT
section
variable {prog:Program} {w:World} {A:Around} {E:Value→Shared→Prop} {s:Shared} {l b:Addr} {us vs:Array Value} {ns ms:List Int}
theorem xA {Q:Value→Shared→Prop} (hl:s.heap.IsList l us) (hb:s.heap.IsList b vs) (hi:IntsAre us.toList ns) (hj:IntsAre vs.toList ms) (hu:A.units < cLine) (h:Q (.bool (lexLt ns ms)) s) :
  wpAny (model prog w) A (compareOp .Lt (.ref l) (.ref b)) Q E s:=by
 obtain ⟨⟨c1,d1,a1,z1⟩,h1,k1,n1,q1⟩:=id hl
 obtain ⟨⟨c2,d2,a2,z2⟩,h2,k2,n2,q2⟩:=id hb
 dsimp only at k1 q1 k2 q2
 subst k1 q1 k2 q2
 exact richCompare_meets_room (op:=.Lt) ⟨_,h1,rfl⟩ ⟨_,h2,rfl⟩ PySem.F.slot_list_lt PySem.F.entry_list_lt (PySem.F.args_list_lt_2 _ _) (ip l b us vs n1 n2 d1 d2 z1 z2 ns ms hi hj)
  ⟨h1,h2,show Value.bool (lexLt ns ms)≠Value.notImplemented∧Q (.bool (lexLt ns ms)) s from ⟨nofun,h⟩⟩ hu
theorem pX {Q:Bool→Shared→Prop} (hl:s.heap.IsList l us) (hb:s.heap.IsList b vs) (hi:IntsAre us.toList ns) (hj:IntsAre vs.toList ms) (hu:A.units < cLine) (h:Q (lexLt ns ms) s) :
  wpAny (model prog w) A (oneLt' true (.ref l) (.ref b)) Q E s:=by
 obtain ⟨⟨c1,d1,a1,z1⟩,h1,k1,n1,q1⟩:=id hl
 obtain ⟨⟨c2,d2,a2,z2⟩,h2,k2,n2,q2⟩:=id hb
 dsimp only at k1 q1 k2 q2
 subst k1 q1 k2 q2
 rw [oneLt'_eq]
 simp only [if_true]
 refine wpAny_bind (wpAny_cRoomFor hu ?_)
 refine wpAny_bind (wpAny_callSpecialIfBound?_slot ⟨_,h1,rfl⟩ PySem.F.slot_list_lt (call_meets PySem.F.slot_list_lt ⟨_,h1,rfl⟩ PySem.F.entry_list_lt (PySem.F.args_list_lt_2 _ _) (ip l b us vs n1 n2 d1 d2 z1 z2 ns ms hi hj) ⟨h1,h2,?_⟩))
 exact wpAny_truthy_bool h
end
def P0 (K:Frag):R2:=fun x y H Q=>∃ (a b:Addr) (ns ms:List Int),x = .ref a∧y = .ref b∧ay K H a (ns.map V.int)∧ay K H b (ms.map V.int)∧Q (.bl (lexLt ns ms)) H
theorem jH:∀ a:List Int,lexLt a a = false
 | []=>rfl
 | x :: a=>by rw [eJ,if_pos rfl]; exact jH a
theorem lex_trans:∀ {a b c:List Int},lexLt a b = true→lexLt b c = true→lexLt a c = true
 | [],[],_,h,_=>by cases h
 | [],_ :: _,[],_,h=>by cases h
 | [],_ :: _,_ :: _,_,_=>rfl
 | _ :: _,[],_,h,_=>by cases h
 | _ :: _,_ :: _,[],_,h=>by cases h
 | x :: a,y :: b,z :: c,h1,h2=>by
  rw [eJ] at h1 h2 ⊢
  by_cases e1:x = y
  ·subst e1
   by_cases e2:x = z
   ·subst e2
    rw [if_pos rfl] at h1 h2 ⊢
    exact lex_trans h1 h2
   ·rw [if_neg e2] at h2 ⊢; exact h2
  ·rw [if_neg e1] at h1
   have g1:x < y:=of_decide_eq_true h1
   by_cases e2:y = z
   ·subst e2
    rw [if_neg e1]; exact h1
   ·rw [if_neg e2] at h2
    have g2:y < z:=of_decide_eq_true h2
    rw [if_neg (by omega)]
    exact decide_eq_true (by omega)
theorem ir:∀ {a b:List Int},lexLt a b = false→lexLt b a = false→a = b
 | [],[],_,_=>rfl
 | [],_ :: _,h,_=>by cases h
 | _ :: _,[],_,h=>by cases h
 | x :: a,y :: b,h1,h2=>by
  rw [eJ] at h1 h2
  by_cases e:x = y
  ·subst e
   rw [if_pos rfl] at h1 h2
   rw [ir h1 h2]
  ·rw [if_neg e] at h1
   rw [if_neg (fun z=>e z.symm)] at h2
   have g1:=of_decide_eq_false h1
   have g2:=of_decide_eq_false h2
   omega
theorem qc {a b:List Int} (h:lexLt a b = true):lexLt b a = false:=by
 cases q:lexLt b a with
 | false=>rfl
 | true=>have:=lex_trans h q; rw [jH] at this; cases this
def Le (a b:List Int):Prop:=lexLt b a = false
theorem Le.refl (a:List Int):Le a a:=jH a
theorem Le.trans {a b c:List Int} (h1:Le a b) (h2:Le b c):Le a c:=by
 unfold Le at *
 cases q:lexLt c a with
 | false=>rfl
 | true=>
  by_cases e:lexLt a b = true
  ·have:=lex_trans q e; rw [h2] at this; cases this
  ·have e2:a = b:=ir (by simpa using e) h1
   subst e2
   rw [h2] at q; cases q
theorem Le.of_lt {a b:List Int} (h:lexLt a b = true):Le a b:=qc h
theorem Le.FU {a b:List Int} (h1:Le a b) (h2:Le b a):a = b:=ir h2 h1
end L2
end
section
namespace L2
open PySem PySem.Spec PySem.W PySem.Calls PyProof.Rows
section
variable {cmp:Nat→Nat→(Bool→Shared→Prop)→Shared→Prop} {n:Nat} {f:Nat→List Int} {s:Shared}
def o5 (cmp:Nat→Nat→(Bool→Shared→Prop)→Shared→Prop) (n:Nat) (f:Nat→List Int) (s:Shared):Prop:=∀ i j C,i < n→j < n→C (HT.lexLt (f i) (f j)) s→cmp i j C s
structure Arr (n:Nat) (p:Array Nat):Prop where
 size:p.size = n
 perm:p.Perm (List.toArray (List.range n))
def kf (f:Nat→List Int) (p:Array Nat) (i:Nat):List Int:=f (p.getD i 0)
theorem Arr.lt {p:Array Nat} (h:Arr n p) {i:Nat} (hi:i < n):p.getD i 0 < n:=by
 have e:p.getD i 0 = p[i]'(by rw [h.size]; exact hi):=by simp [Array.getD,h.size,hi]
 have m:p[i]'(by rw [h.size]; exact hi)∈p:=Array.getElem_mem _
 have:=(h.perm.mem_iff).mp m
 rw [e]
 simpa using this
theorem kf_at {p q:Array Nat} {i j:Nat} (h:p[i]? = q[j]?):kf f p i = kf f q j:=by
 unfold kf
 rw [Array.getD_eq_getD_getElem?,Array.getD_eq_getD_getElem?,h]
theorem Arr.rev {p:Array Nat} (h:Arr n p) (i j:Nat):Arr n (kas_rev p i j):=⟨by unfold kas_rev; rw [mirror_size]; exact h.size,(mirror_perm _ _ _ _).trans h.perm⟩
theorem Arr.Tr {p:Array Nat} (h:Arr n p) (i j:Nat):Arr n (bubble p i j):=⟨by rw [bubble_size]; exact h.size,(bubble_perm _ _ _).trans h.perm⟩
theorem oA {p:Array Nat} (h:Arr n p) {i j:Nat} (hj:j≤n) (k:Nat):kf f (kas_rev p i j) k = if i≤k∧k < j then kf f p (i + j - 1 - k) else kf f p k:=by
 have e:=getElem?_mirror_all (xs:=p) (i:=i) (j:=j) (by rw [h.size]; exact hj) k
 by_cases q:i≤k∧k < j
 ·rw [if_pos q] at e ⊢; exact kf_at e
 ·rw [if_neg q] at e ⊢; exact kf_at e
def Up (f:Nat→List Int) (p:Array Nat) (m:Nat):Prop:=∀ i,i + 1 < m→Le (kf f p i) (kf f p (i + 1))
def Dn (f:Nat→List Int) (p:Array Nat) (m:Nat):Prop:=∀ i,i + 1 < m→Le (kf f p (i + 1)) (kf f p i)
theorem Up.le {p:Array Nat} {m:Nat} (h:Up f p m) {i j:Nat} (Dr:i≤j) (hj:j < m):Le (kf f p i) (kf f p j):=by
 induction j with
 | zero=>
      obtain rfl:i = 0:=by omega
      exact Le.refl _
 | succ j ih=>
  by_cases e:i = j + 1
  ·rw [e]; exact Le.refl _
  ·exact (ih (by omega) (by omega)).trans (h j hj)
theorem Dn.le {p:Array Nat} {m:Nat} (h:Dn f p m) {i j:Nat} (Dr:i≤j) (hj:j < m):Le (kf f p j) (kf f p i):=by
 induction j with
 | zero=>
      obtain rfl:i = 0:=by omega
      exact Le.refl _
 | succ j ih=>
  by_cases e:i = j + 1
  ·rw [e]; exact Le.refl _
  ·exact (h j hj).trans (ih (by omega) (by omega))
theorem sO (hc:o5 cmp n f s) {p:Array Nat} (hp:Arr n p) {Q:Nat→Shared→Prop}:∀ (fu m:Nat),1≤m→m + fu≤n→Up f p m→(∀ m',m≤m'→m'≤m + fu→Up f p m'→(m' = m + fu∨HT.lexLt (kf f p m') (kf f p (m' - 1)) = true)→Q m' s)→(kas_asc p fu m).kasWp cmp Q s
 | 0,m,_,_,u,k=>k m (Nat.le_refl _) (Nat.le_refl _) u (.inl rfl)
 | fu + 1,m,h1,h2,u,k=>by
  refine hc _ _ _ (hp.lt (by omega)) (hp.lt (by omega)) ?_
  show (if _ then _ else _:KasT Nat).kasWp cmp Q s
  cases q:HT.lexLt (f (p.getD m 0)) (f (p.getD (m - 1) 0)) with
  | true=>rw [if_pos rfl]; exact k m (Nat.le_refl _) (by omega) u (.inr q)
  | false=>
   rw [if_neg (by decide)]
   refine sO hc hp fu (m + 1) (by omega) (by omega) (fun i hi=>?_) fun m' a1 a2 a3 a4=>k m' (by omega) (by omega) a3 (a4.imp (fun z=>by omega) id)
   by_cases e:i + 1 = m
   ·have:i = m - 1:=by omega
    rw [e,this]; exact q
   ·exact u i (by omega)
def Flt (f:Nat→List Int) (p:Array Nat) (m q:Nat):Prop:=∀ i,m - (q + 1)≤i→i < m→kf f p i = kf f p (m - 1)
theorem j2 {p:Array Nat} (hp:Arr n p) {m q:Nat} (hm:m≤n) (hq:q + 1≤m) (h:Flt f p m q) (k:Nat):kf f (kas_rev p (m - (q + 1)) m) k = kf f p k:=by
 rw [oA hp hm]
 by_cases e:m - (q + 1)≤k∧k < m
 ·rw [if_pos e,h _ (by omega) (by omega),← h k e.1 e.2]
 ·rw [if_neg e]
theorem jK (hc:o5 cmp n f s) {Q:Array Nat×Nat×Nat→Shared→Prop}:∀ (fu:Nat) (p:Array Nat) (m q:Nat),Arr n p→1≤m→m + fu≤n→q + 1≤m→Dn f p m→Flt f p m q→
  (∀ p' m' q',Arr n p'→1≤m'→m'≤m + fu→q' + 1≤m'→Dn f p' m'→Flt f p' m' q'→Q (p',m',q') s)→(kas_desc fu p m q).kasWp cmp Q s
 | 0,p,m,q,hp,h1,_,hq,d,fl,k=>k p m q hp h1 (Nat.le_refl _) hq d fl
 | fu + 1,p,m,q,hp,h1,h2,hq,d,fl,k=>by
  refine hc _ _ _ (hp.lt (by omega)) (hp.lt (by omega)) ?_
  show (if _ then _ else _:KasT _).kasWp cmp Q s
  cases c:HT.lexLt (f (p.getD m 0)) (f (p.getD (m - 1) 0)) with
  | true=>
   rw [if_pos rfl]
   have d2:∀ p',(∀ j,kf f p' j = kf f p j)→Dn f p' (m + 1):=fun p' e i hi=>by
    rw [e,e]
    by_cases z:i + 1 = m
    ·have:i = m - 1:=by omega
     rw [z,this]; exact Le.of_lt c
    ·exact d i (by omega)
   have f2:∀ p',Flt f p' (m + 1) 0:=fun p' i a b=>by
    have:i = m:=by omega
    rw [this]; rfl
   by_cases z:q > 0
   ·rw [if_pos z]
    refine jK hc fu _ (m + 1) 0 (hp.rev _ _) (by omega) (by omega) (by omega) (d2 _ fun j=>j2 hp (by omega) hq fl j) (f2 _) fun p' m' q' a1 a2 a3 a4 a5 a6=>k p' m' q' a1 a2 (by omega) a4 a5 a6
   ·rw [if_neg z]
    refine jK hc fu _ (m + 1) 0 hp (by omega) (by omega) (by omega) (d2 _ fun _=>rfl) (f2 _) fun p' m' q' a1 a2 a3 a4 a5 a6=>k p' m' q' a1 a2 (by omega) a4 a5 a6
  | false=>
   rw [if_neg (by decide)]
   refine hc _ _ _ (hp.lt (by omega)) (hp.lt (by omega)) ?_
   show (if _ then _ else _:KasT _).kasWp cmp Q s
   cases c2:HT.lexLt (f (p.getD (m - 1) 0)) (f (p.getD m 0)) with
   | true=>rw [if_pos rfl]; exact k p m q hp h1 (by omega) hq d fl
   | false=>
    rw [if_neg (by decide)]
    have e:kf f p m = kf f p (m - 1):=ir c c2
    refine jK hc fu p (m + 1) (q + 1) hp (by omega) (by omega) (by omega) (fun i hi=>?_) (fun i a b=>?_) fun p' m' q' a1 a2 a3 a4 a5 a6=>k p' m' q' a1 a2 (by omega) a4 a5 a6
    ·by_cases z:i + 1 = m
     ·have:i = m - 1:=by omega
      rw [z,this,e]; exact Le.refl _
     ·exact d i (by omega)
    ·show kf f p i = kf f p (m + 1 - 1)
     rw [Nat.add_sub_cancel]
     by_cases z:i = m
     ·rw [z]
     ·rw [fl i (by omega) (by omega),e]
theorem pj (hc:o5 cmp n f s) {p:Array Nat} (hp:Arr n p) {m:Nat} (h1:1≤m) (h2:m≤n) (d:Dn f p m) {Q:Nat×Array Nat→Shared→Prop} (k:∀ m' p',Arr n p'→m'≤n→1≤m'→Up f p' m'→Q (m',p') s):(kas_tail3 m n p).kasWp cmp Q s:=by
 unfold kas_tail3
 rw [KasT.kasWp_bind]
 refine sO hc (hp.rev 0 m) (n - m) m h1 (by omega) (fun i hi=>?_) fun m' a1 a2 a3 _=>k m' _ (hp.rev 0 m) (by omega) (by omega) a3
 rw [oA hp h2,oA hp h2,if_pos (by omega),if_pos (by omega)]
 exact d.le (by omega) (by omega)
theorem js (hc:o5 cmp n f s) {p:Array Nat} (hp:Arr n p) {m:Nat} (h2:m + 1≤n) (h1:1≤m) (d:Dn f p (m + 1)) {Q:Nat×Array Nat→Shared→Prop} (k:∀ m' p',Arr n p'→m'≤n→1≤m'→Up f p' m'→Q (m',p') s):(kas_descPart m n p).kasWp cmp Q s:=by
 unfold kas_descPart
 rw [KasT.kasWp_bind]
 refine jK hc (n - (m + 1)) p (m + 1) 0 hp (by omega) (by omega) (by omega) d (fun i a b=>?_) fun p' m' q' a1 a2 a3 a4 a5 a6=>?_
 ·have:i = m:=by omega
  rw [this]; rfl
 ·dsimp only
  by_cases z:q' > 0
  ·rw [if_pos z]
   refine pj hc (a1.rev _ _) a2 (by omega) (fun i hi=>?_) k
   rw [j2 a1 (by omega) a4 a6,j2 a1 (by omega) a4 a6]
   exact a5 i hi
  ·rw [if_neg z]
   exact pj hc a1 a2 (by omega) a5 k
theorem yn (hc:o5 cmp n f s) {p:Array Nat} (hp:Arr n p) (h1:1≤n) {Q:Nat×Array Nat→Shared→Prop} (k:∀ m' p',Arr n p'→m'≤n→1≤m'→Up f p' m'→Q (m',p') s):(kas_count n p).kasWp cmp Q s:=by
 unfold kas_count
 rw [KasT.kasWp_bind]
 refine sO hc hp (n - 1) 1 (Nat.le_refl _) (by omega) (fun i hi=>by omega) fun m a1 a2 a3 a4=>?_
 by_cases z:m = n
 ·rw [if_pos (by simpa using z)]
  exact k m p hp (by omega) a1 a3
 ·rw [if_neg (by simpa using z)]
  have st:HT.lexLt (kf f p m) (kf f p (m - 1)) = true:=a4.resolve_left (by omega)
  by_cases y:m > 1
  ·rw [if_pos y]
   refine hc _ _ _ (hp.lt (by omega)) (hp.lt (by omega)) ?_
   show (if _ then _ else _:KasT _).kasWp cmp Q s
   cases c:HT.lexLt (f (p.getD 0 0)) (f (p.getD (m - 1) 0)) with
   | true=>rw [if_pos rfl]; exact k m p hp (by omega) a1 a3
   | false=>
    rw [if_neg (by decide)]
    have al:∀ i,i < m→kf f p i = kf f p (m - 1):=fun i hi=>Le.FU (a3.le (by omega) (by omega)) (Le.trans (show Le (kf f p (m - 1)) (kf f p 0) from c) (a3.le (Nat.zero_le _) hi))
    have rv:∀ j,kf f (kas_rev p 0 m) j = kf f p j:=fun j=>by
     rw [oA hp (by omega)]
     by_cases e:0≤j∧j < m
     ·rw [if_pos e,al _ (by omega),← al j e.2]
     ·rw [if_neg e]
    refine js hc (hp.rev 0 m) (by omega) a1 (fun i hi=>?_) k
    rw [rv,rv]
    by_cases e:i + 1 = m
    ·have:i = m - 1:=by omega
     rw [e,this]; exact Le.of_lt st
    ·rw [al i (by omega),al (i + 1) (by omega)]; exact Le.refl _
  ·rw [if_neg y]
   refine js hc hp (by omega) a1 (fun i hi=>?_) k
   have:i + 1 = m:=by omega
   have e2:i = m - 1:=by omega
   rw [this,e2]; exact Le.of_lt st
theorem j6 (hc:o5 cmp n f s) {p:Array Nat} (hp:Arr n p) {k:Nat} (hk:k < n) (u:Up f p k) {Q:Nat→Shared→Prop}:∀ (fu l r:Nat),r - l≤fu→l≤r→r≤k→(∀ i,i < l→Le (kf f p i) (kf f p k))→(∀ i,r≤i→i < k→Le (kf f p k) (kf f p i))→
  (∀ l',l'≤k→(∀ i,i < l'→Le (kf f p i) (kf f p k))→(∀ i,l'≤i→i < k→Le (kf f p k) (kf f p i))→Q l' s)→(kas_place p k fu l r).kasWp cmp Q s
 | 0,l,r,h1,h2,h3,h4,h5,q=>q l (by omega) h4 fun i a b=>h5 i (by omega) b
 | fu + 1,l,r,h1,h2,h3,h4,h5,q=>by
  unfold kas_place
  by_cases z:l≥r
  ·rw [if_pos z]
   exact q l (by omega) h4 fun i a b=>h5 i (by omega) b
  ·rw [if_neg z]
   refine hc _ _ _ (hp.lt hk) (hp.lt (by omega)) ?_
   show (if _ then _ else _:KasT _).kasWp cmp Q s
   cases c:HT.lexLt (f (p.getD k 0)) (f (p.getD ((l + r) / 2) 0)) with
   | true=>
    rw [if_pos rfl]
    exact j6 hc hp hk u fu l ((l + r) / 2) (by omega) (by omega) (by omega) h4 (fun i a b=>Le.trans (Le.of_lt c) (u.le a b)) q
   | false=>
    rw [if_neg (by decide)]
    exact j6 hc hp hk u fu ((l + r) / 2 + 1) r (by omega) (by omega) h3 (fun i a=>Le.trans (u.le (by omega) (by omega)) (show Le (kf f p ((l + r) / 2)) (kf f p k) from c)) h5 q
theorem yC (hc:o5 cmp n f s) {Q:Array Nat→Shared→Prop}:∀ (fu:Nat) (p:Array Nat) (k:Nat),Arr n p→k + fu = n→Up f p k→(∀ p',Arr n p'→Up f p' n→Q p' s)→(kas_bin fu p k).kasWp cmp Q s
 | 0,p,k,hp,h1,u,q=>q p hp (by rw [← h1]; exact u)
 | fu + 1,p,k,hp,h1,u,q=>by
  unfold kas_bin
  rw [KasT.kasWp_bind]
  refine j6 hc hp (by omega) u k 0 k (by omega) (Nat.zero_le _) (Nat.le_refl _) (fun i h=>by omega) (fun i a b=>by omega) fun l hl lo hi=>?_
  have ek:∀ j,kf f (bubble p k (k - l)) j = if j = l then kf f p k else if l < j∧j≤k then kf f p (j - 1) else kf f p j:=fun j=>by
   have e:=getElem?_bubble (xs:=p) (src:=k) (by rw [hp.size]; omega) (k - l) (by omega) j
   have el:k - (k - l) = l:=by omega
   rw [el] at e
   by_cases a:j = l
   ·rw [if_pos a] at e ⊢; exact kf_at e
   ·rw [if_neg a] at e ⊢
    by_cases b:l < j∧j≤k
    ·rw [if_pos b] at e ⊢; exact kf_at e
    ·rw [if_neg b] at e ⊢; exact kf_at e
  refine yC hc fu _ (k + 1) (hp.Tr _ _) (by omega) (fun i yL=>?_) q
  rw [ek,ek]
  by_cases a:i + 1 < l
  ·rw [if_neg (by omega),if_neg (by omega),if_neg (by omega),if_neg (by omega)]
   exact u i (by omega)
  ·by_cases b:i + 1 = l
   ·rw [if_neg (by omega),if_neg (by omega),if_pos b]
    exact lo i (by omega)
   ·by_cases c:i = l
    ·rw [if_pos c,if_neg (by omega),if_pos (by omega)]
     show Le (kf f p k) (kf f p (i + 1 - 1))
     rw [Nat.add_sub_cancel]
     exact hi i (by omega) (by omega)
    ·rw [if_neg c,if_pos (by omega),if_neg (by omega),if_pos (by omega)]
     have:i + 1 - 1 = (i - 1) + 1:=by omega
     rw [this]
     exact u (i - 1) (by omega)
theorem y3 (hc:o5 cmp n f s) (h1:1≤n) {Q:Array Nat→Shared→Prop} (q:∀ p,Arr n p→Up f p n→Q p s):(kas_sort n).kasWp cmp Q s:=by
 unfold kas_sort
 rw [KasT.kasWp_bind]
 refine yn hc (p:=List.toArray (List.range n)) ⟨by simp,Array.Perm.refl _⟩ h1 fun m p hp a1 a2 u=>?_
 dsimp only
 by_cases z:m < n
 ·rw [if_pos z]
  have e:max m 1 = m:=by omega
  rw [e]
  exact yC hc (n - m) p m hp (by omega) u q
 ·rw [if_neg z]
  have e:m = n:=by omega
  exact q p hp (e▸u)
end
end L2
end
section
namespace L2
open PySem PySem.Spec PySem.W PySem.Calls PyProof.Rows
theorem LU (n:Nat):Arr n (List.toArray (List.range n)):=⟨by simp,Array.Perm.refl _⟩
def fc (h:Heap) (vs:List Value) (f:Nat→List Int):Prop:=∀ i,i < vs.length→∃ b us,vs[i]? = some (.ref b)∧h.IsList b us∧IntsAre us.toList (f i)
theorem fc.keep {h h':Heap} {vs:List Value} {f:Nat→List Int} (r:fc h vs f) (k:∀ (i:Nat) (b:Addr),vs[i]? = some (.ref b)→∀ o,h.get? b = some o→h'.get? b = some o):fc h' vs f:=fun i hi=>by
 obtain ⟨b,us,e,l,q⟩:=r i hi
 exact ⟨b,us,e,l.at fun o z=>k i b e o z,q⟩
def fq (vs:List Value) (p:Array Nat):Array Value:=List.toArray (p.toList.map fun i=>vs.getD i Value.none)
theorem mP (vs:List Value):fq vs (List.toArray (List.range vs.length)) = vs.toArray:=by
 unfold fq
 congr 1
 apply List.ext_getElem?
 intro i
 rw [List.getElem?_map]
 by_cases h:i < vs.length
 ·simp [h]
 ·simp [h]
theorem sY:∀ l:List Value,(l.zip l).map (fun x=>x.snd) = l
 | []=>rfl
 | x :: l=>by rw [List.zip_cons_cons,List.map_cons,sY l]
def p8 (h:Heap) (a:Addr) (vs:List Value):Heap:=((h.update a (Obj.mapSeq fun _=>#[])).push (seqObj "tuple" vs.toArray 0)).push (seqObj "list" #[] 0)
theorem zE {h:Heap} {a:Addr} {vs:List Value} {b:Addr} {o:Obj} (hb:b≠a) (e:h.get? b = some o):(p8 h a vs).get? b = some o:=by
 have l:=Heap.lt_size e
 unfold p8
 rw [Heap.get?_push_ne,Heap.get?_push_ne,Heap.get?_update_ne _ _ _ _ hb]
 ·exact e
 ·rw [Heap.size_update]; exact Nat.ne_of_lt l
 ·rw [size_push',Heap.size_update]; exact Nat.ne_of_lt (Nat.lt_succ_of_lt l)
section
variable {prog:Program} {w:World} {A:Around} {E:Value→Shared→Prop} {s:Shared} {vs:List Value} {f:Nat→List Int}
theorem Ax (hr:fc s.heap vs f) (hu:A.units < cLine):o5 (kas_cmp prog w A oneType' (pairsOf vs)) vs.length f s:=by
 intro i j C hi hj c
 obtain ⟨b1,u1,e1,l1,q1⟩:=hr i hi
 obtain ⟨b2,u2,e2,l2,q2⟩:=hr j hj
 rw [← kas_ask_eq]
 unfold kas_ask
 have g1:vs.getD i Value.none = .ref b1:=by rw [List.getD_eq_getElem?_getD,e1]; rfl
 have g2:vs.getD j Value.none = .ref b2:=by rw [List.getD_eq_getElem?_getD,e2]; rfl
 rw [g1,g2,keyLt'_oneType]
 exact pX l1 l2 q1 q2 hu c
theorem y6 {a:Addr} {n:Nat} {P:PySem.Fin→Shared→Prop} (ho:s.heap.get? a = some (seqObj "list" vs.toArray n)) (GS:vs.length < 64) (hu:A.units < cLine) (hr:fc s.heap vs f) (gM:∀ (i:Nat) (b:Addr),vs[i]? = some (.ref b)→b≠a)
  (k:∀ p:Array Nat,Arr vs.length p→Up f p vs.length→P (.done (.ret .none)) { s with heap:=sortedHeap s.heap a vs (fq vs p) }) :
  wpAny (model prog w) A (Builtin.«list.sort» ⟨[.ref a],[]⟩) P E s:=by
 have Cj:vs.length≤sizeLine:=by rw [sizeLine_eq]; omega
 obtain ⟨ep,Dm⟩:∃ ep,(s.heap.update a (Obj.mapSeq fun _=>#[])).get? a = some (seqObj "list" #[] ep):=⟨_,get?_update_seq ho (fun _=>#[])⟩
 have GD:(p8 s.heap a vs).get? a = some (seqObj "list" #[] ep):=Heap.get?_push_of_some _ (Heap.get?_push_of_some _ Dm)
 have r3:fc (p8 s.heap a vs) vs f:=hr.keep fun i b e o z=>zE (gM i b e) z
 rw [list_sort_plain]
 refine wpAny_bind (listItems_at ho rfl (wpAny_bind (listUpdate_at ho rfl (wpAny_bind (seqEpoch_at Dm rfl (wpAny_bind (wpAny_newTuple (wpAny_bind (wpAny_newList (wpAny_holding ?_) (Nat.zero_le _))) Cj)))) (by rw [List.size_toArray]; exact Cj) (Nat.zero_le _))))
 show wpAny (model prog w) A _ P E { s with heap:=p8 s.heap a vs }
 dsimp only
 by_cases h2:vs.toArray.size < 2
 ·rw [if_pos h2,if_pos h2]
  refine wpAny_bind (wpAny_pure ?_)
  rw [StateT.run_pure]
  refine wpAny_bind (wpAny_pure (wpAny_bind (seqEpoch_at GD rfl ?_)))
  have eo:(arrOf (SortSt.mk' general' (vs.toArray.zip vs.toArray) #[] 7 none)).map (·.2) = fq vs (List.toArray (List.range vs.length)):=by
   rw [mP]
   show (vs.toArray.zip vs.toArray).map (·.2) = vs.toArray
   apply Array.ext'
   simp
   exact sY vs
  dsimp only
  rw [eo]
  refine wpAny_bind (listUpdate_at GD rfl ?_ (Nat.zero_le _) (by rw [mP,List.size_toArray]; exact Nat.le_succ_of_le Cj))
  simp only [bne_self_eq_false,Bool.false_eq_true,if_false]
  refine wpAny_pure (k _ (LU _) fun i hi=>?_)
  rw [List.size_toArray] at h2
  omega
 ·rw [if_neg h2,if_neg h2]
  have qw:2≤vs.length:=by rw [List.size_toArray] at h2; omega
  refine wpAny_bind (kas_kind (T:=.type "list") qw (fun v hv=>?_) rfl rfl ?_)
  ·obtain ⟨i,hi,rfl⟩:=List.mem_iff_getElem.mp hv
   obtain ⟨b,us,e,l,q⟩:=r3 i hi
   rw [List.getElem?_eq_getElem hi] at e
   rw [Option.some.inj e]
   obtain ⟨o,z1,z2,z3⟩:=l
   intro A' Q' E' s' kk qq
   exact wpAny_typeOf (T:= "list") ⟨o,kk _ _ z1,z2⟩ qq
  ·have SH:SortSt.mk' oneType' (vs.toArray.zip vs.toArray) #[] 7 none = kas_st oneType' (pairsOf vs) (List.toArray (List.range vs.length)):=by
    have e:=kas_range (pairsOf vs)
    rw [pairsOf_size] at e
    unfold kas_st
    rw [e]
    rfl
   have run:=kas_runs (prog:=prog) (w:=w) (A:=A) (κ:=oneType') (it:=pairsOf vs) (E:=E) (Q:=fun _ uN s'=>s' = { s with heap:=p8 s.heap a vs }∧∃ p:Array Nat,Arr vs.length p∧Up f p vs.length∧arrOf uN = p.map (kas_item (pairsOf vs))∧failedOf uN = none)
    (G:=fun p s'=>s' = { s with heap:=p8 s.heap a vs }∧Arr vs.length p∧Up f p vs.length) qw GS (fun p' uN s' a1 a2 a3 a4=>⟨a4.1,p',a4.2.1,a4.2.2,a2,a3⟩) (y3 (Ax (s:={ s with heap:=p8 s.heap a vs }) r3 hu) (by omega) fun p h1 h3=>⟨rfl,h1,h3⟩)
   rw [← SH] at run
   refine wpAny_bind (wpAny_mono run ?_ fun _ _ e=>e)
   rintro ⟨⟨⟩,uN⟩ s' ⟨rfl,p,hp,zO,Ss,hf⟩
   dsimp only
   have eo:(arrOf uN).map (·.2) = fq vs p:=by
    unfold fq
    apply Array.toList_inj.mp
    rw [Ss,Array.map_map,Array.toList_map]
    refine List.map_congr_left fun i _=>?_
    rw [Function.comp_apply,kas_item_eq]
   rw [eo]
   have zo:(fq vs p).size = vs.length:=by unfold fq; rw [List.size_toArray,List.length_map,Array.length_toList,hp.size]
   refine wpAny_bind (seqEpoch_at GD rfl (wpAny_bind (listUpdate_at GD rfl ?_ (Nat.zero_le _) (by rw [zo]; exact Nat.le_succ_of_le Cj))))
   rw [hf]
   simp only [bne_self_eq_false,Bool.false_eq_true,if_false]
   exact wpAny_pure (k p hp zO)
theorem uO {l:Addr} {Q:Value→Shared→Prop} (hl:s.heap.IsList l vs.toArray) (GS:vs.length < 64) (hu:A.in1.in1.units < cLine) (hr:fc s.heap vs f)
  (k:∀ p:Array Nat,Arr vs.length p→Up f p vs.length→Q (.ref (s.heap.objs.size + 1)) { s with heap:=sortedAll s.heap vs (fq vs p) }) :
  wpAny (model prog w) A (call (.builtin "sorted") [.ref l]) Q E s:=by
 have Cj:vs.length≤sizeLine:=by rw [sizeLine_eq]; omega
 refine Calls.call_function_entry kind_sorted plain_sorted entry_sorted (args_sorted1 _) ?_
 unfold Builtin.«sorted»
 refine wpAny_bind (m:=checkCount "sorted" 1 1 _) (wpAny_pure (wpAny_bind (collect_list hl (wpAny_bind (wpAny_newList ?_ Cj)) Cj)))
 generalize hh:(s.heap.push (seqObj "list" #[] 0)).update s.heap.objs.size (Obj.mapSeq (· ++ vs.toArray)) = h1
 have z1:h1.objs.size = s.heap.objs.size + 1:=by rw [← hh,Heap.size_update,size_push']
 have o1:(h1.push (seqObj "list" vs.toArray 0)).get? (s.heap.objs.size + 1) = some (seqObj "list" vs.toArray 0):=by rw [← z1]; exact Heap.get?_push_size _ rfl
 have old:∀ b o,s.heap.get? b = some o→(h1.push (seqObj "list" vs.toArray 0)).get? b = some o:=fun b o q=>by
  have lt:=Heap.lt_size q
  rw [Heap.get?_push_ne _ _ _ (by rw [z1]; exact Nat.ne_of_lt (Nat.lt_succ_of_lt lt)),← hh,Heap.get?_update_ne _ _ _ _ (Nat.ne_of_lt lt),Heap.get?_push_ne _ _ _ (Nat.ne_of_lt lt)]
  exact q
 show wpAny _ _ _ _ _ { s with heap:=h1.push (seqObj "list" vs.toArray 0) }
 rw [z1]
 refine wpAny_bind (wpAny_holding (wpAny_call_entry slot_list_sort ⟨_,o1,rfl⟩ entry_list_sort (y6 (f:=f) o1 GS hu (hr.keep fun i b e o z=>old b o z) (fun i b e=>?_) fun p hp zO=>⟨_,rfl,?_⟩) (args_list_sort _)))
 ·obtain ⟨hi,_⟩:=List.getElem?_eq_some_iff.mp e
  obtain ⟨b',us,e',⟨o,z,_⟩,_⟩:=hr i hi
  rw [e] at e'
  cases e'
  exact Nat.ne_of_lt (Nat.lt_succ_of_lt (Heap.lt_size z))
 ·refine wpAny_pure ⟨_,rfl,?_⟩
  have:=k p hp zO
  unfold sortedAll at this
  rw [hh] at this
  exact this
end
end L2
end
section
namespace L2
open PySem PySem.Spec PySem.W PySem.Calls PyProof.Rows
section
variable {prog:Program} {w:World} {A:Around} {R:Result→Shared→Prop} {I:Addr} {fp wr:List Addr} {n:Nat} {P:Nat→Value→Prop} {St:Nat→Heap→Prop} {Kp:Heap→Prop} {bt:Nat→Nat→Bool} {S:Addr}
def Bw (prog:Program) (w:World) (A:Around) (P:Nat→Value→Prop) (Kp:Heap→Prop) (bt:Nat→Nat→Bool):Prop:=
 ∀ (i j:Nat) (x y:Value) (t:Shared) (Q E:Value→Shared→Prop),P i x→P j y→Kp t.heap→Q (.bool (bt i j)) t→wpAny (model prog w) A (richCompare .Lt x y) Q E t
theorem sd (W:Walks prog w A.in1 I fp wr n P St) (hc:Bw prog w A.in1 P Kp bt) (nf:S∉fp) (ff:∀ h h',Kp h→(∀ b o,b∉wr→b≠S→h.get? b = some o→h'.get? b = some o)→Kp h') :
  ∀ (k j:Nat) (t:Shared) (x:Value) (c:Nat),n - (j + 1) = k→j + 1≤n→St (j + 1) t.heap→Kp t.heap→P (argBest bt j) x→t.heap.get? S = some { cls:=.type "list",dict:=none,data:=.seq #[x,x] c,slots:=#[] }→
  (∀ v h' tk,P (argBest bt (n - 1)) v→(∀ b o,b∉wr→b≠S→t.heap.get? b = some o→h'.get? b = some o)→R (.ok (.ret v)) { t with heap:=h',toks:=tk })→codeAny (model prog w) A (.builtin "min.loop" ⟨[.ref I,.none,.ref S],[]⟩) R t:=by
 have nw:S∉wr:=fun z=>nf (W.sub _ z)
 have nm:(toString "min" ++ toString ".loop" : String) = "min.loop":=by decide
 intro k
 induction k with
 | zero=>
  intro j t x c hk hj st kp px hS hR
  have jn:j + 1 = n:=by omega
  refine codeAny_builtin F.entry_min_loop ?_
  rw [Around.under_plainId F.plain_min_loop _]
  show wpAny _ A.in1 (seqItems? (.ref S) >>= _) _ _ t
  refine wpAny_bind (wpAny_seqItems hS rfl ?_)
  show wpAny _ A.in1 (tryCatch (pyNext (.ref I)) _ >>= _) _ _ t
  refine wpAny_bind (wpAny_tryCatch (W.done t _ _ (jn▸st) fun h' tk kk=>?_))
  have o9:=kk S _ nw hS
  show wpAny _ A.in1 (updateSeq S (fun _=>#[]) >>= _) _ _ _
  refine wpAny_bind (wpAny_updateSeq o9 rfl (wpAny_bind (wpAny_letGo (wpAny_pure (hR x _ tk (by rw [← jn]; exact px) fun b o b1 b2 e=>?_)))))
  rw [Heap.get?_update_other _ _ (Ne.symm b2)]
  exact kk b o b1 e
 | succ k ih=>
  intro j t x c hk hj st kp px hS hR
  have lt:j + 1 < n:=by omega
  refine codeAny_builtin F.entry_min_loop ?_
  rw [Around.under_plainId F.plain_min_loop _]
  show wpAny _ A.in1 (seqItems? (.ref S) >>= _) _ _ t
  refine wpAny_bind (wpAny_seqItems hS rfl ?_)
  show wpAny _ A.in1 (tryCatch (pyNext (.ref I)) _ >>= _) _ _ t
  refine wpAny_bind (wpAny_tryCatch (W.item (j + 1) t _ _ lt st fun v h' tk pv Di kk=>?_))
  have o9:=kk S _ nw hS
  have ED:Kp h':=ff _ _ kp fun b o b1 _ e=>kk b o b1 e
  show wpAny _ A.in1 (tryCatch (holding [v,v] (richCompare .Lt v x >>= _)) _ >>= _) _ _ _
  refine wpAny_bind (wpAny_tryCatch (wpAny_holding (wpAny_bind (hc (j + 1) (argBest bt j) v x _ _ _ pv px ED (wpAny_bind (wpAny_holding (wpAny_truthy_bool (wpAny_bind (wpAny_letGo (wpAny_pure ?_))))))))))
  cases hb:bt (j + 1) (argBest bt j) with
  | true=>
   simp only [if_true]
   refine wpAny_bind (wpAny_updateSeq o9 rfl (wpAny_bind (wpAny_letGo ?_)))
   rw [nm]
   have up:∀ b o,b≠S→h'.get? b = some o→(h'.update S (Obj.mapSeq fun _=>#[v,v])).get? b = some o:=fun b o b2 e=>by rw [Heap.get?_update_other _ _ (Ne.symm b2)]; exact e
   refine wpAny_pure ⟨plainId_quiet F.plain_min_loop _,ih (j + 1) _ v _ (by omega) lt (W.frame _ _ _ Di fun b bf o e=>up b o (fun z=>nf (z▸bf)) e) (ff _ _ ED fun b o _ b2 e=>up b o b2 e) (by simp only [argBest,hb,if_true]; exact pv) (Heap.get?_update_self _ o9 rfl) fun v2 h2 DE p2 k2=>?_⟩
   exact hR v2 h2 DE p2 fun b o b1 b2 e=>k2 b o b1 b2 (up b o b2 (kk b o b1 e))
  | false=>
   simp only [Bool.false_eq_true,if_false]
   refine wpAny_bind (wpAny_letGo ?_)
   rw [nm]
   exact wpAny_pure ⟨plainId_quiet F.plain_min_loop _,ih (j + 1) _ x c (by omega) lt Di ED (by simp only [argBest,hb,Bool.false_eq_true,if_false]; exact px) o9 fun v2 h2 DE p2 k2=>hR v2 h2 DE p2 fun b o b1 b2 e=>k2 b o b1 b2 (kk b o b1 e)⟩
theorem qf (W:Walks prog w A.in1 I fp wr n P St) (hc:Bw prog w A.in1 P Kp bt) (nf:S∉fp) (ff:∀ h h',Kp h→(∀ b o,b∉wr→b≠S→h.get? b = some o→h'.get? b = some o)→Kp h') (n0:0 < n)
  {t:Shared} {c:Nat} (st:St 0 t.heap) (kp:Kp t.heap) (hS:t.heap.get? S = some { cls:=.type "list",dict:=none,data:=.seq #[] c,slots:=#[] })
  (hR:∀ v h' tk,P (argBest bt (n - 1)) v→(∀ b o,b∉wr→b≠S→t.heap.get? b = some o→h'.get? b = some o)→R (.ok (.ret v)) { t with heap:=h',toks:=tk }):codeAny (model prog w) A (.builtin "min.loop" ⟨[.ref I,.none,.ref S],[]⟩) R t:=by
 have nw:S∉wr:=fun z=>nf (W.sub _ z)
 have nm:(toString "min" ++ toString ".loop" : String) = "min.loop":=by decide
 refine codeAny_builtin F.entry_min_loop ?_
 rw [Around.under_plainId F.plain_min_loop _]
 show wpAny _ A.in1 (seqItems? (.ref S) >>= _) _ _ t
 refine wpAny_bind (wpAny_seqItems hS rfl ?_)
 show wpAny _ A.in1 (tryCatch (pyNext (.ref I)) _ >>= _) _ _ t
 refine wpAny_bind (wpAny_tryCatch (W.item 0 t _ _ n0 st fun v h' tk pv Di kk=>?_))
 have o9:=kk S _ nw hS
 show wpAny _ A.in1 (updateSeq S (fun _=>#[v,v]) >>= _) _ _ _
 refine wpAny_bind (wpAny_updateSeq o9 rfl ?_)
 rw [nm]
 have up:∀ b o,b≠S→h'.get? b = some o→(h'.update S (Obj.mapSeq fun _=>#[v,v])).get? b = some o:=fun b o b2 e=>by rw [Heap.get?_update_other _ _ (Ne.symm b2)]; exact e
 have ED:Kp h':=ff _ _ kp fun b o b1 _ e=>kk b o b1 e
 exact wpAny_pure ⟨plainId_quiet F.plain_min_loop _,sd W hc nf ff _ 0 _ v _ rfl n0 (W.frame _ _ _ Di fun b bf o e=>up b o (fun z=>nf (z▸bf)) e) (ff _ _ ED fun b o _ b2 e=>up b o b2 e) pv (Heap.get?_update_self _ o9 rfl)
  fun v2 h2 DE p2 k2=>hR v2 h2 DE p2 fun b o b1 b2 e=>k2 b o b1 b2 (up b o b2 (kk b o b1 e))⟩
end
theorem uA (f:Nat→List Int):∀ k,argBest (fun i j=>HT.lexLt (f i) (f j)) k≤k∧∀ j,j≤k→Le (f (argBest (fun i j=>HT.lexLt (f i) (f j)) k)) (f j)
 | 0=>⟨Nat.le_refl _,fun j hj=>by
                    obtain rfl:j = 0:=by omega
                    exact Le.refl _⟩
 | k + 1=>by
  obtain ⟨h1,h2⟩:=uA f k
  unfold argBest
  cases q:HT.lexLt (f (k + 1)) (f (argBest (fun i j=>HT.lexLt (f i) (f j)) k)) with
  | true=>
   rw [if_pos rfl]
   refine ⟨Nat.le_refl _,fun j hj=>?_⟩
   by_cases e:j = k + 1
   ·rw [e]; exact Le.refl _
   ·exact Le.trans (Le.of_lt q) (h2 j (by omega))
  | false=>
   rw [if_neg (by decide)]
   refine ⟨by omega,fun j hj=>?_⟩
   by_cases e:j = k + 1
   ·rw [e]; exact q
   ·exact h2 j (by omega)
section
variable {prog:Program} {w:World} {A:Around} {E:Value→Shared→Prop} {s:Shared} {vs:List Value} {f:Nat→List Int} {l:Addr}
theorem xF {Q:Value→Shared→Prop} (hh:A.handled = none) (hl:s.heap.IsList l vs.toArray) (hu:A.in1.units < cLine) (hr:fc s.heap vs f) (h0:0 < vs.length)
  (k:∀ (i:Nat) (v:Value) h' tk,vs[i]? = some v→(∀ j,j < vs.length→Le (f i) (f j))→(∀ b o,s.heap.get? b = some o→h'.get? b = some o)→Q v { s with heap:=h',toks:=tk }) :
  wpAny (model prog w) A (call (.builtin "min") [.ref l]) Q E s:=by
 have nm:(toString "min" ++ toString ".loop" : String) = "min.loop":=by decide
 have ll:l < s.heap.objs.size:=by obtain ⟨_,e,_⟩:=id hl; exact Heap.lt_size e
 have low:∀ (i:Nat) (b:Addr),vs[i]? = some (.ref b)→b < s.heap.objs.size:=fun i b e=>by
  obtain ⟨b',us,e',⟨o,z,_⟩,_⟩:=hr i (List.getElem?_eq_some_iff.mp e).1
  rw [e] at e'
  cases e'
  exact Heap.lt_size z
 refine call_function_tree F.kind_min F.plain_min F.entry_min (F.args_min1 _) ?_
 show wpAny _ A.in1 (Builtin.Builtins.bindParams "min" ["key", "default"] 0 ⟨[],[]⟩ >>= _) _ _ s
 refine wpAny_bind (wpAny_of_eq (show Builtin.Builtins.bindParams "min" ["key", "default"] 0 ⟨[],[]⟩ = pure [none,none] from rfl) (wpAny_bind (wpAny_pure (wpAny_bind (wpAny_pyIter_list hl (wpAny_bind (wpAny_newObj_type ?_)))))))
 rw [nm]
 generalize hg:s.heap.push { cls:=.type "list_iterator",data:=.fields #[.ref l,.int 0 0] } = g
 have zg:g.objs.size = s.heap.objs.size + 1:=by rw [← hg,Heap.size_push]
 have og:∀ b o,s.heap.get? b = some o→g.get? b = some o:=fun b o e=>hg▸Heap.get?_push_of_some _ e
 have il:g.IsListIter s.heap.objs.size l 0:=hg▸⟨_,Heap.get?_push_size _ rfl,rfl,rfl⟩
 refine wpAny_pure ⟨plainId_quiet F.plain_min_loop _,qf (Kp:=fun h=>fc h vs f) (bt:=fun i j=>HT.lexLt (f i) (f j)) (W:=Walks.list (A:=A.in1) hh s.heap.objs.size l (Nat.ne_of_lt ll) vs.toArray) (S:=g.objs.size)
  (fun i j x y t Q' E' px py kp q=>?_) (fun z=>?_) (fun h h' r kk=>?_) (by simpa using h0) ⟨il.at fun o e=>Heap.get?_push_of_some _ e,hl.at fun o e=>Heap.get?_push_of_some _ (og _ _ e)⟩ (hr.keep fun i b _ o e=>Heap.get?_push_of_some _ (og _ _ e)) (Heap.get?_push_size _ rfl) fun v h' tk pv kk=>?_⟩
 ·have M7:vs[i]? = some x:=by simpa using px
  have M6:vs[j]? = some y:=by simpa using py
  obtain ⟨b1,u1,e1,l1,q1⟩:=kp i (List.getElem?_eq_some_iff.mp M7).1
  obtain ⟨b2,u2,e2,l2,q2⟩:=kp j (List.getElem?_eq_some_iff.mp M6).1
  rw [M7] at e1
  rw [M6] at e2
  cases e1
  cases e2
  exact xA l1 l2 q1 q2 hu q
 ·have:g.objs.size = s.heap.objs.size∨g.objs.size = l:=by simpa using z
  rcases this with e | e
  ·exact absurd (zg.symm.trans e) (Nat.succ_ne_self _)
  ·exact absurd (zg.symm.trans e) (Nat.ne_of_gt (Nat.lt_succ_of_lt ll))
 ·refine r.keep fun i b e o z=>kk b o (fun y=>?_) (fun y=>?_) z
  ·have:b = s.heap.objs.size:=by simpa using y
   exact absurd (low i b e) (by rw [this]; exact Nat.lt_irrefl _)
  ·exact absurd (low i b e) (by rw [y,zg]; exact Nat.lt_asymm (Nat.lt_succ_self _))
 ·have Qc:vs[argBest (fun i j=>HT.lexLt (f i) (f j)) (vs.length - 1)]? = some v:=by simpa using pv
  have bl:=uA f (vs.length - 1)
  refine k _ v h' tk Qc (fun j hj=>bl.2 j (by omega)) fun b o e=>kk b o ?_ ?_ (Heap.get?_push_of_some _ (og b o e))
  ·intro z
   have:b = s.heap.objs.size:=by simpa using z
   exact absurd (Heap.lt_size e) (by rw [this]; exact Nat.lt_irrefl _)
  ·intro z
   exact absurd (Heap.lt_size e) (by rw [z,zg]; exact Nat.lt_asymm (Nat.lt_succ_self _))
end
theorem mX:∀ (l:List Int) (y:Int) (m:Nat) (h:m < l.length),m < l.idxOf y→l[m]≠y
 | [],_,m,h,_=>by simp at h
 | z :: l,y,m,h,hm=>by
  rw [List.idxOf_cons] at hm
  by_cases e:z = y
  ·rw [e] at hm; simp at hm
  ·have e2:(z == y) = false:=beq_false_of_ne e
   rw [e2] at hm
   cases m with
   | zero=>exact e
   | succ m=>
    have h2:m < l.length:=by simpa using h
    have h3:m < l.idxOf y:=by simpa using hm
    exact mX l y m h2 h3
section
variable {X:Cx}
theorem tK {pins:List (Addr×Obj)} {σ : St} {H:Hp} {s:Shared} (I:Inv X pins σ H s):∀ {as:List Addr} {L:List (List Int)} {aO:List Value},Vals (as.map V.ref) aO→as.length = L.length→(∀ (i:Nat) (a:Addr) (l:List Int),as[i]? = some a→L[i]? = some l→ay X.K H a (l.map V.int))→fc s.heap aO (fun i=>L.getD i []):=by
 intro as L aO rv hl hs i hi
 have z:=rv.length
 rw [List.length_map] at z
 have ha:i < as.length:=by omega
 have hL:i < L.length:=by omega
 obtain ⟨u,hu,ru⟩:=rv.get (i:=i) (show (as.map V.ref)[i]? = some (V.ref as[i]) by simp [ha])
 cases ru
 obtain ⟨rs,rr,rp,_⟩:=I.list (hs i as[i] L[i] (by simp [ha]) (by simp [hL]))
 refine ⟨as[i],rs.toArray,hu,rp.isList,?_⟩
 have e:L.getD i [] = L[i]:=by simp [hL]
 dsimp only
 rw [e]
 exact intsAre_of rr
def pick {α : Type} (d : α) (L:List α) (p:Array Nat):List α:=p.toList.map fun i=>L.getD i d
def wW (K:Frag):List V→Hp→VK→Prop:=fun vs H Q=>∃ (a:Addr) (as:List Addr) (L:List (List Int)),vs = [.ref a]∧ay K H a (as.map V.ref)∧as.length = L.length∧(∀ (i:Nat) (b:Addr) (l:List Int),as[i]? = some b→L[i]? = some l→ay K H b (l.map V.int))∧as.length < 64∧
 ∀ (p:Array Nat) (q:Addr),Arr L.length p→Up (fun i=>L.getD i []) p L.length→H q = none→Q (.ref q) (upd H q (.lst ((pick 0 as p).map V.ref)))
theorem iF (hu:X.A.units + 64 < cLine):d5 X (.builtin "sorted") (wW X.K):=by
 intro pins s σ H xs us Q I r h
 obtain ⟨a,as,L,rfl,ha,hl,hs,GS,q⟩:=h
 obtain ⟨u,rfl,ru⟩:=vals1 r
 cases ru
 obtain ⟨aO,rv,pl,hz⟩:=I.list ha
 have z:=rv.length
 rw [List.length_map] at z
 refine uO (f:=fun i=>L.getD i []) pl.isList (by omega) (by simp only [Around.in1_units]; omega) (tK I rv hl hs) fun p hp zO=>?_
 obtain ⟨ep,k1⟩:=sortedAll_at s.heap aO (fq aO p)
 have CH:Arr L.length p:=by rw [← hl,z]; exact hp
 have xP:((pick 0 as p).map V.ref).length≤sizeLine:=by unfold pick; rw [List.length_map,List.length_map,Array.length_toList,hp.size,PySem.sizeLine_eq]; omega
 have PL:Vals ((pick 0 as p).map V.ref) (fq aO p).toList:=by
  have go:∀ l:List Nat,(∀ i∈l,i < aO.length)→Vals ((l.map fun i=>as.getD i 0).map V.ref) (l.map fun i=>aO.getD i Value.none):=by
   intro l
   induction l with
   | nil=>intro _; exact .nil
   | cons i l ih=>
    intro h
    refine .cons ?_ (ih fun j hj=>h j (List.mem_cons_of_mem _ hj))
    have hi:=h i List.mem_cons_self
    have yL:i < as.length:=by omega
    obtain ⟨u,hu,ru⟩:=rv.get (i:=i) (show (as.map V.ref)[i]? = some (V.ref as[i]) by simp [yL])
    have e1:as.getD i 0 = as[i]:=by simp [yL]
    have e2:aO.getD i Value.none = u:=by rw [List.getD_eq_getElem?_getD,hu]; rfl
    dsimp only
    rw [e1,e2]
    exact ru
  refine go _ fun i hi=>?_
  have:=(hp.perm.mem_iff).mp (Array.mem_toList_iff.mp hi)
  simpa using this
 have new:bg X.prog X.w (upd H (s.heap.objs.size + 1) (.lst ((pick 0 as p).map V.ref))) (sortedAll s.heap aO (fq aO p)) (s.heap.objs.size + 1) (.lst ((pick 0 as p).map V.ref)):=⟨xP,(fq aO p).toList,ep,PL,by simpa [seqObj] using k1⟩
 exact ⟨.ref (s.heap.objs.size + 1),_,I.laid (t':=s.toks) (fun b o e=>sortedAll_old e) (Nat.le_succ _) new,rfl,q p _ CH (by rw [← hl,z]; exact zO) (I.bA.fresh (Nat.le_succ _))⟩
def Eg (K:Frag):List V→Hp→VK→Prop:=fun vs H Q=>∃ (a:Addr) (as:List Addr) (L:List (List Int)),vs = [.ref a]∧ay K H a (as.map V.ref)∧as.length = L.length∧(∀ (i:Nat) (b:Addr) (l:List Int),as[i]? = some b→L[i]? = some l→ay K H b (l.map V.int))∧0 < as.length∧
 ∀ (i:Nat) (b:Addr) (l:List Int),as[i]? = some b→L[i]? = some l→(∀ m∈L,Le l m)→Q (.ref b) H
theorem nj (hc:X.calm = true) (hu:X.A.units + 64 < cLine):d5 X (.builtin "min") (Eg X.K):=by
 intro pins s σ H xs us Q I r h
 obtain ⟨a,as,L,rfl,ha,hl,hs,h0,q⟩:=h
 obtain ⟨u,rfl,ru⟩:=vals1 r
 cases ru
 obtain ⟨aO,rv,pl,hz⟩:=I.list ha
 have z:=rv.length
 rw [List.length_map] at z
 refine xF (f:=fun i=>L.getD i []) (I.ok.hd hc) pl.isList (by simp only [Around.in1_units]; omega) (tK I rv hl hs) (by omega) fun i v h' tk hv hle kk=>?_
 have hi:i < aO.length:=(List.getElem?_eq_some_iff.mp hv).1
 have yL:i < as.length:=by omega
 have Ds:i < L.length:=by omega
 obtain ⟨u,hu,ru⟩:=rv.get (i:=i) (show (as.map V.ref)[i]? = some (V.ref as[i]) by simp [yL])
 rw [hv] at hu
 cases hu
 cases ru
 refine ⟨.ref as[i],H,I.kept kk,rfl,q i as[i] L[i] (by simp [yL]) (by simp [Ds]) fun m hm=>?_⟩
 obtain ⟨j,hj,rfl⟩:=List.mem_iff_getElem.mp hm
 have:=hle j (by omega)
 have e1:L.getD i [] = L[i]:=by simp [Ds]
 have e2:L.getD j [] = L[j]:=by simp [hj]
 rw [e1,e2] at this
 exact this
def Eh (K:Frag):List V→Hp→VK→Prop:=fun vs H Q=>∃ (a:Addr) (ns:List Int),vs = [.ref a]∧ay K H a (ns.map V.int)∧ns≠[]∧∀ m,m∈ns→(∀ x∈ns,m≤x)→Q (.int m) H
theorem vx (hc:X.calm = true):d5 X (.builtin "min") (Eh X.K):=by
 intro pins s σ H xs us Q I r h
 obtain ⟨a,ns,rfl,ha,h0,q⟩:=h
 obtain ⟨u,rfl,ru⟩:=vals1 r
 cases ru
 obtain ⟨aO,rv,pl,hz⟩:=I.list ha
 have hi:IntsAre aO ns:=intsAre_of rv
 obtain ⟨xs,e⟩:=hi.allInts.items
 have yJ:ns = xs.toList.map (·.1):=by rw [← hi.numsOf,← nums_intItems,← e]
 have hl:=pl.isList
 rw [e] at hl
 have h1:0 < xs.size:=by
  have:=List.length_pos_iff.mpr h0
  rw [yJ,List.length_map,Array.length_toList] at this
  exact this
 refine min_intList (I.ok.hd hc) hl h1 fun v h' tk hv kk=>?_
 obtain ⟨t,rfl⟩:=intItems_at hv
 obtain ⟨g1,g2⟩:=argBest_lt (numAt xs) (xs.size - 1)
 refine ⟨.int _,H,I.kept kk,⟨t,rfl⟩,q _ ?_ fun x hx=>?_⟩
 ·rw [yJ,numAt_eq]; exact getD_mem (by rw [List.length_map,Array.length_toList]; omega)
 ·rw [yJ] at hx
  obtain ⟨j,hj,rfl⟩:=mem_getD hx
  rw [List.length_map,Array.length_toList] at hj
  rw [← numAt_eq]
  exact g2 j (by omega)
def PQ (K:Frag):List V→Hp→VK→Prop:=fun vs H Q=>∃ (a:Addr) (ns:List Int),vs = [.ref a]∧ay K H a (ns.map V.int)∧ns.length≤1000∧(∀ x∈ns,0≤x∧x≤100000)∧Q (.int ns.sum) H
def BX (K:Frag):V→List V→Hp→VK→Prop:=fun x vs H Q=>∃ (l:Addr) (ns:List Int) (y:Int),x = .ref l∧vs = [.int y]∧H l = some (.lst (ns.map V.int))∧y∈ns∧Q (.int (ns.idxOf y:Nat)) H
theorem dM:Hg X "list.index" (BX X.K):=by
 intro pins s σ H x vs v us Q I rx rv h
 obtain ⟨l,ns,y,rfl,rfl,hH,hy,q⟩:=h
 cases rx
 obtain ⟨u,rfl,t,rfl⟩:=rv.one
 obtain ⟨z,aO,n,r,hl,e⟩:=I.u5 hH
 have hi:IntsAre aO ns:=intsAre_of r
 have zl:=hi.length
 have Sw:=ku
 have hj:ns.idxOf y < ns.length:=List.idxOf_lt_length_of_mem hy
 rw [List.length_map] at z
 let ev:Value→Bool:=fun v=>match v with | .int i _=>i == y | _=>false
 have at_:∀ m (hm:m < ns.length),∃ t,aO[m]? = some (.int ns[m] t):=fun m hm=>oB hi hm
 refine call_meets F.slot_list_index ⟨_,e,rfl⟩ F.entry_list_index (F.args_list_index_2 _ _) (SeqAt.list_indexAt l aO.toArray n none #[] (.int y t) ev (ns.idxOf y) (by rw [List.size_toArray]; omega) (by omega) ?_ ?_) ⟨e,?_,?_⟩
 ·obtain ⟨t1,e1⟩:=at_ _ hj
  have:aO.toArray[ns.idxOf y]'(by rw [List.size_toArray]; omega) = .int ns[ns.idxOf y] t1:=by
   have:=(List.getElem?_eq_some_iff.mp e1).2
   simpa using this
  rw [this]
  show (ns[ns.idxOf y] == y) = true
  rw [List.getElem_idxOf hj]
  simp
 ·intro m hm eV
  obtain ⟨t1,e1⟩:=at_ m (by omega)
  have:aO.toArray[m] = .int (ns[m]'(by omega)) t1:=by
   have:=(List.getElem?_eq_some_iff.mp e1).2
   simpa using this
  rw [this]
  show (ns[m]'(by omega) == y) = false
  exact beq_false_of_ne (mX ns y m (by omega) eV)
 ·intro w hw
  have RD:w∈aO:=by simpa using hw
  obtain ⟨m,hm,rfl⟩:=List.mem_iff_getElem.mp RD
  obtain ⟨t1,e1⟩:=at_ m (by omega)
  rw [(List.getElem?_eq_some_iff.mp e1).2]
  exact SeqAt.EqAt.int_int _ _ _ _
 ·exact ⟨.int (ns.idxOf y:Nat),H,I.tok _,⟨_,rfl⟩,q⟩
end
section
variable {X:Cx} {K:Frag}
theorem fh (h:X.K = K):Mp X (nV K):=h▸dE
end
end L2
end
section
namespace Gm
open PySem L2
def cy (r:List Int) (j:Nat):Int:=r.getD (j % r.length) 0
theorem kZ {r:List Int} {i j:Nat} (h:i % r.length = j % r.length):cy r i = cy r j:=by unfold cy; rw [h]
theorem iD {r:List Int} {j:Nat} (h:j < r.length):cy r j = r[j]:=by unfold cy; rw [Nat.mod_eq_of_lt h]; simp [h]
theorem yk {r:List Int} {j:Nat} (h:0 < r.length):cy r j∈r:=by
 have hm:=Nat.mod_lt j h
 have:cy r j = r[j % r.length]:=by unfold cy; simp [hm]
 rw [this]; exact List.getElem_mem _
theorem cg {r:List Int} {i:Int} {j:Nat} (h1 : -(r.length:Int)≤i) (h2:i < r.length) (e:(j:Int) = i∨(j:Int) = i + r.length):mh (r.map V.int) i = some (V.int (cy r j)):=by
 unfold mh yH
 rw [List.length_map]
 by_cases h0:0≤i
 ·rw [if_pos h0,if_pos h2]
  have hi:i.toNat < r.length:=by omega
  have em:j % r.length = i.toNat:=by
   rcases e with e | e
   ·rw [Nat.mod_eq_of_lt (by omega)]; omega
   ·have:j = i.toNat + r.length:=by omega
    rw [this,Nat.add_mod_right,Nat.mod_eq_of_lt hi]
  show (r.map V.int)[i.toNat]? = _
  unfold cy
  rw [em]
  simp [hi]
 ·rw [if_neg h0,if_pos h1]
  have hj:(i + (r.length:Int)).toNat = j:=by omega
  have hl:j < r.length:=by omega
  show (r.map V.int)[(i + (r.length:Int)).toNat]? = _
  rw [hj,iD hl]
  simp [hl]
theorem yl {r q:List Int} (hl:r.length = q.length) (h:∀ j,cy r j = cy q j):r = q:=by
 refine List.ext_getElem hl fun i h1 h2=>?_
 have:=h i
 rw [iD h1,iD h2] at this
 exact this
def cz (r:List Int) (k:Nat):List Int:=r.drop k ++ r.take k
theorem cV {r:List Int} {k:Nat} (h:k≤r.length):(cz r k).length = r.length:=by unfold cz; simp; omega
theorem mj {a b n:Nat} (ha:a < n) (hb:b < n):(a + b) % n = if a + b < n then a + b else a + b - n:=by
 by_cases h:a + b < n
 ·rw [if_pos h,Nat.mod_eq_of_lt h]
 ·rw [if_neg h,Nat.mod_eq_sub_mod (by omega),Nat.mod_eq_of_lt (by omega)]
theorem gP {r:List Int} {k:Nat} (h:k < r.length) (j:Nat):cy (cz r k) j = cy r (j + k):=by
 have hm:=Nat.mod_lt j (show 0 < r.length by omega)
 have e:(j + k) % r.length = if j % r.length + k < r.length then j % r.length + k else j % r.length + k - r.length:=by
  rw [← mj hm h,Nat.mod_add_mod]
 unfold cy
 rw [cV (by omega),e]
 unfold cz
 rw [List.getD_eq_getElem?_getD,List.getD_eq_getElem?_getD]
 congr 1
 by_cases c:j % r.length + k < r.length
 ·rw [if_pos c,List.getElem?_append_left (by rw [List.length_drop]; omega),List.getElem?_drop,Nat.add_comm]
 ·rw [if_neg c,List.getElem?_append_right (by rw [List.length_drop]; omega),List.length_drop,List.getElem?_take,if_pos (by omega)]
  congr 1
  omega
theorem tL {r:List Int} {k i:Nat} (hk:k < r.length) (hi:i < r.length):cz (cz r k) i = cz r ((i + k) % r.length):=by
 have hl:(cz r k).length = r.length:=cV (by omega)
 have hm:=Nat.mod_lt (i + k) (show 0 < r.length by omega)
 refine yl (by rw [cV (by rw [hl]; omega),hl,cV (by omega)]) fun j=>?_
 rw [gP (by rw [hl]; exact hi),gP hk,gP hm]
 refine kZ ?_
 rw [Nat.add_assoc,Nat.add_mod_mod]
abbrev au:=Int×Int
def rowOf (L:List (List Int)) (a:Int):List Int:=L.getD a.toNat []
def pre (l:List Int) (x:Int):Int:=cy l (l.idxOf x + l.length - 1)
structure Dt (L:List (List Int)) (d:au):Prop where
 lo:0≤d.1
 hi:d.1 < L.length
 mem:d.2∈rowOf L d.1
def nx (L:List (List Int)) (d:au):au:=(d.2,pre (rowOf L d.2) d.1)
theorem aE {L:List (List Int)} {a:Int} (h0:0≤a) (h1:a < L.length):L[a.toNat]? = some (rowOf L a):=by
 unfold rowOf
 have:a.toNat < L.length:=by omega
 simp [this]
theorem zr {l:List Int} {x:Int} (h:x∈l):pre l x∈l:=yk (List.length_pos_of_mem h)
theorem md {i n:Nat} (h:i < n):(i + n - 1) % n = if i = 0 then n - 1 else i - 1:=by
 by_cases e:i = 0
 ·rw [if_pos e,e,Nat.zero_add,Nat.mod_eq_of_lt (by omega)]
 ·rw [if_neg e]
  have:i + n - 1 = (i - 1) + n:=by omega
  rw [this,Nat.add_mod_right,Nat.mod_eq_of_lt (by omega)]
theorem zt {l:List Int} {x y:Int} (n:l.Nodup) (hx:x∈l) (hy:y∈l) (h:pre l x = pre l y):x = y:=by
 have ix:=List.idxOf_lt_length_of_mem hx
 have iy:=List.idxOf_lt_length_of_mem hy
 have p0:0 < l.length:=by omega
 unfold pre cy at h
 have mx:=Nat.mod_lt (l.idxOf x + l.length - 1) p0
 have my:=Nat.mod_lt (l.idxOf y + l.length - 1) p0
 have e1:l.getD ((l.idxOf x + l.length - 1) % l.length) 0 = l[(l.idxOf x + l.length - 1) % l.length]:=by simp [mx]
 have e2:l.getD ((l.idxOf y + l.length - 1) % l.length) 0 = l[(l.idxOf y + l.length - 1) % l.length]:=by simp [my]
 rw [e1,e2] at h
 have e:=(List.getElem_inj n).mp h
 rw [md ix,md iy] at e
 have ei:l.idxOf x = l.idxOf y:=by split at e <;> split at e <;> omega
 have g1:=List.getElem_idxOf ix
 have g2:=List.getElem_idxOf iy
 rw [← g1,← g2]
 congr 1
theorem uC {l:List Int} {x:Int} (h:x∈l):mh (l.map V.int) ((l.idxOf x:Int) - 1) = some (V.int (pre l x)):=by
 have ix:=List.idxOf_lt_length_of_mem h
 exact cg (by omega) (by omega) (.inr (by omega))
section
variable {L:List (List Int)} {d e:au}
theorem Dt.back (h:Dt L d) (m:aH L):0≤d.2∧d.2 < L.length∧d.2≠d.1∧d.1∈rowOf L d.2:=by
 have r:=aE h.lo h.hi
 have g:=m.rg _ _ r _ h.mem
 have e1:((d.1.toNat:Nat):Int) = d.1:=Int.toNat_of_nonneg h.lo
 refine ⟨g.1,g.2.1,by rw [e1] at g; exact g.2.2,?_⟩
 have:=m.sy _ _ r _ h.mem d.2.toNat (by omega) _ (aE g.1 g.2.1)
 rwa [e1] at this
theorem Dt.nx (h:Dt L d) (m:aH L):Dt L (nx L d):=by
 obtain ⟨a,b,c,f⟩:=h.back m
 exact ⟨a,b,zr f⟩
theorem eY (m:aH L) (h1:Dt L d) (h2:Dt L e) (h:Gm.nx L d = Gm.nx L e):d = e:=by
 obtain ⟨a,b,c,f⟩:=h1.back m
 obtain ⟨a',b',c',f'⟩:=h2.back m
 unfold Gm.nx at h
 have e2:d.2 = e.2:=congrArg Prod.fst h
 have e3:pre (rowOf L d.2) d.1 = pre (rowOf L e.2) e.1:=congrArg Prod.snd h
 rw [← e2] at e3 f'
 exact Prod.ext (zt (m.nd _ _ (aE a b)) f f' e3) e2
def eL (L:List (List Int)):Nat→List au
 | 0=>[]
 | k + 1=>eL L k ++ (rowOf L k).map fun x=>((k:Int),x)
theorem jG:∀ {k:Nat},d∈eL L k↔0≤d.1∧d.1 < k∧d.2∈rowOf L d.1
 | 0=>by simp only [eL,List.not_mem_nil,false_iff]; intro h; omega
 | k + 1=>by
  rw [eL,List.mem_append,jG,List.mem_map]
  constructor
  ·rintro (⟨h1,h2,h3⟩ | ⟨x,hx,rfl⟩)
   ·exact ⟨h1,by omega,h3⟩
   ·exact ⟨by simp,by simp; omega,hx⟩
  ·rintro ⟨h1,h2,h3⟩
   by_cases e:d.1 = k
   ·right
    rw [e] at h3
    exact ⟨d.2,h3,Prod.ext e.symm rfl⟩
   ·left; exact ⟨h1,by omega,h3⟩
theorem dA (m:aH L):∀ {k:Nat},k≤L.length→(eL L k).Nodup
 | 0,_=>.nil
 | k + 1,h=>by
  rw [eL,List.nodup_append]
  refine ⟨dA m (by omega),?_,fun a ha b hb z=>?_⟩
  ·have n:=m.nd _ _ (aE (L:=L) (a:=(k:Int)) (by omega) (by omega))
   exact List.Pairwise.map _ (fun x y lX z=>lX (congrArg Prod.snd z)) n
  ·have:=(jG.mp ha).2.1
   obtain ⟨x,_,rfl⟩:=List.mem_map.mp hb
   rw [z] at this
   simp at this
theorem Dt.all (h:Dt L d):d∈eL L L.length:=jG.mpr ⟨h.lo,h.hi,h.mem⟩
theorem Dt.of (h:d∈eL L L.length):Dt L d:=by have:=jG.mp h; exact ⟨this.1,this.2.1,this.2.2⟩
def it (L:List (List Int)) (d:au):Nat→au
 | 0=>d
 | k + 1=>Gm.nx L (it L d k)
theorem jk (m:aH L) (h:Dt L d):∀ k,Dt L (it L d k)
 | 0=>h
 | k + 1=>(jk m h k).nx m
theorem kH (i:Nat):∀ k,it L d (i + k) = it L (it L d i) k
 | 0=>rfl
 | k + 1=>by show Gm.nx L (it L d (i + k)) = Gm.nx L (it L (it L d i) k); rw [kH i k]
theorem uj (m:aH L) (h:Dt L d) {k:Nat}:∀ i,it L d i = it L d (i + k)→it L d k = d
 | 0,e=>by rw [Nat.zero_add] at e; exact e.symm
 | i + 1,e=>by
  rw [Nat.add_right_comm] at e
  exact uj m h i (eY m (jk m h _) (jk m h _) e)
def gk (L:List (List Int)) (d:au) (k:Nat):Prop:=∀ i,0 < i→i < k→it L d i≠d
def tr (L:List (List Int)) (d:au) (k:Nat):List au:=(List.range k).map (it L d)
theorem hV (m:aH L) (h:Dt L d) {k:Nat} (n:gk L d k):(tr L d k).Nodup:=by
 unfold tr
 refine List.Pairwise.map _ (R:=fun a b=>a < b∧a < k∧b < k) (fun a b GQ z=>?_) ?_
 ·obtain ⟨j,rfl⟩:∃ j,b = a + j:=⟨b - a,by omega⟩
  exact n j (by omega) (by omega) (uj m h a z)
 ·have:=List.pairwise_lt_range (n:=k)
  refine List.Pairwise.imp_of_mem (fun ha hb GQ=>⟨GQ,List.mem_range.mp ha,List.mem_range.mp hb⟩) this
theorem km (m:aH L) (h:Dt L d) {k:Nat} (n:gk L d k):k≤(eL L L.length).length:=by
 have:=eZ (hV m h n) (r:=eL L L.length) fun x hx=>by
  obtain ⟨i,_,rfl⟩:=List.mem_map.mp hx
  exact (jk m h i).all
 simpa [tr] using this
def dj (r:List Int) (j:Nat):au:=(cy r j,cy r (j + 1))
structure Good (L:List (List Int)) (r:List Int):Prop where
 two:2≤r.length
 dt:∀ j,Dt L (dj r j)
 st:∀ j,Gm.nx L (dj r j) = dj r (j + 1)
def sh (s:Nat) (r:List Int):List au:=(List.range r.length).map fun j=>dj r (j + s)
theorem gf {r:List Int} {i j:Nat} (h:i % r.length = j % r.length):dj r i = dj r j:=by
 unfold dj
 rw [kZ h,kZ (show (i + 1) % r.length = (j + 1) % r.length by rw [Nat.add_mod,h,← Nat.add_mod])]
theorem y9 (r:List Int) (s:Nat):(sh (s + 1) r).Perm (sh s r):=by
 unfold sh
 cases hn:r.length with
 | zero=>exact List.Perm.refl _
 | succ n=>
  have e1:(List.range (n + 1)).map (fun j=>dj r (j + (s + 1))) = (List.range n).map (fun j=>dj r (j + (s + 1))) ++ [dj r (n + (s + 1))]:=by rw [List.range_succ,List.map_append]; rfl
  have e2:(List.range (n + 1)).map (fun j=>dj r (j + s)) = dj r s :: (List.range n).map (fun j=>dj r (j + (s + 1))):=by
   rw [List.range_succ_eq_map,List.map_cons,List.map_map,Nat.zero_add]
   congr 1
   refine List.map_congr_left fun j _=>?_
   show dj r (j + 1 + s) = _
   congr 1
   omega
  have e3:dj r (n + (s + 1)) = dj r s:=gf (by rw [hn,show n + (s + 1) = s + (n + 1) by omega,Nat.add_mod_right])
  rw [e1,e2,e3]
  exact List.perm_append_singleton _ _
theorem fB (r:List Int):∀ s,(sh s r).Perm (sh 0 r)
 | 0=>List.Perm.refl _
 | s + 1=>(y9 r s).trans (fB r s)
theorem eI {r:List Int} {s:Nat} (h0:0 < r.length):d∈sh s r↔∃ j,d = dj r j:=by
 rw [(fB r s).mem_iff]
 unfold sh
 rw [List.mem_map]
 constructor
 ·rintro ⟨j,_,rfl⟩; exact ⟨_,rfl⟩
 ·rintro ⟨j,rfl⟩
  exact ⟨j % r.length,List.mem_range.mpr (Nat.mod_lt _ h0),gf (by rw [Nat.add_zero,Nat.mod_mod])⟩
theorem oK {r:List Int} {k:Nat} (h:k < r.length) (j:Nat):dj (cz r k) j = dj r (j + k):=by
 unfold dj
 rw [gP h,gP h]
 congr 2
 omega
theorem wq {r:List Int} {k:Nat} (h:k < r.length):sh 0 (cz r k) = sh k r:=by
 unfold sh
 rw [cV (by omega)]
 exact List.map_congr_left fun j _=>oK h j
theorem Good.cz {r:List Int} {k:Nat} (g:Good L r) (h:k < r.length):Good L (Gm.cz r k):=by
 refine ⟨by rw [cV (by omega)]; exact g.two,fun j=>by rw [oK h]; exact g.dt _,fun j=>?_⟩
 rw [oK h,oK h,g.st]
 congr 1
 omega
def az (L:List (List Int)) (d:au) (k:Nat):List Int:=(List.range k).map fun i=>(it L d i).1
theorem Ct {k:Nat} (e:it L d k = d) (j:Nat):it L d (j + k) = it L d j:=by rw [Nat.add_comm,kH,e]
theorem sg {k:Nat} (e:it L d k = d) (j:Nat):it L d (j % k) = it L d j:=by
 have go:∀ q,it L d (j % k + k * q) = it L d (j % k):=by
  intro q
  induction q with
  | zero=>rfl
  | succ q ih=>rw [Nat.mul_succ,← Nat.add_assoc,Ct e,ih]
 rw [← go (j / k),Nat.mod_add_div]
theorem uy {k:Nat} (hk:0 < k) (e:it L d k = d) (j:Nat):cy (az L d k) j = (it L d j).1:=by
 have hl:(az L d k).length = k:=by unfold az; simp
 have hm:=Nat.mod_lt j hk
 unfold cy
 rw [hl]
 unfold az
 rw [List.getD_eq_getElem?_getD,List.getElem?_map,List.getElem?_range hm]
 show (it L d (j % k)).1 = _
 rw [sg e]
theorem fN {k:Nat} (hk:0 < k) (e:it L d k = d) (j:Nat):dj (az L d k) j = it L d j:=by
 unfold dj
 rw [uy hk e,uy hk e]
 rfl
theorem mK (m:aH L) (h:Dt L d) {k:Nat} (hk:0 < k) (e:it L d k = d):Good L (az L d k):=by
 refine ⟨?_,fun j=>by rw [fN hk e]; exact jk m h j,fun j=>by rw [fN hk e,fN hk e]; rfl⟩
 have hl:(az L d k).length = k:=by unfold az; simp
 rw [hl]
 by_cases z:k = 1
 ·subst z
  have:=(h.back m).2.2.1
  exact absurd (congrArg Prod.fst e) this
 ·omega
theorem rB (m:aH L) (h:Dt L d) {k:Nat} (hk:0 < k) (e:it L d k = d) (n:gk L d k):(sh 0 (az L d k)).Nodup:=by
 have hl:(az L d k).length = k:=by unfold az; simp
 have:sh 0 (az L d k) = tr L d k:=by
  unfold sh tr
  rw [hl]
  exact List.map_congr_left fun j _=>by rw [fN hk e,Nat.add_zero]
 rw [this]
 exact hV m h n
def uD (r:List Int):Prop:=∀ k,k < r.length→Le r (cz r k)
theorem mU {r:List Int} {k:Nat} (hk:k < r.length) (h:∀ j,j < r.length→Le (cz r k) (cz r j)):uD (cz r k):=fun i hi=>by
 rw [cV (by omega)] at hi
 rw [tL hk hi]
 exact h _ (Nat.mod_lt _ (by omega))
structure dw (L R:List (List Int)):Prop where
 good:∀ r∈R,Good L r
 least:∀ r∈R,uD r
 sorted:R.Pairwise (fun a b=>HT.lexLt a b = true)
 nd:(R.flatMap (sh 0)).Nodup
 all:∀ d,Dt L d→d∈R.flatMap (sh 0)
structure Lp (L R:List (List Int)) (ks:List au):Prop where
 good:∀ r∈R,Good L r
 least:∀ r∈R,uD r
 nd:ks.Nodup
 pm:ks.Perm (R.flatMap (sh 0))
 two:2 * R.length≤ks.length
theorem Lp.start:Lp L [] []:=⟨by simp,by simp,.nil,.nil,Nat.le_refl _⟩
theorem Lp.dt {R:List (List Int)} {ks:List au} (p:Lp L R ks) (h:d∈ks):Dt L d:=by
 obtain ⟨r,hr,hd⟩:=List.mem_flatMap.mp (p.pm.mem_iff.mp h)
 obtain ⟨j,rfl⟩:=(eI (by have:=(p.good r hr).two; omega)).mp hd
 exact (p.good r hr).dt j
theorem Lp.len {R:List (List Int)} {ks:List au} (p:Lp L R ks):ks.length≤(eL L L.length).length:=eZ p.nd fun x hx=>(p.dt hx).all
theorem Lp.on {R:List (List Int)} {ks:List au} (p:Lp L R ks) (h:d∈ks):∀ t,it L d t∈ks:=by
 intro t
 obtain ⟨r,hr,hd⟩:=List.mem_flatMap.mp (p.pm.mem_iff.mp h)
 have g:=p.good r hr
 have r0:0 < r.length:=by have:=g.two; omega
 obtain ⟨j,rfl⟩:=(eI r0).mp hd
 have e:it L (dj r j) t = dj r (j + t):=by
  induction t with
  | zero=>rfl
  | succ t ih=>show Gm.nx L (it L (dj r j) t) = _; rw [ih,g.st]; rfl
 rw [e]
 exact p.pm.mem_iff.mpr (List.mem_flatMap.mpr ⟨r,hr,(eI r0).mpr ⟨_,rfl⟩⟩)
theorem Lp.new {R:List (List Int)} {ks:List au} (p:Lp L R ks) {k:Nat} (hk:0 < k) (e:it L d k = d) (n:d∉ks) (j:Nat):it L d j∉ks:=by
 intro h
 refine n ?_
 have:=p.on h (k * j - j)
 rw [← kH,show j + (k * j - j) = k * j from by have:=Nat.le_mul_of_pos_left j hk; omega,Nat.mul_comm] at this
 have z:=sg e (j * k)
 rw [Nat.mul_mod_left] at z
 rw [← z] at this
 exact this
theorem Lp.add {R:List (List Int)} {ks:List au} (m:aH L) (p:Lp L R ks) (h:Dt L d) {k c:Nat} (hk:0 < k) (e:it L d k = d) (nr:gk L d k) (n:d∉ks) (hc:c < k) (hl:∀ j,j < k→Le (Gm.cz (az L d k) c) (Gm.cz (az L d k) j)) :
  Lp L (R ++ [Gm.cz (az L d k) c]) (ks ++ sh (k - 1) (az L d k)):=by
 have zl:(az L d k).length = k:=by unfold az; simp
 have g:=mK m h hk e
 have uo:c < (az L d k).length:=by rw [zl]; exact hc
 refine ⟨fun r hr=>?_,fun r hr=>?_,?_,?_,?_⟩
 ·rcases List.mem_append.mp hr with z | z
  ·exact p.good r z
  ·rw [List.mem_singleton.mp z]; exact g.cz uo
 ·rcases List.mem_append.mp hr with z | z
  ·exact p.least r z
  ·rw [List.mem_singleton.mp z]; exact mU uo (by rw [zl]; exact hl)
 ·rw [List.nodup_append]
  refine ⟨p.nd,((fB _ _).nodup_iff).mpr (rB m h hk e nr),fun a ha b hb z=>?_⟩
  obtain ⟨j,rfl⟩:=(eI (by omega)).mp hb
  rw [fN hk e] at z
  exact p.new hk e n j (z▸ha)
 ·rw [List.flatMap_append,List.flatMap_singleton,wq uo]
  exact p.pm.append ((fB _ _).trans (fB _ _).symm)
 ·have:=g.two
  have:=p.two
  rw [List.length_append,List.length_append,List.length_singleton]
  unfold sh
  rw [List.length_map,List.length_range]
  omega
end
theorem sD {R:List (List Int)} (h:(R.flatMap (sh 0)).Nodup) (n:∀ r∈R,2≤r.length):R.Nodup:=by
 have:=(List.pairwise_flatMap.mp h).2
 refine List.Pairwise.imp_of_mem (fun {a b} ha hb GQ z=>?_) this
 subst z
 have r0:0 < a.length:=by have:=n a ha; omega
 exact GQ (dj a 0) ((eI r0).mpr ⟨0,rfl⟩) (dj a 0) ((eI r0).mpr ⟨0,rfl⟩) rfl
end Gm
end
section
namespace Gm
open PySem L2
theorem tW {α : Type} {d : α} {L:List α} {p:Array Nat} (i:Nat):(pick d L p)[i]? = (p[i]?).map fun j=>L.getD j d:=by unfold pick; simp
theorem range_getD {α : Type} {d : α} (L:List α):((List.range L.length).map fun i=>L.getD i d) = L:=by
 apply List.ext_getElem?
 intro i
 rw [List.getElem?_map]
 by_cases h:i < L.length
 ·simp [h]
 ·simp [h]
theorem dz {α : Type} {d : α} {L:List α} {p:Array Nat} (h:Arr L.length p):(pick d L p).Perm L:=by
 have e:=range_getD (d:=d) L
 have:p.toList.Perm (List.range L.length):=by have:=h.perm; rw [Array.perm_iff_toList_perm] at this; simpa using this
 have q:=this.map fun i=>L.getD i d
 rw [e] at q
 exact q
theorem kb {α : Type} {d : α} {L:List α} {p:Array Nat} {n:Nat} (h:Arr n p):(pick d L p).length = n:=by unfold pick; simp [h.size]
theorem aN.pick {H:Hp} {t q:Addr} {as:List Addr} {R:List (List Int)} {p:Array Nat} (g:aN H t as R) (h:Arr R.length p) (hq:H q = none):aN (upd H q (.lst ((pick 0 as p).map V.ref))) q (pick 0 as p) (pick [] R p):=by
 refine ⟨ae,by rw [kb h,kb h],fun i a l h1 h2=>?_⟩
 rw [tW] at h1 h2
 cases e:p[i]? with
 | none=>rw [e] at h1; cases h1
 | some j=>
  rw [e] at h1 h2
  have hi:i < p.size:=by
   rcases Nat.lt_or_ge i p.size with z | z
   ·exact z
   ·rw [Array.getElem?_eq_none z] at e; cases e
  have hj:j < R.length:=by
   have:=h.lt (i:=i) (by rw [← h.size]; exact hi)
   rw [Array.getD_eq_getD_getElem?,e] at this
   exact this
  have Bb:j < as.length:=by rw [g.len]; exact hj
  have e1:as.getD j 0 = as[j]:=by simp [Bb]
  have e2:R.getD j [] = R[j]:=by simp [hj]
  have vi:as.getD j 0 = a:=Option.some.inj h1
  have qw:R.getD j [] = l:=Option.some.inj h2
  have:=g.row j as[j] R[j] (by simp [Bb]) (by simp [hj])
  rw [← e1,← e2,vi,qw] at this
  rw [aq (aw this hq)]
  exact this
theorem Lp.lands {L R:List (List Int)} {ks:List au} {p:Array Nat} (h:Lp L R ks) (hp:Arr R.length p) (up:Up (fun i=>R.getD i []) p R.length) (all:∀ d,Dt L d→d∈ks):dw L (pick [] R p):=by
 have pm:=dz (d:=([]:List Int)) hp
 have nd:((pick [] R p).flatMap (sh 0)).Nodup:=((pm.flatMap_right (sh 0)).nodup_iff).mpr ((h.pm.nodup_iff).mp h.nd)
 have good:∀ r∈pick [] R p,Good L r:=fun r hr=>h.good r (pm.mem_iff.mp hr)
 refine ⟨good,fun r hr=>h.least r (pm.mem_iff.mp hr),?_,nd,fun d hd=>((pm.flatMap_right (sh 0)).mem_iff).mpr (h.pm.mem_iff.mp (all d hd))⟩
 have n2:=sD nd fun r hr=>(good r hr).two
 refine List.pairwise_iff_getElem.mpr fun i j hi hj Dr=>?_
 have hl:=kb (d:=([]:List Int)) (L:=R) hp
 have at_:∀ k (hk:k < (pick [] R p).length),(pick [] R p)[k] = kf (fun i=>R.getD i []) p k:=fun k hk=>by
  have e:=tW (d:=([]:List Int)) (L:=R) (p:=p) k
  rw [List.getElem?_eq_getElem hk] at e
  unfold kf
  rw [Array.getD_eq_getD_getElem?]
  cases z:p[k]? with
  | none=>rw [z] at e; cases e
  | some m=>rw [z] at e; exact Option.some.inj e
 have le:Le (pick [] R p)[i] (pick [] R p)[j]:=by rw [at_ i hi,at_ j hj]; exact up.le (by omega) (by omega)
 cases q:HT.lexLt (pick [] R p)[i] (pick [] R p)[j] with
 | true=>rfl
 | false=>
  have:=(List.getElem_inj n2).mp (ir q le)
  omega
def gz (d:au):List Key:=[.inl d.1,.inl d.2]
def kD (ks:List au):List (List Key×V):=ks.map fun d=>(gz d,V.bl true)
theorem xK {d e:au} (h:gz d = gz e):d = e:=by
 unfold gz at h
 simp only [List.cons.injEq,Sum.inl.injEq,and_true] at h
 exact Prod.ext h.1 h.2
theorem fe:∀ (ks:List au) (d:au),(fT (kD ks) (gz d)).isSome = decide (d∈ks)
 | [],d=>rfl
 | e :: ks,d=>by
  unfold kD
  rw [List.map_cons]
  by_cases z:e = d
  ·subst z
   rw [gZ rfl]
   simp
  ·rw [hJ (fun y=>z (xK y))]
   have:=fe ks d
   unfold kD at this
   rw [this]
   have z2:¬ d = e:=fun y=>z y.symm
   simp [z2]
theorem pO {ks:List au} {d:au} (h:d∉ks):putK (kD ks) (gz d) (.bl true) = kD (ks ++ [d]):=by
 rw [w4]
 ·unfold kD; rw [List.map_append]; rfl
 ·have:=fe ks d
  rw [decide_eq_false h] at this
  exact Option.isNone_iff_eq_none.mp (by rw [← Option.not_isSome,this]; rfl)
theorem xN (ks:List au):(kD ks).length = ks.length:=by unfold kD; simp
theorem qB {r:List Int} {k:Nat} (h:k≤r.length):gQ (r.map V.int) (some (k:Int)) none = (r.drop k).map V.int:=by
 unfold gQ HT.lG
 rw [List.length_map]
 dsimp only
 rw [if_neg (by omega),show min ((k:Int).toNat) r.length = k by omega,List.take_of_length_le (by rw [List.length_drop,List.length_map]; omega),List.map_drop]
theorem qA {r:List Int} {k:Nat} (h:k≤r.length):gQ (r.map V.int) none (some (k:Int)) = (r.take k).map V.int:=by
 unfold gQ HT.lG
 rw [List.length_map]
 dsimp only
 rw [if_neg (by omega),show min ((k:Int).toNat) r.length = k by omega,List.drop_zero,Nat.sub_zero,List.map_take]
section
variable {σ : St} {H:Hp} {Q:VK} {K:PySem.W.Frag}
theorem j4 {ty td:TE} (h:ty σ H fun y H1=>td σ H1 fun x H2=>∃ a o,x = .ref a∧jd H2 a y o∧Q (.bl (!o.isSome)) H2):tD ty td σ H Q:=h
theorem rJ {td ty tv:TE} {D:Ends} (h:tv σ H fun v H1=>td σ H1 fun x H2=>ty σ H2 fun y H3=>∃ a H4,x = .ref a∧qS H3 a y v H4∧D.nx σ H4):AW td ty tv D σ H:=h
theorem fj {a:Addr} {i k n:Nat} {r:List Int} (h1 : σ[i]? = some (some (.ref a))) (h2 : σ[k]? = some (some (.int (n:Int)))) (hs:ay K H a (r.map V.int)) (hn:n≤r.length) (q:∀ p,H p = none→Q (.ref p) (upd H p (.lst ((r.drop n).map V.int)))) :
  yW (nV K) (fS i) (mE (fS k)) dD σ H Q:=⟨_,h1,⟨_,h2,⟨_,rfl,⟨a,_,rfl,hs,fun p hp=>by rw [qB hn]; exact q p hp⟩⟩⟩⟩
theorem fD {a:Addr} {i k n:Nat} {r:List Int} (h1 : σ[i]? = some (some (.ref a))) (h2 : σ[k]? = some (some (.int (n:Int)))) (hs:ay K H a (r.map V.int)) (hn:n≤r.length) (q:∀ p,H p = none→Q (.ref p) (upd H p (.lst ((r.take n).map V.int)))) :
  yW (nV K) (fS i) dD (mE (fS k)) σ H Q:=⟨_,h1,⟨_,h2,⟨_,rfl,⟨a,_,rfl,hs,fun p hp=>by rw [qA hn]; exact q p hp⟩⟩⟩⟩
end
theorem aN.snoc {H:Hp} {t b:Addr} {bs:List Addr} {R:List (List Int)} {l:List Int} (g:aN H t bs R) (nt:t∉bs) (nb:b≠t) (hb:H b = some (.lst (l.map V.int))):aN (upd H t (.lst (bs.map V.ref ++ [.ref b]))) t (bs ++ [b]) (R ++ [l]):=by
 refine ⟨by rw [List.map_append]; exact ae,by rw [List.length_append,List.length_append,g.len]; rfl,fun i a m h1 h2=>?_⟩
 rcases Nat.lt_or_ge i bs.length with hi | hi
 ·rw [List.getElem?_append_left hi] at h1
  rw [List.getElem?_append_left (by rw [← g.len]; exact hi)] at h2
  have am:=List.mem_of_getElem? h1
  have ne:a≠t:=fun z=>nt (by rw [← z]; exact am)
  rw [aq ne]
  exact g.row i a m h1 h2
 ·rw [List.getElem?_append_right hi] at h1
  rw [List.getElem?_append_right (by rw [← g.len]; exact hi),← g.len] at h2
  have:i - bs.length = 0:=by
   have:=(List.getElem?_eq_some_iff.mp h1).1
   rw [List.length_singleton] at this
   omega
  rw [this] at h1 h2
  simp at h1 h2
  subst h1 h2
  rw [aq nb]
  exact hb
theorem aN.other {H:Hp} {t g:Addr} {bs:List Addr} {R:List (List Int)} {aI:List (List Key×V)} {o:HO} (h:aN H t bs R) (hg:H g = some (.dT aI)):aN (upd H g o) t bs R:=by
 refine ⟨?_,h.len,fun i a l h1 h2=>?_⟩
 ·rw [aq (fun z=>by have:=h.top; rw [z,hg] at this; cases this)]; exact h.top
 ·have:=h.row i a l h1 h2
  rw [aq (fun z=>by rw [z,hg] at this; cases this)]; exact this
theorem aN.ft {H:Hp} {t b:Addr} {bs:List Addr} {R:List (List Int)} (g:aN H t bs R) (hb:H b = none):b∉t :: bs:=fun z=>by
 rcases List.mem_cons.mp z with z | z
 ·rw [z,g.top] at hb; cases hb
 ·obtain ⟨k,hk,ET⟩:=List.mem_iff_getElem.mp z
  have kl:k < R.length:=by rw [← g.len]; exact hk
  have:=g.row k b _ (by rw [List.getElem?_eq_getElem hk,ET]) (List.getElem?_eq_getElem kl)
  rw [hb] at this; cases this
theorem d9 {α : Type} {A B:List α} {x : α} {j:Nat} (h:(A ++ B).Nodup) (e:B[j]? = some x):x∉A ++ B.take j:=by
 obtain ⟨h1,h2,h3⟩:=List.nodup_append.mp h
 intro z
 rcases List.mem_append.mp z with z | z
 ·exact h3 x z x (List.mem_of_getElem? e) rfl
 ·obtain ⟨hj,ex⟩:=List.getElem?_eq_some_iff.mp e
  obtain ⟨i,hi,ei⟩:=List.mem_iff_getElem.mp z
  rw [List.getElem_take] at ei
  rw [List.length_take] at hi
  have:=(List.getElem_inj h2).mp (ei.trans ex.symm)
  omega
theorem cW (s:Nat) (r:List Int):(sh s r).length = r.length:=by unfold sh; simp
theorem AV {s:Nat} {r:List Int} {j:Nat} (h:j < r.length):(sh s r)[j]? = some (dj r (j + s)):=by unfold sh; simp [h]
theorem take_snoc {α : Type} {l:List α} {j:Nat} {x : α} (h:l[j]? = some x):l.take (j + 1) = l.take j ++ [x]:=by rw [List.take_succ,h]; rfl
theorem fg {l:List Addr} {x:Addr}:(l ++ [x]).Nodup↔x∉l∧l.Nodup:=by rw [(List.perm_append_singleton x l).nodup_iff,List.nodup_cons]
def Vs (g:Addr) (H H':Hp):Prop:=∀ b o,b≠g→H b = some o→H' b = some o
def fl (R:List (List Int)) (k:Nat):List au:=(R.take k).flatMap fun r=>sh (r.length - 2) r
theorem sH {L:List (List Int)} (m:aH L):∀ {k:Nat},k≤L.length→(eL L k).length≤k * (L.length - 1)
 | 0,_=>Nat.zero_le _
 | k + 1,h=>by
  have i:=sH m (k:=k) (by omega)
  have e:=aE (L:=L) (a:=(k:Int)) (by omega) (by omega)
  have n:(rowOf L (k:Int)).length≤L.length - 1:=by
   have n1:((k:Int) :: rowOf L (k:Int)).Nodup:=List.nodup_cons.mpr ⟨fun z=>by have:=m.rg _ _ e _ z; rw [Int.toNat_natCast] at this; exact this.2.2 rfl,m.nd _ _ e⟩
   have:=cZ (n:=L.length) n1 fun x hx=>by
    rcases List.mem_cons.mp hx with z | z
    ·omega
    ·have:=m.rg _ _ e _ z; exact ⟨this.1,this.2.1⟩
   rw [List.length_cons] at this
   omega
  rw [eL,List.length_append,List.length_map,Nat.succ_mul]
  omega
theorem m9 {L:List (List Int)} (m:aH L) (h:L.length≤11):(eL L L.length).length < 128:=by
 have h1:=sH m (Nat.le_refl L.length)
 have h2:L.length * (L.length - 1)≤11 * 10:=Nat.mul_le_mul h (by omega)
 omega
theorem jY {r:List Int} {i:Nat} (hi:i < r.length):cz r i = cy r i :: (r.drop (i + 1) ++ r.take i):=by
 unfold cz
 rw [List.drop_eq_getElem_cons hi,iD hi]
 rfl
theorem BN {r:List Int} {i j:Nat} (hi:i < r.length) (hj:j < r.length) (h:cy r i < cy r j):HT.lexLt (cz r i) (cz r j) = true:=by
 rw [jY hi,jY hj,HT.eJ,if_neg (by omega)]
 exact decide_eq_true h
end Gm
end
section
namespace Gm
open PySem L2
def dF:Int→List Int→Int→Int
 | p,[],_=>p
 | p,h :: t,x=>if h = x then p else dF h t x
def lst (l:List Int):Int:=l.getD (l.length - 1) 0
theorem kr (h:Int) {t:List Int} (n:t≠[]):lst (h :: t) = lst t:=by
 unfold lst
 cases t with
 | nil=>exact absurd rfl n
 | cons a t=>simp
theorem fK (u:List Int) {v:List Int} (n:v≠[]):lst (u ++ v) = lst v:=by
 induction u with
 | nil=>rfl
 | cons h t ih=>rw [List.cons_append,kr h (by simp [n]),ih]
theorem zJ {l:List Int} (n:l≠[]):lst l∈l:=by
 unfold lst
 have:l.length - 1 < l.length:=by have:=List.length_pos_iff.mpr n; omega
 simp [this]
theorem tY:∀ {l:List Int} {p x:Int},x∈l→dF p l x = if l.idxOf x = 0 then p else l.getD (l.idxOf x - 1) 0
 | [],_,_,h=>by cases h
 | h :: t,p,x,hx=>by
  unfold dF
  rw [List.idxOf_cons]
  by_cases e:h = x
  ·rw [if_pos e,e]; simp
  ·rw [if_neg e]
   have e2:(h == x) = false:=beq_false_of_ne e
   rw [e2]
   have CA:x∈t:=(List.mem_cons.mp hx).resolve_left (fun z=>e z.symm)
   rw [tY CA]
   simp only [cond_false]
   rw [if_neg (Nat.succ_ne_zero _)]
   cases q:t.idxOf x with
   | zero=>simp
   | succ k=>simp
theorem h8 {l:List Int} {x:Int} (h:x∈l):pre l x = dF (lst l) l x:=by
 have ix:=List.idxOf_lt_length_of_mem h
 rw [tY h]
 unfold pre cy lst
 rw [md ix]
 split <;> rfl
theorem n8:∀ (l:List Int) (p x:Int),dF p l x = p∨dF p l x∈l
 | [],p,x=>.inl rfl
 | h :: t,p,x=>by
  unfold dF
  by_cases e:h = x
  ·rw [if_pos e]; exact .inl rfl
  ·rw [if_neg e]
   rcases n8 t h x with z | z
   ·rw [z]; exact .inr List.mem_cons_self
   ·exact .inr (List.mem_cons_of_mem _ z)
theorem mO:∀ {l:List Int} {p x y:Int},l.Nodup→p≠y→x∈l→x≠y→dF p (l.erase y) x = if dF p l x = y then dF p l y else dF p l x
 | [],_,_,_,_,_,h,_=>by cases h
 | h :: t,p,x,y,n,hp,hx,lX=>by
  obtain ⟨n1,n2⟩:=List.nodup_cons.mp n
  by_cases e:h = y
  ·subst e
   rw [List.erase_cons_head]
   have CA:x∈t:=(List.mem_cons.mp hx).resolve_left lX
   have a1:dF p (h :: t) x = dF h t x:=by show (if h = x then p else dF h t x) = _; rw [if_neg (fun z=>lX z.symm)]
   have a2:dF p (h :: t) h = p:=by show (if h = h then p else dF h t h) = _; rw [if_pos rfl]
   rw [a1,a2]
   cases t with
   | nil=>cases CA
   | cons k s=>
    by_cases e2:k = x
    ·have b1:dF p (k :: s) x = p:=by show (if k = x then p else dF k s x) = _; rw [if_pos e2]
     have b2:dF h (k :: s) x = h:=by show (if k = x then h else dF k s x) = _; rw [if_pos e2]
     rw [b1,b2,if_pos rfl]
    ·have b1:dF p (k :: s) x = dF k s x:=by show (if k = x then p else dF k s x) = _; rw [if_neg e2]
     have b2:dF h (k :: s) x = dF k s x:=by show (if k = x then h else dF k s x) = _; rw [if_neg e2]
     rw [b1,b2,if_neg]
     intro z
     rcases n8 s k x with y | y
     ·rw [y] at z; exact n1 (by rw [← z]; exact List.mem_cons_self)
     ·rw [z] at y; exact n1 (List.mem_cons_of_mem _ y)
  ·rw [List.erase_cons_tail (by simpa using e)]
   by_cases e2:h = x
   ·have b1:∀ s,dF p (h :: s) x = p:=fun s=>by show (if h = x then p else dF h s x) = _; rw [if_pos e2]
    rw [b1,b1,if_neg hp]
   ·have CA:x∈t:=(List.mem_cons.mp hx).resolve_left (fun z=>e2 z.symm)
    have b1:∀ s,dF p (h :: s) x = dF h s x:=fun s=>by show (if h = x then p else dF h s x) = _; rw [if_neg e2]
    have b2:dF p (h :: t) y = dF h t y:=by show (if h = y then p else dF h t y) = _; rw [if_neg e]
    rw [b1,b1,b2]
    exact mO n2 e CA lX
theorem pU:∀ {u:List Int} {w:List Int} {p x:Int},x∈u→dF p (u ++ w) x = dF p u x
 | [],_,_,_,h=>by cases h
 | h :: t,w,p,x,hx=>by
  show (if h = x then p else dF h (t ++ w) x) = if h = x then p else dF h t x
  by_cases e:h = x
  ·rw [if_pos e,if_pos e]
  ·rw [if_neg e,if_neg e]
   exact pU ((List.mem_cons.mp hx).resolve_left (fun z=>e z.symm))
theorem tZ:∀ {u:List Int} {p y:Int},y∉u→dF p (u ++ [y]) y = if u = [] then p else lst u
 | [],p,y,_=>by show (if y = y then p else dF y [] y) = _; rw [if_pos rfl,if_pos rfl]
 | h :: t,p,y,n=>by
  have e:h≠y:=fun z=>n (by rw [z]; exact List.mem_cons_self)
  show (if h = y then p else dF h (t ++ [y]) y) = _
  rw [if_neg e,if_neg (by simp),tZ (fun z=>n (List.mem_cons_of_mem _ z))]
  by_cases q:t = []
  ·subst q; rw [if_pos rfl]; rfl
  ·rw [if_neg q,kr h q]
theorem mL {l:List Int} {x y:Int} (n:l.Nodup) (hx:x∈l) (hy:y∈l) (lX:x≠y):pre (l.erase y) x = if pre l x = y then pre l y else pre l x:=by
 have Ke:x∈l.erase y:=(List.mem_erase_of_ne lX).mpr hx
 rw [h8 Ke,h8 hx,h8 hy]
 obtain ⟨u,v,rfl⟩:=List.append_of_mem hy
 obtain ⟨n1,n2,n3⟩:=List.nodup_append.mp n
 obtain ⟨n4,n5⟩:=List.nodup_cons.mp n2
 have yu:y∉u:=fun z=>n3 y z y List.mem_cons_self rfl
 have ee:(u ++ y :: v).erase y = u ++ v:=by rw [List.erase_append_right _ yu,List.erase_cons_head]
 by_cases q:v = []
 ·subst q
  rw [ee,List.append_nil]
  have xu:x∈u:=by
   rcases List.mem_append.mp hx with z | z
   ·exact z
   ·exact absurd (List.mem_singleton.mp z) lX
  have u0:u≠[]:=fun z=>by rw [z] at xu; cases xu
  rw [fK u (v:=[y]) (by simp),pU xu,tZ yu,if_neg u0]
  show dF (lst u) u x = if dF y u x = y then lst u else dF y u x
  cases u with
  | nil=>cases xu
  | cons h t=>
   by_cases e:h = x
   ·have b:∀ q,dF q (h :: t) x = q:=fun q=>by show (if h = x then q else dF h t x) = _; rw [if_pos e]
    rw [b,b,if_pos rfl]
   ·have b:∀ q,dF q (h :: t) x = dF h t x:=fun q=>by show (if h = x then q else dF h t x) = _; rw [if_neg e]
    rw [b,b,if_neg]
    intro z
    rcases n8 t h x with w | w
    ·rw [w] at z; exact yu (by rw [← z]; exact List.mem_cons_self)
    ·rw [z] at w; exact yu (List.mem_cons_of_mem _ w)
 ·have e1:lst (u ++ y :: v) = lst v:=by rw [fK u (by simp),kr y q]
  have e2:lst ((u ++ y :: v).erase y) = lst v:=by rw [ee,fK u q]
  rw [e1,e2]
  exact mO n (fun z=>n4 (by rw [← z]; exact zJ q)) hx lX
theorem j5 {l:List Int} {x:Int} (n:l.Nodup) (hx:x∈l) (h:pre l x = x):l = [x]:=by
 have ix:=List.idxOf_lt_length_of_mem hx
 unfold pre cy at h
 have mx:=Nat.mod_lt (l.idxOf x + l.length - 1) (show 0 < l.length by omega)
 have e1:l.getD ((l.idxOf x + l.length - 1) % l.length) 0 = l[(l.idxOf x + l.length - 1) % l.length]:=by simp [mx]
 rw [e1] at h
 have g:=List.getElem_idxOf ix
 have e:=(List.getElem_inj n).mp (h.trans g.symm)
 rw [md ix] at e
 have l1:l.length = 1:=by split at e <;> omega
 match l,l1,hx with
 | [z],_,hx=>rw [List.mem_singleton.mp hx]
theorem iw {L:List (List Int)} (h:∀ x:Int,0≤x→x < L.length→(rowOf L x).Nodup∧∀ y∈rowOf L x,0≤y∧y < L.length∧y≠x∧x∈rowOf L y):aH L:=by
 have at_:∀ (i:Nat) (l:List Int),L[i]? = some l→rowOf L (i:Int) = l∧(i:Int) < L.length:=fun i l e=>by
  have hi:=(List.getElem?_eq_some_iff.mp e).1
  have:=aE (L:=L) (a:=(i:Int)) (by omega) (by omega)
  rw [Int.toNat_natCast,e] at this
  exact ⟨(Option.some.inj this).symm,by omega⟩
 refine ⟨fun i l e=>?_,fun i l e x hx=>?_,fun i l e x hx j hj m em=>?_⟩
 ·obtain ⟨e1,e2⟩:=at_ i l e
  rw [← e1]; exact (h i (by omega) e2).1
 ·obtain ⟨e1,e2⟩:=at_ i l e
  rw [← e1] at hx
  have:=(h i (by omega) e2).2 x hx
  exact ⟨this.1,this.2.1,this.2.2.1⟩
 ·obtain ⟨e1,e2⟩:=at_ i l e
  obtain ⟨e3,e4⟩:=at_ j m em
  rw [← e1] at hx
  have:=((h i (by omega) e2).2 x hx).2.2.2
  rw [hj,e3] at this
  exact this
def rem (L:List (List Int)) (a b:Int):List (List Int):=(L.set a.toNat ((rowOf L a).erase b)).set b.toNat ((rowOf L b).erase a)
section
variable {L:List (List Int)} {a b:Int}
theorem jE:(rem L a b).length = L.length:=by unfold rem; simp
theorem nM (m:aH L) (h:Dt L (a,b)) {x:Int} (hx:0≤x):rowOf (rem L a b) x = if x = b then (rowOf L b).erase a else if x = a then (rowOf L a).erase b else rowOf L x:=by
 obtain ⟨b0,b1,b2,b3⟩:=h.back m
 have a0:=h.lo
 have a1:=h.hi
 dsimp only at a0 a1 b0 b1 b2 b3
 show (rem L a b).getD x.toNat [] = _
 unfold rem
 rw [List.getD_eq_getElem?_getD,List.getElem?_set]
 by_cases e:x = b
 ·subst e
  rw [if_pos rfl,if_pos rfl,if_pos (by rw [List.length_set]; omega)]
  rfl
 ·rw [if_neg (by omega),if_neg e,List.getElem?_set]
  by_cases e2:x = a
  ·subst e2
   rw [if_pos rfl,if_pos rfl,if_pos (by omega)]
   rfl
  ·rw [if_neg (by omega),if_neg e2,← List.getD_eq_getElem?_getD]
   rfl
theorem jD (m:aH L) (h:Dt L (a,b)) {x y:Int} (hx:0≤x) (Kf:x < L.length):y∈rowOf (rem L a b) x↔y∈rowOf L x∧¬ (x = a∧y = b)∧¬ (x = b∧y = a):=by
 obtain ⟨b0,b1,b2,b3⟩:=h.back m
 have a0:=h.lo
 have a1:=h.hi
 dsimp only at a0 a1 b0 b1 b2 b3
 rw [nM m h hx]
 by_cases e:x = b
 ·subst e
  rw [if_pos rfl,(m.nd _ _ (aE hx Kf)).mem_erase_iff]
  constructor
  ·rintro ⟨h1,h2⟩; exact ⟨h2,fun z=>b2 z.1,fun z=>h1 z.2⟩
  ·rintro ⟨h1,h2,h3⟩; exact ⟨fun z=>h3 ⟨rfl,z⟩,h1⟩
 ·rw [if_neg e]
  by_cases e2:x = a
  ·subst e2
   rw [if_pos rfl,(m.nd _ _ (aE hx Kf)).mem_erase_iff]
   constructor
   ·rintro ⟨h1,h2⟩; exact ⟨h2,fun z=>h1 z.2,fun z=>e z.1⟩
   ·rintro ⟨h1,h2,h3⟩; exact ⟨fun z=>h2 ⟨rfl,z⟩,h1⟩
  ·rw [if_neg e2]
   exact ⟨fun z=>⟨z,fun y=>e2 y.1,fun y=>e y.1⟩,fun z=>z.1⟩
theorem cP (m:aH L) (h:Dt L (a,b)) {d:au}:Dt (rem L a b) d↔Dt L d∧d≠(a,b)∧d≠(b,a):=by
 constructor
 ·intro q
  have hi:=q.hi
  rw [jE] at hi
  have:=(jD m h q.lo hi).mp q.mem
  exact ⟨⟨q.lo,hi,this.1⟩,fun z=>this.2.1 ⟨congrArg Prod.fst z,congrArg Prod.snd z⟩,fun z=>this.2.2 ⟨congrArg Prod.fst z,congrArg Prod.snd z⟩⟩
 ·rintro ⟨q,h1,h2⟩
  refine ⟨q.lo,by rw [jE]; exact q.hi,(jD m h q.lo q.hi).mpr ⟨q.mem,fun z=>h1 (Prod.ext z.1 z.2),fun z=>h2 (Prod.ext z.1 z.2)⟩⟩
theorem ze (m:aH L) (h:Dt L (a,b)):aH (rem L a b):=by
 refine iw fun x x0 x1=>?_
 rw [jE] at x1
 have n:=m.nd _ _ (aE x0 x1)
 refine ⟨?_,fun y hy=>?_⟩
 ·rw [nM m h x0]
  split
  ·rename_i e; rw [← e]; exact n.erase _
  ·split
   ·rename_i e; rw [← e]; exact n.erase _
   ·exact n
 ·have q:=(jD m h x0 x1).mp hy
  obtain ⟨c0,c1,c2,c3⟩:=Dt.back (d:=(x,y)) ⟨x0,x1,q.1⟩ m
  rw [jE]
  refine ⟨c0,c1,c2,(jD m h c0 c1).mpr ⟨c3,fun z=>q.2.2 ⟨z.2,z.1⟩,fun z=>q.2.1 ⟨z.2,z.1⟩⟩⟩
theorem j3 (m:aH L) (h:Dt L (a,b)) {d:au} (hd:Dt (rem L a b) d) :
  nx (rem L a b) d = if nx L d = (b,a) then nx L (a,b) else if nx L d = (a,b) then nx L (b,a) else nx L d:=by
 obtain ⟨q,h1,h2⟩:=(cP m h).mp hd
 obtain ⟨b0,b1,b2,b3⟩:=h.back m
 obtain ⟨c0,c1,c2,c3⟩:=q.back m
 obtain ⟨x,y⟩:=d
 dsimp only at b0 b1 b2 b3 c0 c1 c2 c3
 have gc:=h.mem
 dsimp only at gc
 unfold nx
 dsimp only
 rw [nM m h c0]
 by_cases e:y = b
 ·subst e
  have xa:x≠a:=fun z=>h1 (by rw [z])
  rw [if_pos rfl,mL (m.nd _ _ (aE c0 c1)) c3 b3 xa]
  by_cases z:pre (rowOf L y) x = a
  ·rw [if_pos z,z,if_pos rfl]
  ·rw [if_neg z,if_neg (fun w=>z (congrArg Prod.snd w)),if_neg (fun w=>b2 (congrArg Prod.fst w))]
 ·rw [if_neg e]
  by_cases e2:y = a
  ·subst e2
   have xb:x≠b:=fun z=>h2 (by rw [z])
   rw [if_pos rfl,mL (m.nd _ _ (aE c0 c1)) c3 gc xb]
   rw [if_neg (fun w=>e (congrArg Prod.fst w))]
   by_cases z:pre (rowOf L y) x = b
   ·rw [if_pos z,z,if_pos rfl]
   ·rw [if_neg z,if_neg (fun w=>z (congrArg Prod.snd w))]
  ·rw [if_neg e2,if_neg (fun w=>e (congrArg Prod.fst w)),if_neg (fun w=>e2 (congrArg Prod.fst w))]
end
end Gm
end
section
namespace Gm
open PySem L2
inductive Wk (f:au→au):au→List au→au→Prop where
 | nil (x:au):Wk f x [] x
 | cons {x y:au} {l:List au}:Wk f (f x) l y→Wk f x (x :: l) y
section
variable {f g:au→au} {x y z w d:au} {l m:List au}
theorem Wk.append (h:Wk f x l y) (k:Wk f y m z):Wk f x (l ++ m) z:=by
 induction h with
 | nil _=>exact k
 | cons _ ih=>exact .cons (ih k)
theorem Wk.split:∀ {l:List au} {x:au},Wk f x (l ++ m) z→∃ y,Wk f x l y∧Wk f y m z
 | [],x,h=>⟨x,.nil x,h⟩
 | a :: l,x,h=>by
  cases h with
  | cons h=>
   obtain ⟨y,h1,h2⟩:=Wk.split h
   exact ⟨y,.cons h1,h2⟩
theorem Wk.nil_eq (h:Wk f x [] y):x = y:=by cases h; rfl
theorem Wk.hd (h:Wk f x (d :: l) y):d = x:=by cases h; rfl
theorem Wk.tl (h:Wk f x (d :: l) y):Wk f (f x) l y:=by cases h; assumption
theorem Wk.on (h:Wk f x l y):∀ d∈l,f d∈l∨f d = y:=by
 induction h with
 | nil _=>intro d hd; cases hd
 | @cons x y l h ih=>
  intro d hd
  rcases List.mem_cons.mp hd with e | e
  ·subst e
   cases h with
   | nil _=>exact .inr rfl
   | cons h=>exact .inl (List.mem_cons_of_mem _ List.mem_cons_self)
  ·rcases ih d e with q | q
   ·exact .inl (List.mem_cons_of_mem _ q)
   ·exact .inr q
theorem Wk.new (h:Wk f x l y) (n:l≠[]) (hy:y∉l) (h1:∀ d∈l,f d = y→g d = w) (h2:∀ d∈l,f d≠y→g d = f d):Wk g x l w:=by
 induction h with
 | nil _=>exact absurd rfl n
 | @cons x y l h ih=>
  cases h with
  | nil _=>
   have:g x = w:=h1 x List.mem_cons_self rfl
   rw [← this]
   exact .cons (.nil _)
  | @cons _ _ l2 h=>
   have ne:f x≠y:=fun q=>hy (by rw [← q]; exact List.mem_cons_of_mem _ List.mem_cons_self)
   have e:=h2 x List.mem_cons_self ne
   refine .cons ?_
   rw [e]
   exact ih (by simp) (fun q=>hy (List.mem_cons_of_mem _ q)) (fun d hd=>h1 d (List.mem_cons_of_mem _ hd)) fun d hd=>h2 d (List.mem_cons_of_mem _ hd)
theorem Wk.congr (h:Wk f x l y) (e:∀ d∈l,g d = f d):Wk g x l y:=by
 induction h with
 | nil _=>exact .nil _
 | @cons x y l h ih=>
  refine .cons ?_
  rw [e x List.mem_cons_self]
  exact ih fun d hd=>e d (List.mem_cons_of_mem _ hd)
end
def qX (f:au→au) (c:List au):Prop:=∃ x l,c = x :: l∧Wk f x c x
section
variable {f:au→au} {c:List au} {d:au}
theorem qX.ne (h:qX f c):c≠[]:=by obtain ⟨x,l,rfl,_⟩:=h; simp
theorem qX.on (h:qX f c) (hd:d∈c):f d∈c:=by
 obtain ⟨x,l,rfl,k⟩:=h
 rcases k.on d hd with q | q
 ·exact q
 ·rw [q]; exact List.mem_cons_self
theorem qX.turn (h:qX f c) (hd:d∈c):∃ v,(d :: v).Perm c∧Wk f (f d) v d:=by
 obtain ⟨x,l,e,k⟩:=h
 obtain ⟨u,v,rfl⟩:=List.append_of_mem hd
 obtain ⟨y,k1,k2⟩:=k.split
 have:=k2.hd
 subst this
 exact ⟨v ++ u,by rw [← List.cons_append]; exact List.perm_append_comm,k2.tl.append k1⟩
end
structure Dec (L:List (List Int)) (R:List (List au)):Prop where
 jt:∀ c∈R,qX (nx L) c
 nd:R.flatten.Nodup
 mem:∀ d,d∈R.flatten↔Dt L d
theorem kd {α : Type} {x : α} {l:List α} (h:x∈l):∃ r,l.Perm (x :: r):=by
 obtain ⟨u,v,rfl⟩:=List.append_of_mem h
 exact ⟨u ++ v,List.perm_middle⟩
theorem Dec.perm {L:List (List Int)} {R S:List (List au)} (h:Dec L R) (p:R.Perm S):Dec L S:=
 ⟨fun c hc=>h.jt c (p.mem_iff.mpr hc),(p.flatten.nodup_iff).mp h.nd,fun d=>by rw [← p.flatten.mem_iff]; exact h.mem d⟩
theorem Dec.swap {L:List (List Int)} {R:List (List au)} {c e:List au} (h:Dec L (c :: R)) (p:e.Perm c) (k:qX (nx L) e):Dec L (e :: R):=by
 have q:(e :: R).flatten.Perm (c :: R).flatten:=by rw [List.flatten_cons,List.flatten_cons]; exact p.append_right _
 refine ⟨fun s hs=>?_,q.nodup_iff.mpr h.nd,fun d=>by rw [q.mem_iff]; exact h.mem d⟩
 rcases List.mem_cons.mp hs with z | z
 ·rw [z]; exact k
 ·exact h.jt s (List.mem_cons_of_mem _ z)
theorem Dec.front {L:List (List Int)} {R:List (List au)} {d:au} (h:Dec L R) (hd:Dt L d):∃ v S,Dec L ((d :: v) :: S)∧R.length = S.length + 1∧Wk (nx L) (nx L d) v d∧(∀ c∈S,c∈R):=by
 obtain ⟨c,hc,Si⟩:=List.mem_flatten.mp ((h.mem d).mpr hd)
 obtain ⟨S,p⟩:=kd hc
 obtain ⟨v,pv,k⟩:=(h.jt c hc).turn Si
 exact ⟨v,S,(h.perm p).swap pv ⟨d,v,rfl,.cons k⟩,p.length_eq,k,fun s hs=>p.mem_iff.mpr (List.mem_cons_of_mem _ hs)⟩
section
variable {L:List (List Int)} {a b:Int}
theorem pL (m:aH L) (h:Dt L (a,b)):(eL L L.length).Perm ((a,b) :: (b,a) :: eL (rem L a b) (rem L a b).length)∧(eL L L.length).length = (eL (rem L a b) (rem L a b).length).length + 2:=by
 obtain ⟨b0,b1,b2,b3⟩:=h.back m
 have hb:Dt L (b,a):=⟨b0,b1,b3⟩
 have n2:((a,b) :: (b,a) :: eL (rem L a b) (rem L a b).length).Nodup:=by
  refine List.nodup_cons.mpr ⟨fun z=>?_,List.nodup_cons.mpr ⟨fun z=>?_,dA (ze m h) (Nat.le_refl _)⟩⟩
  ·rcases List.mem_cons.mp z with z | z
   ·exact b2 (congrArg Prod.fst z).symm
   ·exact ((cP m h).mp (Dt.of z)).2.1 rfl
  ·exact ((cP m h).mp (Dt.of z)).2.2 rfl
 have e:∀ x,x∈eL L L.length↔x∈(a,b) :: (b,a) :: eL (rem L a b) (rem L a b).length:=fun x=>by
  constructor
  ·intro z
   by_cases e1:x = (a,b)
   ·rw [e1]; exact List.mem_cons_self
   ·by_cases e2:x = (b,a)
    ·rw [e2]; exact List.mem_cons_of_mem _ List.mem_cons_self
    ·exact List.mem_cons_of_mem _ (List.mem_cons_of_mem _ ((cP m h).mpr ⟨Dt.of z,e1,e2⟩).all)
  ·intro z
   rcases List.mem_cons.mp z with z | z
   ·rw [z]; exact h.all
   ·rcases List.mem_cons.mp z with z | z
    ·rw [z]; exact hb.all
    ·exact ((cP m h).mp (Dt.of z)).1.all
 have n1:=dA m (Nat.le_refl L.length)
 have l:=len_eq n1 n2 e
 refine ⟨?_,by rw [l]; rfl⟩
 exact (List.perm_iff_count.mpr fun x=>by
  have c:∀ {l:List au},l.Nodup→l.count x = if x∈l then 1 else 0:=fun {l} hn=>by
   by_cases hx:x∈l
   ·rw [if_pos hx]
    have h1:=List.nodup_iff_count.mp hn x
    have h2:=List.count_pos_iff.mpr hx
    omega
   ·rw [if_neg hx,List.count_eq_zero.mpr hx]
  rw [c n1,c n2]
  by_cases hx:x∈eL L L.length
  ·rw [if_pos hx,if_pos ((e x).mp hx)]
  ·rw [if_neg hx,if_neg (fun z=>hx ((e x).mpr z))])
theorem tN {R:List (List au)} (m:aH L) (h:Dt L (a,b)) (D:Dec L R) :
  (∃ A B S,Dec (rem L a b) ((if A = [] then [] else [A]) ++ (if B = [] then [] else [B]) ++ S)∧R.length = S.length + 1∧Wk (nx L) (nx L (a,b)) A (b,a)∧Wk (nx L) (nx L (b,a)) B (a,b))∨
  (∃ A B S,Dec (rem L a b) ((A ++ B) :: S)∧R.length = S.length + 2∧A≠[]∧B≠[]∧Wk (nx (rem L a b)) (nx L (a,b)) A (nx L (b,a))∧Wk (nx (rem L a b)) (nx L (b,a)) B (nx L (a,b))∧(∀ d∈A ++ B,Dt (rem L a b) d)):=by
 obtain ⟨b0,b1,b2,b3⟩:=h.back m
 have hb:Dt L (b,a):=⟨b0,b1,b3⟩
 have ne:(a,b)≠(b,a):=fun z=>b2 (congrArg Prod.fst z).symm
 have spec:∀ d,Dt L d→d≠(a,b)→d≠(b,a)→nx (rem L a b) d = if nx L d = (b,a) then nx L (a,b) else if nx L d = (a,b) then nx L (b,a) else nx L d:=fun d h0 h1 h2=>j3 m h ((cP m h).mpr ⟨h0,h1,h2⟩)
 obtain ⟨v,S,D1,EC,kv,_⟩:=D.front h
 have mT:=D1.nd
 rw [List.flatten_cons,List.cons_append,List.nodup_cons,List.mem_append] at mT
 obtain ⟨rW,zD⟩:=mT
 obtain ⟨QV,QX,QU⟩:=List.nodup_append.mp zD
 have Fn:∀ d∈v,Dt L d:=fun d hd=>(D1.mem d).mp (by rw [List.flatten_cons]; exact List.mem_append_left _ (List.mem_cons_of_mem _ hd))
 by_cases q:(b,a)∈v
 ·left
  obtain ⟨A,B,rfl⟩:=List.append_of_mem q
  obtain ⟨y,kA,kB⟩:=kv.split
  have:=kB.hd
  subst this
  have kB:=kB.tl
  obtain ⟨nA,nB,nX⟩:=List.nodup_append.mp QV
  obtain ⟨JB,UO⟩:=List.nodup_cons.mp nB
  have LS:(b,a)∉A:=fun z=>nX _ z _ List.mem_cons_self rfl
  have Mn:(a,b)∉A:=fun z=>rW (.inl (List.mem_append_left _ z))
  have Mm:(a,b)∉B:=fun z=>rW (.inl (List.mem_append_right _ (List.mem_cons_of_mem _ z)))
  refine ⟨A,B,S,⟨fun c hc=>?_,?_,fun d=>?_⟩,EC,kA,kB⟩
  ·rcases List.mem_append.mp hc with hc | hc
   ·rcases List.mem_append.mp hc with hc | hc
    ·by_cases z:A = []
     ·rw [if_pos z] at hc; cases hc
     ·rw [if_neg z] at hc
      rw [List.mem_singleton.mp hc]
      have k2:Wk (nx (rem L a b)) (nx L (a,b)) A (nx L (a,b)):=kA.new z LS (fun d hd e=>by rw [spec d (Fn d (List.mem_append_left _ hd)) (fun y=>Mn (y▸hd)) (fun y=>LS (y▸hd)),if_pos e]) fun d hd e=>by
       rw [spec d (Fn d (List.mem_append_left _ hd)) (fun y=>Mn (y▸hd)) (fun y=>LS (y▸hd)),if_neg e,if_neg]
       intro y
       rcases kA.on d hd with w | w
       ·exact Mn (y▸w)
       ·exact e w
      cases A with
      | nil=>exact absurd rfl z
      | cons p A=>have:=k2.hd; subst this; exact ⟨_,_,rfl,k2⟩
    ·by_cases z:B = []
     ·rw [if_pos z] at hc; cases hc
     ·rw [if_neg z] at hc
      rw [List.mem_singleton.mp hc]
      have dB:∀ d∈B,Dt L d:=fun d hd=>Fn d (List.mem_append_right _ (List.mem_cons_of_mem _ hd))
      have k2:Wk (nx (rem L a b)) (nx L (b,a)) B (nx L (b,a)):=kB.new z Mm (fun d hd e=>by rw [spec d (dB d hd) (fun y=>Mm (y▸hd)) (fun y=>JB (y▸hd)),e,if_neg ne,if_pos rfl]) fun d hd e=>by
       rw [spec d (dB d hd) (fun y=>Mm (y▸hd)) (fun y=>JB (y▸hd)),if_neg,if_neg e]
       intro y
       rcases kB.on d hd with w | w
       ·exact JB (y▸w)
       ·exact e w
      cases B with
      | nil=>exact absurd rfl z
      | cons p B=>have:=k2.hd; subst this; exact ⟨_,_,rfl,k2⟩
   ·have cy:=D1.jt c (List.mem_cons_of_mem _ hc)
    have J4:∀ d∈c,d∈S.flatten:=fun d hd=>List.mem_flatten.mpr ⟨c,hc,hd⟩
    have Eu:(a,b)∉c:=fun z=>rW (.inr (J4 _ z))
    have Et:(b,a)∉c:=fun z=>QU _ q _ (J4 _ z) rfl
    obtain ⟨p,r,rfl,k⟩:=id cy
    refine ⟨p,r,rfl,k.congr fun d hd=>?_⟩
    have dd:Dt L d:=(D1.mem d).mp (by rw [List.flatten_cons]; exact List.mem_append_right _ (J4 d hd))
    have on:=cy.on hd
    have o1:nx L d≠(b,a):=fun y=>Et (by rw [← y]; exact on)
    have o2:nx L d≠(a,b):=fun y=>Eu (by rw [← y]; exact on)
    rw [spec d dd (fun y=>Eu (y▸hd)) (fun y=>Et (y▸hd)),if_neg o1,if_neg o2]
  ·have fA:∀ A:List au,(if A = [] then ([]:List (List au)) else [A]).flatten = A:=fun A=>by
    by_cases z:A = []
    ·rw [if_pos z,z]; rfl
    ·rw [if_neg z]; simp
   rw [List.flatten_append,List.flatten_append,fA,fA,List.append_assoc]
   have:(A ++ (B ++ S.flatten)).Perm (A ++ (B ++ S.flatten)):=List.Perm.refl _
   have e:((A ++ (b,a) :: B) ++ S.flatten).Perm ((b,a) :: (A ++ (B ++ S.flatten))):=by
    rw [List.append_assoc,List.cons_append]
    exact List.perm_middle
   exact (List.nodup_cons.mp (e.nodup_iff.mp zD)).2
  ·have fA:∀ A:List au,(if A = [] then ([]:List (List au)) else [A]).flatten = A:=fun A=>by
    by_cases z:A = []
    ·rw [if_pos z,z]; rfl
    ·rw [if_neg z]; simp
   rw [List.flatten_append,List.flatten_append,fA,fA,List.append_assoc,cP m h,← D1.mem]
   have e:((A ++ (b,a) :: B) ++ S.flatten).Perm ((b,a) :: (A ++ (B ++ S.flatten))):=by
    rw [List.append_assoc,List.cons_append]
    exact List.perm_middle
   have e2:=List.nodup_cons.mp (e.nodup_iff.mp zD)
   rw [List.flatten_cons,List.cons_append]
   have e3:(a,b)∉A ++ (B ++ S.flatten):=fun z=>rW (List.mem_append.mp (e.mem_iff.mpr (List.mem_cons_of_mem _ z)))
   constructor
   ·intro z
    exact ⟨List.mem_cons_of_mem _ (e.mem_iff.mpr (List.mem_cons_of_mem _ z)),fun y=>e3 (y▸z),fun y=>e2.1 (y▸z)⟩
   ·rintro ⟨z,z1,z2⟩
    rcases List.mem_cons.mp z with z | z
    ·exact absurd z z1
    ·rcases List.mem_cons.mp (e.mem_iff.mp z) with z | z
     ·exact absurd z z2
     ·exact z
 ·right
  have q2:(b,a)∈S.flatten:=by
   have:=(D1.mem (b,a)).mpr hb
   rw [List.flatten_cons,List.cons_append] at this
   rcases List.mem_cons.mp this with z | z
   ·exact absurd z.symm ne
   ·rcases List.mem_append.mp z with z | z
    ·exact absurd z q
    ·exact z
  obtain ⟨c,hc,So⟩:=List.mem_flatten.mp q2
  obtain ⟨T,pT⟩:=kd hc
  obtain ⟨w,pw,kw⟩:=(D1.jt c (List.mem_cons_of_mem _ hc)).turn So
  have pS:S.flatten.Perm (((b,a) :: w) ++ T.flatten):=by
   refine pT.flatten.trans ?_
   rw [List.flatten_cons]
   exact pw.symm.append_right _
  have nS:=pS.nodup_iff.mp QX
  rw [List.cons_append,List.nodup_cons,List.mem_append] at nS
  obtain ⟨QZ,UN⟩:=nS
  have TJ:(a,b)∉S.flatten:=fun z=>rW (.inr z)
  have Mh:(a,b)∉w:=fun z=>TJ (pS.mem_iff.mpr (List.mem_append_left _ (List.mem_cons_of_mem _ z)))
  have LR:(b,a)∉w:=fun z=>QZ (.inl z)
  have Mi:(a,b)∉v:=fun z=>rW (.inl z)
  have Ox:∀ d∈w,Dt L d:=fun d hd=>(D1.mem d).mp (by rw [List.flatten_cons]; exact List.mem_append_right _ (pS.mem_iff.mpr (List.mem_append_left _ (List.mem_cons_of_mem _ hd))))
  have v0:v≠[]:=fun z=>by
   rw [z] at kv
   have:nx L (a,b) = (a,b):=kv.nil_eq
   exact b2 (congrArg Prod.fst this)
  have w0:w≠[]:=fun z=>by
   rw [z] at kw
   have:nx L (b,a) = (b,a):=kw.nil_eq
   exact b2 (congrArg Prod.fst this).symm
  have k1:Wk (nx (rem L a b)) (nx L (a,b)) v (nx L (b,a)):=kv.new v0 Mi (fun d hd e=>by rw [spec d (Fn d hd) (fun y=>Mi (y▸hd)) (fun y=>q (y▸hd)),e,if_neg ne,if_pos rfl]) fun d hd e=>by
   rw [spec d (Fn d hd) (fun y=>Mi (y▸hd)) (fun y=>q (y▸hd)),if_neg,if_neg e]
   intro y
   rcases kv.on d hd with u | u
   ·exact q (y▸u)
   ·exact e u
  have k2:Wk (nx (rem L a b)) (nx L (b,a)) w (nx L (a,b)):=kw.new w0 LR (fun d hd e=>by rw [spec d (Ox d hd) (fun y=>Mh (y▸hd)) (fun y=>LR (y▸hd)),if_pos e]) fun d hd e=>by
   rw [spec d (Ox d hd) (fun y=>Mh (y▸hd)) (fun y=>LR (y▸hd)),if_neg e,if_neg]
   intro y
   rcases kw.on d hd with u | u
   ·exact Mh (y▸u)
   ·exact e u
  have pe:((a,b) :: (v ++ S.flatten)).Perm ((a,b) :: (b,a) :: ((v ++ w) ++ T.flatten)):=by
   refine List.Perm.cons _ ?_
   rw [List.append_assoc]
   exact (pS.append_left v).trans (by rw [List.cons_append]; exact List.perm_middle)
  have nA:((a,b) :: (b,a) :: ((v ++ w) ++ T.flatten)).Nodup:=pe.nodup_iff.mp (List.nodup_cons.mpr ⟨fun z=>rW (List.mem_append.mp z),zD⟩)
  obtain ⟨Nw,Q1⟩:=List.nodup_cons.mp nA
  obtain ⟨Nv,Q0⟩:=List.nodup_cons.mp Q1
  have mm:∀ d,d∈(v ++ w) ++ T.flatten↔Dt (rem L a b) d:=fun d=>by
   rw [cP m h,← D1.mem,List.flatten_cons,List.cons_append,pe.mem_iff]
   constructor
   ·intro z
    exact ⟨List.mem_cons_of_mem _ (List.mem_cons_of_mem _ z),fun y=>Nw (List.mem_cons_of_mem _ (y▸z)),fun y=>Nv (y▸z)⟩
   ·rintro ⟨z,z1,z2⟩
    rcases List.mem_cons.mp z with z | z
    ·exact absurd z z1
    ·rcases List.mem_cons.mp z with z | z
     ·exact absurd z z2
     ·exact z
  refine ⟨v,w,T,⟨fun s hs=>?_,by rw [List.flatten_cons]; exact Q0,fun d=>by rw [List.flatten_cons]; exact mm d⟩,by rw [EC,pT.length_eq]; rfl,v0,w0,k1,k2,fun d hd=>(mm d).mp (List.mem_append_left _ hd)⟩
  rcases List.mem_cons.mp hs with z | z
  ·rw [z]
   have k:=k1.append k2
   cases v with
   | nil=>exact absurd rfl v0
   | cons p v=>have:=k1.hd; subst this; exact ⟨_,_,rfl,k⟩
  ·have RM:s∈S:=pT.mem_iff.mpr (List.mem_cons_of_mem _ z)
   have cy:=D1.jt s (List.mem_cons_of_mem _ RM)
   have J3:∀ d∈s,d∈T.flatten:=fun d hd=>List.mem_flatten.mpr ⟨s,z,hd⟩
   have Eu:(a,b)∉s:=fun y=>Nw (List.mem_cons_of_mem _ (List.mem_append_right _ (J3 _ y)))
   have Et:(b,a)∉s:=fun y=>Nv (List.mem_append_right _ (J3 _ y))
   obtain ⟨p,r,rfl,k⟩:=id cy
   refine ⟨p,r,rfl,k.congr fun d hd=>?_⟩
   have dd:Dt L d:=((cP m h).mp ((mm d).mp (List.mem_append_right _ (J3 d hd)))).1
   have on:=cy.on hd
   have o1:nx L d≠(b,a):=fun y=>Et (by rw [← y]; exact on)
   have o2:nx L d≠(a,b):=fun y=>Eu (by rw [← y]; exact on)
   rw [spec d dd (fun y=>Eu (y▸hd)) (fun y=>Et (y▸hd)),if_neg o1,if_neg o2]
end
end Gm
end
section
namespace Gm
open PySem L2
def iso (L:List (List Int)):Nat:=L.countP (·.isEmpty)
def Bt (L:List (List Int)) (S:List Int):Prop:=∀ x:Int,0≤x→x < L.length→∃ s∈S,Reach L s x
theorem Reach.one {L:List (List Int)} {s:Int} {d:au} (h:Reach L s d.1) (q:Dt L d):Reach L s d.2:=by
 have e:((d.1.toNat:Nat):Int) = d.1:=Int.toNat_of_nonneg q.lo
 exact .step (i:=d.1.toNat) (by rw [e]; exact h) (aE q.lo q.hi) q.mem
theorem Reach.C3 {L:List (List Int)} {i:Nat} {l:List Int} {x:Int} (e:L[i]? = some l) (hx:x∈l):Dt L ((i:Int),x):=by
 have hi:=(List.getElem?_eq_some_iff.mp e).1
 have:=aE (L:=L) (a:=(i:Int)) (by omega) (by omega)
 rw [Int.toNat_natCast,e] at this
 exact ⟨by simp,by simpa using hi,by rw [← Option.some.inj this]; exact hx⟩
section
variable {L:List (List Int)} {a b:Int}
theorem tM (m:aH L) (h:Dt L (a,b)):iso (rem L a b) = iso L + (if (rowOf L b).erase a = [] then 1 else 0) + (if (rowOf L a).erase b = [] then 1 else 0):=by
 obtain ⟨b0,b1,b2,b3⟩:=h.back m
 have a0:=h.lo
 have a1:=h.hi
 have hm:=h.mem
 dsimp only at a0 a1 b0 b1 b2 b3 hm
 have la:a.toNat < L.length:=by omega
 have lb:b.toNat < L.length:=by omega
 have ea:L[a.toNat] = rowOf L a:=by have:=aE a0 a1; rw [List.getElem?_eq_getElem la] at this; exact Option.some.inj this
 have eb:L[b.toNat] = rowOf L b:=by have:=aE b0 b1; rw [List.getElem?_eq_getElem lb] at this; exact Option.some.inj this
 have na:(rowOf L a).isEmpty = false:=by cases q:rowOf L a with | nil=>rw [q] at hm; cases hm | cons _ _=>rfl
 have nb:(rowOf L b).isEmpty = false:=by cases q:rowOf L b with | nil=>rw [q] at b3; cases b3 | cons _ _=>rfl
 have iE:∀ l:List Int,(if l.isEmpty = true then 1 else 0) = (if l = [] then 1 else 0):=fun l=>by cases l <;> simp
 unfold iso rem
 have gM:¬ a.toNat = b.toNat:=by omega
 have e1:(L.set a.toNat ((rowOf L a).erase b))[b.toNat]'(by rw [List.length_set]; exact lb) = rowOf L b:=by rw [List.getElem_set,if_neg gM,eb]
 rw [List.countP_set (by rw [List.length_set]; exact lb),List.countP_set la,e1,ea,na,nb,iE,iE]
 simp only [Bool.false_eq_true,if_false,Nat.sub_zero]
 omega
theorem gn (m:aH L) (h:Dt L (a,b)):(rowOf L b).erase a = []↔nx L (a,b) = (b,a):=by
 obtain ⟨b0,b1,b2,b3⟩:=h.back m
 dsimp only at b0 b1 b2 b3
 have n:=m.nd _ _ (aE b0 b1)
 constructor
 ·intro z
  have:rowOf L b = [a]:=by
   obtain ⟨u,v,e⟩:=List.append_of_mem b3
   rw [e] at z n ⊢
   have yu:a∉u:=fun y=>(List.nodup_append.mp n).2.2 a y a List.mem_cons_self rfl
   rw [List.erase_append_right _ yu,List.erase_cons_head] at z
   obtain ⟨z1,z2⟩:=List.append_eq_nil_iff.mp z
   rw [z1,z2]; rfl
  unfold nx
  rw [this]
  refine Prod.ext rfl ?_
  show pre [a] a = a
  unfold pre cy
  simp [Nat.mod_one]
 ·intro z
  have e:pre (rowOf L b) a = a:=congrArg Prod.snd z
  rw [j5 n b3 e]
  simp
end
end Gm
end
section
namespace Gm
open PySem L2
theorem Wk.all {f:au→au} {x y:au} {l:List au} {P:au→Prop} (h:Wk f x l y) (hx:P x) (s:∀ d∈l,P d→P (f d)):∀ d∈l,P d:=by
 induction h with
 | nil _=>intro d hd; cases hd
 | @cons x y l _ ih=>
  intro d hd
  rcases List.mem_cons.mp hd with e | e
  ·rw [e]; exact hx
  ·exact ih (s x List.mem_cons_self hx) (fun d hd=>s d (List.mem_cons_of_mem _ hd)) d e
theorem qX.conn {f:au→au} {c:List au} {x y:au} {P:au→Prop} (h:qX f c) (hx:x∈c) (hy:y∈c) (px:P x) (s:∀ d∈c,P d→P (f d)):P y:=by
 obtain ⟨v,p,k⟩:=h.turn hx
 have k2:Wk f x (x :: v) x:=.cons k
 exact k2.all px (fun d hd=>s d (p.mem_iff.mp hd)) y (p.mem_iff.mpr hy)
theorem vn {R:List (List au)} (n:R.flatten.Nodup) {c e:List au} {d:au} (hc:c∈R) (he:e∈R) (h1:d∈c) (h2:d∈e):c = e:=by
 have p:=(List.pairwise_flatten.mp n).2
 obtain ⟨i,hi,rfl⟩:=List.mem_iff_getElem.mp hc
 obtain ⟨j,hj,rfl⟩:=List.mem_iff_getElem.mp he
 have q:=List.pairwise_iff_getElem.mp p
 rcases Nat.lt_trichotomy i j with z | z | z
 ·exact absurd rfl (q i j hi hj z d h1 d h2)
 ·subst z; rfl
 ·exact absurd rfl (q j i hj hi z d h2 d h1)
def CQ (c:List au):au:=c.headD (0,0)
def rep (R:List (List au)) (d:au):au:=((R.find? fun c=>decide (d∈c)).map CQ).getD (0,0)
theorem rC {R:List (List au)} {d:au} (h:d∈R.flatten):∃ c∈R,d∈c∧rep R d = CQ c:=by
 obtain ⟨c,hc,hd⟩:=List.mem_flatten.mp h
 unfold rep
 cases q:R.find? fun c=>decide (d∈c) with
 | none=>have:=List.find?_eq_none.mp q c hc; simp [hd] at this
 | some e=>
  have h1:=List.find?_some q
  exact ⟨e,List.mem_of_find?_eq_some q,by simpa using h1,rfl⟩
theorem kK {c:List au} (h:c≠[]):CQ c∈c:=by cases c with | nil=>exact absurd rfl h | cons a l=>exact List.mem_cons_self
theorem Dec.le {L:List (List Int)} {R S:List (List au)} (h:Dec L R) (k:Dec L S):R.length≤S.length:=by
 have hm:∀ c∈R,CQ c∈S.flatten:=fun c hc=>(k.mem _).mpr ((h.mem _).mp (List.mem_flatten.mpr ⟨c,hc,kK (h.jt c hc).ne⟩))
 have n:(R.map fun c=>rep S (CQ c)).Nodup:=by
  have p:=(List.pairwise_flatten.mp h.nd).2
  refine List.Pairwise.map _ (fun x y lX=>lX) (List.Pairwise.imp_of_mem (fun {c e} hc he Sj z=>?_) p)
  obtain ⟨c',h1,h2,h3⟩:=rC (hm c hc)
  obtain ⟨e',g1,g2,g3⟩:=rC (hm e he)
  rw [h3,g3] at z
  have ee:c' = e':=vn k.nd h1 g1 (kK (k.jt c' h1).ne) (by rw [z]; exact kK (k.jt e' g1).ne)
  subst ee
  have:CQ e∈c:=(k.jt c' h1).conn (P:=fun d=>d∈c) h2 g2 (kK (h.jt c hc).ne) fun d _ hd=>(h.jt c hc).on hd
  exact Sj _ this _ (kK (h.jt e he).ne) rfl
 have:=eZ n (r:=S.map CQ) fun x hx=>by
  obtain ⟨c,hc,rfl⟩:=List.mem_map.mp hx
  obtain ⟨c',h1,h2,h3⟩:=rC (hm c hc)
  rw [h3]
  exact List.mem_map.mpr ⟨c',h1,rfl⟩
 simpa using this
theorem Dec.count {L:List (List Int)} {R S:List (List au)} (h:Dec L R) (k:Dec L S):R.length = S.length:=Nat.le_antisymm (h.le k) (k.le h)
theorem AL {L:List (List Int)} {r:List Int} (g:Good L r):∀ (n s:Nat),Wk (nx L) (dj r s) ((List.range n).map fun j=>dj r (j + s)) (dj r (s + n))
 | 0,s=>.nil _
 | n + 1,s=>by
  have e2:(List.range (n + 1)).map (fun j=>dj r (j + s)) = dj r s :: (List.range n).map (fun j=>dj r (j + (s + 1))):=by
   rw [List.range_succ_eq_map,List.map_cons,List.map_map,Nat.zero_add]
   congr 1
   refine List.map_congr_left fun j _=>?_
   show dj r (j + 1 + s) = _
   congr 1
   omega
  rw [e2]
  refine .cons ?_
  rw [g.st,show s + (n + 1) = s + 1 + n by omega]
  exact AL g n (s + 1)
theorem Good.jt {L:List (List Int)} {r:List Int} (g:Good L r):qX (nx L) (sh 0 r):=by
 have k:=AL g r.length 0
 have e:dj r (0 + r.length) = dj r 0:=gf (by rw [Nat.zero_add,Nat.mod_self,Nat.zero_mod])
 rw [e] at k
 have two:=g.two
 have k':Wk (nx L) (dj r 0) (sh 0 r) (dj r 0):=k
 cases q:sh 0 r with
 | nil=>have:=cW 0 r; rw [q] at this; simp at this; omega
 | cons x l=>
  rw [q] at k'
  have:=k'.hd
  subst this
  exact ⟨_,_,rfl,k'⟩
theorem dw.dec {L R:List (List Int)} (h:dw L R):Dec L (R.map (sh 0)):=by
 have e:(R.map (sh 0)).flatten = R.flatMap (sh 0):=rfl
 refine ⟨fun c hc=>?_,by rw [e]; exact h.nd,fun d=>?_⟩
 ·obtain ⟨r,hr,rfl⟩:=List.mem_map.mp hc
  exact (h.good r hr).jt
 ·rw [e]
  constructor
  ·intro z
   obtain ⟨r,hr,hd⟩:=List.mem_flatMap.mp z
   obtain ⟨j,rfl⟩:=(eI (by have:=(h.good r hr).two; omega)).mp hd
   exact (h.good r hr).dt j
  ·exact h.all d
theorem fZ {L:List (List Int)}:∀ {k:Nat} {d:au},k≤L.length→(d∈gN L k↔0≤d.1∧d.1 < k∧d.1 < d.2∧d.2 < L.length∧d.2∈rowOf L d.1)
 | 0,d,_=>by simp only [gN,List.not_mem_nil,false_iff]; intro h; omega
 | k + 1,d,hk=>by
  rw [gN,List.mem_append,fZ (by omega),List.mem_map]
  have er:L.getD k [] = rowOf L (k:Int):=rfl
  rw [er]
  constructor
  ·rintro (⟨h1,h2,h3⟩ | ⟨x,hx,rfl⟩)
   ·exact ⟨h1,by omega,h3⟩
   ·have:=ig.mp hx
    exact ⟨by simp,by simp; omega,this.1,by have:=this.2.1; dsimp only; omega,this.2.2⟩
  ·rintro ⟨h1,h2,h3,h4,h5⟩
   by_cases e:d.1 = k
   ·right
    rw [e] at h5 h3
    exact ⟨d.2,ig.mpr ⟨h3,by omega,h5⟩,Prod.ext e.symm rfl⟩
   ·left; exact ⟨h1,by omega,h3,h4,h5⟩
theorem kj {L:List (List Int)}:∀ {k:Nat},k≤L.length→(gN L k).Nodup
 | 0,_=>.nil
 | k + 1,hk=>by
  rw [gN,List.nodup_append]
  refine ⟨kj (by omega),?_,fun a ha b hb z=>?_⟩
  ·exact List.Pairwise.map _ (fun x y lX z=>by have:=congrArg Prod.snd z; dsimp only at this; omega) (jg (i:=k) (l:=L.getD k []) (L.length - (k + 1)))
  ·have:=((fZ (by omega)).mp ha).2.1
   obtain ⟨x,_,rfl⟩:=List.mem_map.mp hb
   rw [z] at this
   simp at this
theorem qy:∀ (l:List au) (p:au→Bool),l.length = (l.filter p).length + (l.filter fun d=>!p d).length
 | [],_=>rfl
 | x :: l,p=>by
  have:=qy l p
  cases q:p x with
  | true=>rw [List.filter_cons_of_pos q,List.filter_cons_of_neg (by simp [q]),List.length_cons,List.length_cons]; omega
  | false=>rw [List.filter_cons_of_neg (by simp [q]),List.filter_cons_of_pos (by simp [q]),List.length_cons,List.length_cons]; omega
theorem fw {L:List (List Int)} (m:aH L):(eL L L.length).length = 2 * (gN L L.length).length:=by
 have n:=dA m (Nat.le_refl L.length)
 have nd:=kj (L:=L) (Nat.le_refl L.length)
 have s:=qy (eL L L.length) (fun d:au=>decide (d.1 < d.2))
 have e1:((eL L L.length).filter fun d=>decide (d.1 < d.2)).length = (gN L L.length).length:=by
  refine len_eq (n.filter _) nd fun d=>?_
  rw [List.mem_filter,fZ (Nat.le_refl _)]
  constructor
  ·rintro ⟨h1,h2⟩
   have q:=Dt.of h1
   exact ⟨q.lo,q.hi,by simpa using h2,(q.back m).2.1,q.mem⟩
  ·rintro ⟨h1,h2,h3,h4,h5⟩
   exact ⟨Dt.all ⟨h1,h2,h5⟩,by simpa using h3⟩
 have e2:((eL L L.length).filter fun d=>!decide (d.1 < d.2)).length = ((gN L L.length).map fun d=>(d.2,d.1)).length:=by
  have vJ:((gN L L.length).map fun d=>(d.2,d.1)).Nodup:=List.Pairwise.map _ (fun x y lX z=>lX (Prod.ext (congrArg Prod.snd z) (congrArg Prod.fst z))) nd
  refine len_eq (n.filter _) vJ fun d=>?_
  ·rw [List.mem_filter,List.mem_map]
   constructor
   ·rintro ⟨h1,h2⟩
    have q:=Dt.of h1
    obtain ⟨b0,b1,b2,b3⟩:=q.back m
    refine ⟨(d.2,d.1),(fZ (Nat.le_refl _)).mpr ⟨b0,b1,?_,q.hi,b3⟩,rfl⟩
    have:¬ d.1 < d.2:=by simpa using h2
    dsimp only
    omega
   ·rintro ⟨e,he,rfl⟩
    obtain ⟨h1,h2,h3,h4,h5⟩:=(fZ (Nat.le_refl _)).mp he
    obtain ⟨b0,b1,b2,b3⟩:=Dt.back (d:=e) ⟨h1,h2,h5⟩ m
    refine ⟨Dt.all ⟨b0,b1,b3⟩,?_⟩
    have:¬ e.2 < e.1:=by omega
    simpa using this
 rw [List.length_map] at e2
 omega
theorem AK {L:List (List Int)} {d:au}:∀ k,Wk (nx L) d (tr L d k) (it L d k)
 | 0=>.nil _
 | k + 1=>by
  have e:tr L d (k + 1) = tr L d k ++ [it L d k]:=by unfold tr; rw [List.range_succ,List.map_append]; rfl
  rw [e]
  exact (AK k).append (.cons (.nil _))
theorem BB {L:List (List Int)} {d:au} {k:Nat} (hk:0 < k) (e:it L d k = d):qX (nx L) (tr L d k):=by
 have w:=AK (L:=L) (d:=d) k
 rw [e] at w
 obtain ⟨j,rfl⟩:∃ j,k = j + 1:=⟨k - 1,by omega⟩
 have e2:tr L d (j + 1) = d :: (tr L d (j + 1)).tail:=by unfold tr; rw [List.range_succ_eq_map]; rfl
 exact ⟨d,_,e2,w⟩
theorem kX {L:List (List Int)} {d:au} (m:aH L) (h:Dt L d):∃ k,0 < k∧it L d k = d∧gk L d k:=by
 have go:∀ n,(∃ k,0 < k∧it L d k = d∧gk L d k)∨gk L d (n + 1):=by
  intro n
  induction n with
  | zero=>exact .inr fun i h1 h2=>by omega
  | succ n ih=>
   rcases ih with z | z
   ·exact .inl z
   ·by_cases e:it L d (n + 1) = d
    ·exact .inl ⟨n + 1,by omega,e,z⟩
    ·refine .inr fun i h1 h2=>?_
     by_cases q:i = n + 1
     ·rw [q]; exact e
     ·exact z i h1 (by omega)
 rcases go (eL L L.length).length with z | z
 ·exact z
 ·have:=km m h z
  omega
structure Dp (L:List (List Int)) (R:List (List au)):Prop where
 jt:∀ c∈R,qX (nx L) c
 nd:R.flatten.Nodup
 dt:∀ d∈R.flatten,Dt L d
section
variable {L:List (List Int)} {R:List (List au)} {d:au} {k:Nat}
theorem Dp.start:Dp L []:=⟨by simp,.nil,by simp⟩
theorem Dp.on (p:Dp L R) (h:d∈R.flatten):∀ t,it L d t∈R.flatten
 | 0=>h
 | t + 1=>by
  obtain ⟨c,hc,hd⟩:=List.mem_flatten.mp (p.on h t)
  exact List.mem_flatten.mpr ⟨c,hc,(p.jt c hc).on hd⟩
theorem Dp.new (p:Dp L R) (hk:0 < k) (e:it L d k = d) (n:d∉R.flatten) (j:Nat):it L d j∉R.flatten:=by
 intro h
 refine n ?_
 have:=p.on h (k * j - j)
 rw [← kH,show j + (k * j - j) = k * j from by have:=Nat.le_mul_of_pos_left j hk; omega,Nat.mul_comm] at this
 have z:=sg e (j * k)
 rw [Nat.mul_mod_left] at z
 rw [← z] at this
 exact this
theorem Dp.add (m:aH L) (p:Dp L R) (h:Dt L d) (hk:0 < k) (e:it L d k = d) (nr:gk L d k) (n:d∉R.flatten):Dp L (R ++ [tr L d k]):=by
 refine ⟨fun c hc=>?_,?_,fun x hx=>?_⟩
 ·rcases List.mem_append.mp hc with z | z
  ·exact p.jt c z
  ·rw [List.mem_singleton.mp z]; exact BB hk e
 ·rw [List.flatten_append,List.flatten_singleton,List.nodup_append]
  refine ⟨p.nd,hV m h nr,fun x hx y hy z=>?_⟩
  obtain ⟨j,_,rfl⟩:=List.mem_map.mp hy
  exact p.new hk e n j (z▸hx)
 ·rw [List.flatten_append,List.flatten_singleton] at hx
  rcases List.mem_append.mp hx with z | z
  ·exact p.dt x z
  ·obtain ⟨j,_,rfl⟩:=List.mem_map.mp z
   exact jk m h j
theorem Dp.len (p:Dp L R):R.flatten.length≤(eL L L.length).length:=eZ p.nd fun x hx=>(p.dt x hx).all
theorem Dp.uq:∀ {R:List (List au)},(∀ c∈R,c≠[])→R.length≤R.flatten.length
 | [],_=>Nat.le_refl _
 | c :: R,h=>by
  have:=Dp.uq (R:=R) fun x hx=>h x (List.mem_cons_of_mem _ hx)
  have:=List.length_pos_iff.mpr (h c List.mem_cons_self)
  rw [List.flatten_cons,List.length_append,List.length_cons]
  omega
theorem Dp.dec (p:Dp L R) (all:∀ d,Dt L d→d∈R.flatten):Dec L R:=⟨p.jt,p.nd,fun d=>⟨p.dt d,all d⟩⟩
end
theorem aN.away {H:Hp} {t b:Addr} {bs:List Addr} {R:List (List Int)} {o:HO} (g:aN H t bs R) (n:b∉t :: bs):aN (upd H b o) t bs R:=by
 refine ⟨?_,g.len,fun i a l h1 h2=>?_⟩
 ·rw [aq (fun z=>n (by rw [← z]; exact List.mem_cons_self))]; exact g.top
 ·have am:=List.mem_of_getElem? h1
  have ne:a≠b:=fun z=>n (by rw [← z]; exact List.mem_cons_of_mem _ am)
  rw [aq ne]
  exact g.row i a l h1 h2
end Gm
end
section
namespace L2
open PySem PySem.Spec PySem.W PySem.Calls PyProof.Rows
section
variable {X:Cx}
def dW (ns:List Int):List Int:=ns.foldl step_dedup []
theorem kW (ns:List Int):firstMet (fun i=>ns.getD i 0) ns.length = dW ns:=by
 unfold firstMet dW
 rw [show ((List.range ns.length).map fun i=>ns.getD i 0) = ns from Gm.range_getD ns]
theorem uv:∀ (ns σ : List Int),σ.Nodup→((ns.foldl step_dedup σ).length = σ.length + ns.length↔(σ ++ ns).Nodup)
 | [],σ,h=>by simp [h]
 | x :: ns,σ,h=>by
  rw [List.foldl_cons]
  by_cases e:x∈σ
  ·have e1:step_dedup σ x = σ:=by unfold step_dedup; rw [if_pos (by simpa using e)]
   rw [e1]
   constructor
   ·intro z
    have:=foldl_step_dedup_length_le σ ns
    rw [List.length_cons] at z
    omega
   ·intro z
    exact absurd rfl ((List.nodup_append.mp z).2.2 x e x List.mem_cons_self)
  ·have e1:step_dedup σ x = σ ++ [x]:=by unfold step_dedup; rw [if_neg (by simpa using e)]
   rw [e1]
   have n1:(σ ++ [x]).Nodup:=(List.perm_append_singleton x σ).nodup_iff.mpr (List.nodup_cons.mpr ⟨e,h⟩)
   have:=uv ns (σ ++ [x]) n1
   rw [List.length_append,List.length_singleton,List.append_assoc,List.singleton_append] at this
   rw [← this,List.length_cons]
   omega
theorem iC (ns:List Int):(dW ns).length = ns.length↔ns.Nodup:=by
 have:=uv ns [] .nil
 rw [List.length_nil,Nat.zero_add,List.nil_append] at this
 exact this
def Ee (K:Frag):List V→Hp→VK→Prop:=fun vs H Q=>∃ (a:Addr) (ns:List Int),vs = [.ref a]∧ay K H a (ns.map V.int)∧ns.length≤1000∧∀ (p:Addr) (S:Int→Bool),H p = none→Q (.ref p) (upd H p (.set S (dW ns).length))
theorem ni (hc:X.calm = true):d5 X (.type "set") (Ee X.K):=by
 intro pins s σ H xs us Q I r h
 obtain ⟨a,ns,rfl,ha,hl,q⟩:=h
 obtain ⟨u,rfl,ru⟩:=vals1 r
 cases ru
 obtain ⟨aO,rv,pl,hz⟩:=I.list ha
 have hi:IntsAre aO ns:=intsAre_of rv
 have zl:=hi.length
 refine call_set_list (I.ok.hd hc) pl.isList (by simpa using hi) (by rw [List.size_toArray,zl]; exact Nat.lt_of_le_of_lt (Nat.succ_le_succ hl) (by decide)) fun h' tk hS kk=>?_
 have ez:aO.toArray.size = ns.length:=by rw [List.size_toArray]; exact zl
 rw [ez,kW] at hS
 exact ⟨.ref s.heap.objs.size,_,I.laid (t':=tk) (fun b o e=>kk b o (Heap.lt_size e) e) (Nat.le_refl _) (show bg X.prog X.w _ h' s.heap.objs.size (.set _ (dW ns).length) from hS),rfl,q _ _ (I.bA.fresh (Nat.le_refl _))⟩
theorem nq:d5 X (.builtin "len") (fun xs H Q=>∃ a S n,xs = [V.ref a]∧H a = some (.set S n)∧Q (.int (n:Nat)) H):=by
 intro pins s σ H xs us Q I r h
 obtain ⟨a,S,n,rfl,ha,q⟩:=h
 obtain ⟨u,rfl,ru⟩:=vals1 r
 cases ru
 obtain ⟨o,es,ep,tt,ho,hex,hd,_,_,eV,hf,hn⟩:=(show s.heap.SetOf (intKind X.prog X.w) a S n from I.bA a _ ha)
 have lt:es.size < 4096:=eV
 refine call_len_set ho hex hd hf (by omega) ⟨.int (n:Nat),H,I.tok _,⟨_,by rw [hn]⟩,q⟩
def P2:R2:=fun x y H Q=>∃ a b:Bool,x = .bl a∧y = .bl b∧Q (.bl (a == b)) H
def P5 (K:Frag):R2:=fun x y H Q=>∃ (p l:Addr) (d:Int×Int) (ps:List Addr) (T:List (Int×Int)),x = .ref p∧y = .ref l∧H p = some (.tup [.int d.1,.int d.2])∧H l = some (.lst (ps.map V.ref))∧Gm.PR H ps T∧Q (.bl (decide (d∈T))) H
def Gh:V→List V→Hp→VK→Prop:=fun x vs H Q=>∃ (l:Addr) (ns:List Int) (y:Int),x = .ref l∧vs = [.int y]∧H l = some (.lst (ns.map V.int))∧y∈ns∧Q .cX (upd H l (.lst ((ns.erase y).map V.int)))
end
end L2
end
section
namespace Gm
open PySem L2
theorem kY {L:List (List Int)} (m:aH L):∃ R,Dec L R:=by
 have go:∀ ds:List au,(∀ d∈ds,Dt L d)→∃ R,Dp L R∧∀ d∈ds,d∈R.flatten:=by
  intro ds
  induction ds with
  | nil=>intro _; exact ⟨[],Dp.start,by simp⟩
  | cons d ds ih=>
   intro h
   obtain ⟨R,p,q⟩:=ih fun x hx=>h x (List.mem_cons_of_mem _ hx)
   by_cases e:d∈R.flatten
   ·refine ⟨R,p,fun x hx=>?_⟩
    rcases List.mem_cons.mp hx with z | z
    ·rw [z]; exact e
    ·exact q x z
   ·have dt:=h d List.mem_cons_self
    obtain ⟨k,k0,ek,nr⟩:=kX m dt
    refine ⟨_,p.add m dt k0 ek nr e,fun x hx=>?_⟩
    rw [List.flatten_append,List.flatten_singleton]
    rcases List.mem_cons.mp hx with z | z
    ·rw [z]; exact List.mem_append_right _ (List.mem_map.mpr ⟨0,List.mem_range.mpr k0,rfl⟩)
    ·exact List.mem_append_left _ (q x z)
 obtain ⟨R,p,q⟩:=go (eL L L.length) fun d hd=>Dt.of hd
 exact ⟨R,p.dec fun d hd=>q d hd.all⟩
theorem Wk.last {f:au→au} {x y:au} {l:List au} (h:Wk f x l y) (n:l≠[]):∃ d∈l,f d = y:=by
 induction h with
 | nil _=>exact absurd rfl n
 | @cons x y l k ih=>
  cases l with
  | nil=>exact ⟨x,List.mem_cons_self,k.nil_eq⟩
  | cons p l=>
   obtain ⟨d,hd,e⟩:=ih (by simp)
   exact ⟨d,List.mem_cons_of_mem _ hd,e⟩
section
variable {M:List (List Int)} {a b z1 z2:Int}
theorem Az {R R':List (List au)} (m':aH M) (h:Dt M (a,b)) (f1:nx M (z1,a) = (a,b)) (f2:nx M (z2,b) = (b,a)) (d1:Dt (rem M a b) (z1,a)) (d2:Dt (rem M a b) (z2,b)) (D:Dec (rem M a b) R) (D':Dec M R')
  (conn:∀ P:au→Prop,P (z1,a)→(∀ d,Dt (rem M a b) d→P d→P (nx (rem M a b) d))→P (z2,b)):R'.length = R.length + 1∧iso M = iso (rem M a b):=by
 obtain ⟨b0,b1,b2,b3⟩:=h.back m'
 have hb:Dt M (b,a):=⟨b0,b1,b3⟩
 have o1:=(cP m' h).mp d1
 have o2:=(cP m' h).mp d2
 have x1:nx M (a,b)≠(b,a):=fun z=>o2.2.1 (eY m' h o2.1 (z.trans f2.symm)).symm
 have x2:nx M (b,a)≠(a,b):=fun z=>o1.2.2 (eY m' hb o1.1 (z.trans f1.symm)).symm
 have i1:¬ (rowOf M b).erase a = []:=fun z=>x1 ((gn m' h).mp z)
 have i2:¬ (rowOf M a).erase b = []:=fun z=>x2 ((gn m' hb).mp z)
 have iE:=tM m' h
 rw [if_neg i1,if_neg i2] at iE
 refine ⟨?_,iE.symm⟩
 rcases tN m' h D' with ⟨A,B,S,DL,lR,kA,kB⟩ | ⟨A,B,S,DL,lR,_⟩
 ·exfalso
  have A0:A≠[]:=fun z=>by rw [z] at kA; exact x1 kA.nil_eq
  have B0:B≠[]:=fun z=>by rw [z] at kB; exact x2 kB.nil_eq
  rw [if_neg A0,if_neg B0] at DL
  have Ru:∀ d∈A,Dt M d:=fun d hd=>((cP m' h).mp ((DL.mem d).mp (List.mem_flatten.mpr ⟨A,by simp,hd⟩))).1
  have Dj:∀ d∈B,Dt M d:=fun d hd=>((cP m' h).mp ((DL.mem d).mp (List.mem_flatten.mpr ⟨B,by simp,hd⟩))).1
  obtain ⟨p,hp,ep⟩:=kA.last A0
  obtain ⟨q,hq,eq⟩:=kB.last B0
  have pe:p = (z2,b):=eY m' (Ru p hp) o2.1 (ep.trans f2.symm)
  have qe:q = (z1,a):=eY m' (Dj q hq) o1.1 (eq.trans f1.symm)
  rw [pe] at hp
  rw [qe] at hq
  have cB:qX (nx (rem M a b)) B:=DL.jt B (by simp)
  have:=conn (fun d=>d∈B) hq fun d _ hd=>cB.on hd
  have nd:=DL.nd
  rw [List.flatten_append,List.flatten_append,List.flatten_singleton,List.flatten_singleton,List.append_assoc] at nd
  exact (List.nodup_append.mp nd).2.2 _ hp _ (List.mem_append_left _ this) rfl
 ·have:=D.count DL
  rw [List.length_cons] at this
  omega
theorem xG {R R':List (List au)} (m':aH M) (h:Dt M (a,b)) (e1:nx M (a,b) = (b,a)) (f1:nx M (z1,a) = (a,b)) (d1:Dt (rem M a b) (z1,a)) (D:Dec (rem M a b) R) (D':Dec M R'):R'.length = R.length∧iso (rem M a b) = iso M + 1:=by
 obtain ⟨b0,b1,b2,b3⟩:=h.back m'
 have hb:Dt M (b,a):=⟨b0,b1,b3⟩
 have o1:=(cP m' h).mp d1
 have x2:nx M (b,a)≠(a,b):=fun z=>o1.2.2 (eY m' hb o1.1 (z.trans f1.symm)).symm
 have i2:¬ (rowOf M a).erase b = []:=fun z=>x2 ((gn m' hb).mp z)
 have iE:=tM m' h
 rw [if_pos ((gn m' h).mpr e1),if_neg i2] at iE
 refine ⟨?_,iE⟩
 rcases tN m' h D' with ⟨A,B,S,DL,lR,kA,kB⟩ | ⟨A,B,S,DL,lR,A0,B0,kA,kB,dd⟩
 ·have A0:A = []:=by
   cases A with
   | nil=>rfl
   | cons p A=>
    have hp:=kA.hd
    have dt:Dt (rem M a b) p:=(DL.mem p).mp (List.mem_flatten.mpr ⟨p :: A,by simp,List.mem_cons_self⟩)
    rw [hp,e1] at dt
    exact absurd rfl ((cP m' h).mp dt).2.2
  have B0:B≠[]:=fun z=>by rw [z] at kB; exact x2 kB.nil_eq
  rw [if_pos A0,if_neg B0] at DL
  have:=D.count DL
  rw [List.nil_append,List.singleton_append,List.length_cons] at this
  omega
 ·cases A with
  | nil=>exact absurd rfl A0
  | cons p A=>
   have hp:=kA.hd
   have dt:=dd p (by simp)
   rw [hp,e1] at dt
   exact absurd rfl ((cP m' h).mp dt).2.2
end
structure cG (L:List (List Int)):Prop where
 map:aH L
 two:2≤L.length
 span:Bt L [0]
 Fv:∃ R,Dec L R∧(L.length:Int) + R.length + iso L = (gN L L.length).length + 2
theorem Reach.mono {L M:List (List Int)} (h:∀ d,Dt L d→Dt M d) {s x:Int} (r:Reach L s x):Reach M s x:=by
 induction r with
 | here=>exact .here
 | step r e hx ih=>
  rename_i i l y
  exact Reach.one (d:=((i:Int),y)) ih (h _ (Reach.C3 e hx))
def both (L:List (List Int)) (a b:Int) (A B:List Int):List (List Int):=(L.set a.toNat A).set b.toNat B
structure bJ (L:List (List Int)) (a b:Int) (A B:List Int):Prop where
 map:aH L
 a0:0≤a
 a1:a < L.length
 b0:0≤b
 b1:b < L.length
 ne:a≠b
 no:b∉rowOf L a
 pa:A.Perm (b :: rowOf L a)
 pb:B.Perm (a :: rowOf L b)
 ea:A.erase b = rowOf L a
 eb:B.erase a = rowOf L b
section
variable {L:List (List Int)} {a b:Int} {A B:List Int}
theorem bJ.Nd (F:bJ L a b A B):a∉rowOf L b:=fun z=>F.no (Dt.back (d:=(b,a)) ⟨F.b0,F.b1,z⟩ F.map).2.2.2
theorem dv:(both L a b A B).length = L.length:=by unfold both; simp
theorem bJ.row (F:bJ L a b A B) {x:Int} (hx:0≤x):rowOf (both L a b A B) x = if x = b then B else if x = a then A else rowOf L x:=by
 have:=F.a0; have:=F.a1; have:=F.b0; have:=F.b1; have:=F.ne
 show (both L a b A B).getD x.toNat [] = _
 unfold both
 rw [List.getD_eq_getElem?_getD,List.getElem?_set]
 by_cases e:x = b
 ·subst e
  rw [if_pos rfl,if_pos rfl,if_pos (by rw [List.length_set]; omega)]
  rfl
 ·rw [if_neg (by omega),if_neg e,List.getElem?_set]
  by_cases e2:x = a
  ·subst e2
   rw [if_pos rfl,if_pos rfl,if_pos (by omega)]
   rfl
  ·rw [if_neg (by omega),if_neg e2,← List.getD_eq_getElem?_getD]
   rfl
theorem bJ.mem (F:bJ L a b A B) {x y:Int} (hx:0≤x):y∈rowOf (both L a b A B) x↔y∈rowOf L x∨(x = a∧y = b)∨(x = b∧y = a):=by
 rw [F.row hx]
 by_cases e:x = b
 ·subst e
  rw [if_pos rfl,F.pb.mem_iff,List.mem_cons]
  constructor
  ·rintro (z | z)
   ·exact .inr (.inr ⟨rfl,z⟩)
   ·exact .inl z
  ·rintro (z | z | z)
   ·exact .inr z
   ·exact absurd z.1.symm F.ne
   ·exact .inl z.2
 ·rw [if_neg e]
  by_cases e2:x = a
  ·subst e2
   rw [if_pos rfl,F.pa.mem_iff,List.mem_cons]
   constructor
   ·rintro (z | z)
    ·exact .inr (.inl ⟨rfl,z⟩)
    ·exact .inl z
   ·rintro (z | z | z)
    ·exact .inr z
    ·exact .inl z.2
    ·exact absurd z.1 e
  ·rw [if_neg e2]
   exact ⟨.inl,fun z=>z.elim id fun z=>z.elim (fun w=>absurd w.1 e2) fun w=>absurd w.1 e⟩
theorem bJ.kJ (F:bJ L a b A B):aH (both L a b A B):=by
 have:=F.a0; have:=F.a1; have:=F.b0; have:=F.b1; have ne:=F.ne
 refine iw fun x x0 x1=>?_
 rw [dv] at x1 ⊢
 have n:=F.map.nd _ _ (aE x0 x1)
 refine ⟨?_,fun y hy=>?_⟩
 ·rw [F.row x0]
  split
  ·rename_i e; subst e; exact F.pb.nodup_iff.mpr (List.nodup_cons.mpr ⟨F.Nd,n⟩)
  ·split
   ·rename_i e; subst e; exact F.pa.nodup_iff.mpr (List.nodup_cons.mpr ⟨F.no,n⟩)
   ·exact n
 ·rcases (F.mem x0).mp hy with z | ⟨z,w⟩ | ⟨z,w⟩
  ·obtain ⟨c0,c1,c2,c3⟩:=Dt.back (d:=(x,y)) ⟨x0,x1,z⟩ F.map
   exact ⟨c0,c1,c2,(F.mem c0).mpr (.inl c3)⟩
  ·subst z w
   exact ⟨F.b0,F.b1,ne.symm,(F.mem F.b0).mpr (.inr (.inr ⟨rfl,rfl⟩))⟩
  ·subst z w
   exact ⟨F.a0,F.a1,ne,(F.mem F.a0).mpr (.inr (.inl ⟨rfl,rfl⟩))⟩
theorem bJ.dt (F:bJ L a b A B):Dt (both L a b A B) (a,b):=⟨F.a0,by rw [dv]; exact F.a1,(F.mem F.a0).mpr (.inr (.inl ⟨rfl,rfl⟩))⟩
theorem bJ.rem (F:bJ L a b A B):rem (both L a b A B) a b = L:=by
 have a0:=F.a0; have a1:=F.a1; have b0:=F.b0; have b1:=F.b1; have ne:=F.ne
 unfold Gm.rem
 rw [F.row a0,F.row b0,if_neg ne,if_pos rfl,if_pos rfl,F.ea,F.eb]
 unfold both
 apply List.ext_getElem?
 intro i
 rw [List.getElem?_set]
 by_cases e:b.toNat = i
 ·rw [if_pos e]
  have:i < L.length:=by omega
  rw [if_pos (by simp; omega),← e,aE b0 b1]
 ·rw [if_neg e,List.getElem?_set]
  by_cases e2:a.toNat = i
  ·rw [if_pos e2,if_pos (by simp; omega),← e2,aE a0 a1]
  ·rw [if_neg e2,List.getElem?_set,if_neg e,List.getElem?_set,if_neg e2]
theorem bJ.sub (F:bJ L a b A B) (d:au) (h:Dt L d):Dt (both L a b A B) d:=⟨h.lo,by rw [dv]; exact h.hi,(F.mem h.lo).mpr (.inl h.mem)⟩
theorem bJ.Lg (F:bJ L a b A B):(gN (both L a b A B) L.length).length = (gN L L.length).length + 1:=by
 have h1:=(pL F.kJ F.dt).2
 rw [F.rem] at h1
 have h2:=fw F.kJ
 have h3:=fw F.map
 rw [dv] at h1 h2
 omega
theorem bJ.AU (F:bJ L a b A B) (s:cG L) {z1 z2:Int} (h1:z1∈rowOf L a) (h2:z2∈rowOf L b) (f1:pre A z1 = b) (f2:pre B z2 = a)
  (conn:∀ P:au→Prop,P (z1,a)→(∀ d,Dt L d→P d→P (nx L d))→P (z2,b)):cG (both L a b A B):=by
 obtain ⟨c0,c1,c2,c3⟩:=Dt.back (d:=(a,z1)) ⟨F.a0,F.a1,h1⟩ F.map
 obtain ⟨e0,e1,e2,e3⟩:=Dt.back (d:=(b,z2)) ⟨F.b0,F.b1,h2⟩ F.map
 obtain ⟨R,D,ch⟩:=s.Fv
 obtain ⟨R',D'⟩:=kY F.kJ
 have n1:nx (both L a b A B) (z1,a) = (a,b):=by
  unfold nx; dsimp only; rw [F.row F.a0,if_neg F.ne,if_pos rfl,f1]
 have n2:nx (both L a b A B) (z2,b) = (b,a):=by
  unfold nx; dsimp only; rw [F.row F.b0,if_pos rfl,f2]
 obtain ⟨l1,l2⟩:=Az (R:=R) F.kJ F.dt n1 n2 (by rw [F.rem]; exact ⟨c0,c1,c3⟩) (by rw [F.rem]; exact ⟨e0,e1,e3⟩) (by rw [F.rem]; exact D) D' (by rw [F.rem]; exact conn)
 rw [F.rem] at l2
 refine ⟨F.kJ,by rw [dv]; exact s.two,fun x x0 x1=>?_,R',D',?_⟩
 ·rw [dv] at x1
  obtain ⟨t,ht,r⟩:=s.span x x0 x1
  exact ⟨t,ht,r.mono F.sub⟩
 ·rw [dv,F.Lg,l1,l2]
  omega
end
theorem gq:∀ {l:List Int} {k:Nat} {x:Int},x∉l→(put l k x).erase x = l:=fun {l k x} h=>by
 unfold put
 rw [List.erase_append_right _ (fun z=>h (List.mem_of_mem_take z)),List.erase_cons_head,List.take_append_drop]
theorem tX:∀ {l:List Int} {p z x:Int},z∈l→x≠z→dF p (put l (l.idxOf z) x) z = x
 | [],_,_,_,h,_=>by cases h
 | h :: t,p,z,x,hz,hx=>by
  rw [List.idxOf_cons]
  by_cases e:h = z
  ·subst e
   have:(h == h) = true:=by simp
   rw [this]
   show dF p (x :: h :: t) h = x
   show (if x = h then p else if h = h then x else dF h t h) = x
   rw [if_neg hx,if_pos rfl]
  ·have e2:(h == z) = false:=beq_false_of_ne e
   rw [e2]
   show dF p (h :: put t (t.idxOf z) x) z = x
   show (if h = z then p else dF h (put t (t.idxOf z) x) z) = x
   rw [if_neg e]
   exact tX ((List.mem_cons.mp hz).resolve_left (fun w=>e w.symm)) hx
theorem jF {l:List Int} {z x:Int} (hz:z∈l) (hx:x∉l):pre (put l (l.idxOf z) x) z = x:=by
 rw [h8 (cM.mpr (.inr hz))]
 exact tX hz (fun w=>hx (w▸hz))
theorem rj {l:List Int} {x:Int} (h:x∉l):(l ++ [x]).erase x = l:=by rw [List.erase_append_right _ h,List.erase_cons_head,List.append_nil]
theorem xf {l:List Int} {y x:Int}:pre ((y :: l) ++ [x]) y = x:=by
 rw [h8 (by simp),fK (y :: l) (v:=[x]) (by simp)]
 show (if y = y then lst [x] else _) = x
 rw [if_pos rfl]; rfl
end Gm
end
section
namespace Gm
open PySem L2
theorem Reach.inv {L:List (List Int)} {s x:Int} (r:Reach L s x):x = s∨∃ (j:Nat) (l:List Int),L[j]? = some l∧x∈l:=by
 cases r with
 | here=>exact .inl rfl
 | step r e hx=>exact .inr ⟨_,_,e,hx⟩
theorem cG.Cu {L:List (List Int)} (s:cG L):iso L = 0:=by
 unfold iso
 refine List.countP_eq_zero.mpr fun l hl=>?_
 obtain ⟨i,hi,rfl⟩:=List.mem_iff_getElem.mp hl
 have ei:L[i]? = some L[i]:=List.getElem?_eq_getElem hi
 intro z
 have e0:L[i] = []:=by simpa using z
 have two:=s.two
 by_cases h0:i = 0
 ·subst h0
  obtain ⟨t,ht,r⟩:=s.span 1 (by omega) (by omega)
  have:t = 0:=List.mem_singleton.mp ht
  subst this
  have go:∀ x,Reach L 0 x→x = 0:=fun x r=>by
   induction r with
   | here=>rfl
   | step r e hx ih=>
    rename_i j l y
    have:j = 0:=by omega
    subst this
    rw [ei] at e
    cases e
    rw [e0] at hx
    cases hx
  exact absurd (go 1 r) (by omega)
 ·obtain ⟨t,ht,r⟩:=s.span i (by omega) (by omega)
  have:t = 0:=List.mem_singleton.mp ht
  subst this
  rcases r.inv with w | ⟨j,l,e,hx⟩
  ·omega
  ·have:=s.map.sy _ _ e _ hx i rfl _ ei
   rw [e0] at this
   cases this
theorem cG.three {L:List (List Int)} (s:cG L) (h3:3≤L.length) {R:List (List au)} (D:Dec L R) {c:List au} (hc:c∈R):3≤c.length:=by
 have dt:∀ d∈c,Dt L d:=fun d hd=>(D.mem d).mp (List.mem_flatten.mpr ⟨c,hc,hd⟩)
 obtain ⟨x,l,e,k⟩:=D.jt c hc
 subst e
 have hx:=dt x List.mem_cons_self
 obtain ⟨b0,b1,b2,b3⟩:=hx.back s.map
 have k1:=k.tl
 cases l with
 | nil=>exact absurd (congrArg Prod.fst k1.nil_eq) b2
 | cons y l=>
  cases l with
  | cons w l=>simp
  | nil=>
   exfalso
   have ey:=k1.hd
   have ex:=k1.tl.nil_eq
   rw [← ey] at ex
   have y1:y.1 = x.2:=by rw [ey]; rfl
   have y2:y.2 = x.1:=congrArg Prod.fst ex
   have p1:pre (rowOf L x.2) x.1 = x.1:=by
    have:y.2 = pre (rowOf L x.2) x.1:=by rw [ey]; rfl
    rw [← this,y2]
   have p2:pre (rowOf L x.1) x.2 = x.2:=by
    have:pre (rowOf L y.2) y.1 = x.2:=congrArg Prod.snd ex
    rwa [y1,y2] at this
   have r1:=j5 (s.map.nd _ _ (aE b0 b1)) b3 p1
   have r2:=j5 (s.map.nd _ _ (aE hx.lo hx.hi)) hx.mem p2
   have go:∀ u,Reach L 0 u→((u = x.1∨u = x.2)↔((0:Int) = x.1∨(0:Int) = x.2)):=fun u r=>by
    induction r with
    | here=>exact Iff.rfl
    | step r e hv ih=>
     rename_i i l v
     refine Iff.trans ?_ ih
     have d:=Reach.C3 e hv
     obtain ⟨q0,q1,q2,q3⟩:=d.back s.map
     have dm:=d.mem
     dsimp only at q0 q1 q2 q3 dm
     constructor
     ·rintro (z | z)
      ·rw [z,r2] at q3; exact .inr (List.mem_singleton.mp q3)
      ·rw [z,r1] at q3; exact .inl (List.mem_singleton.mp q3)
     ·rintro (z | z)
      ·rw [z,r2] at dm; exact .inr (List.mem_singleton.mp dm)
      ·rw [z,r1] at dm; exact .inl (List.mem_singleton.mp dm)
   have reach:∀ u:Int,0≤u→u < L.length→Reach L 0 u:=fun u h0 h1=>by
    obtain ⟨t,ht,r⟩:=s.span u h0 h1
    rw [List.mem_singleton.mp ht] at r; exact r
   have z0:=(go x.1 (reach x.1 hx.lo hx.hi)).mp (.inl rfl)
   have l1:=hx.lo
   have c0:=(go 0 (reach 0 (by omega) (by omega))).mpr z0
   have c1:=(go 1 (reach 1 (by omega) (by omega))).mpr z0
   have c2:=(go 2 (reach 2 (by omega) (by omega))).mpr z0
   omega
theorem kU:∀ {R:List (List au)},(∀ c∈R,3≤c.length)→3 * R.length≤R.flatten.length
 | [],_=>Nat.le_refl _
 | c :: R,h=>by
  have:=kU (R:=R) fun x hx=>h x (List.mem_cons_of_mem _ hx)
  have:=h c List.mem_cons_self
  rw [List.flatten_cons,List.length_append,List.length_cons]
  omega
theorem Dec.len {L:List (List Int)} {R:List (List au)} (m:aH L) (D:Dec L R):R.flatten.length = (eL L L.length).length:=
 len_eq D.nd (dA m (Nat.le_refl _)) fun d=>(D.mem d).trans ⟨fun h=>h.all,fun h=>Dt.of h⟩
theorem cG.uq {L:List (List Int)} (s:cG L) (h:L.length≤20):(eL L L.length).length < 128:=by
 by_cases h3:3≤L.length
 ·obtain ⟨R,D,ch⟩:=s.Fv
  have f:=kU fun c hc=>s.three h3 D hc
  rw [D.len s.map] at f
  have i:=s.Cu
  have d:=fw s.map
  omega
 ·exact m9 s.map (by omega)
def eO (L:List (List Int)):List (List Int):=L ++ [[]]
section
variable {L:List (List Int)}
theorem dN {x:Int} (x0:0≤x):rowOf (eO L) x = if x < L.length then rowOf L x else []:=by
 unfold rowOf eO
 rw [List.getD_eq_getElem?_getD,List.getD_eq_getElem?_getD]
 by_cases h:x < L.length
 ·rw [if_pos h,List.getElem?_append_left (by omega)]
 ·rw [if_neg h,List.getElem?_append_right (by omega)]
  cases q:([[]]:List (List Int))[x.toNat - L.length]? with
  | none=>rfl
  | some l=>
   have:=List.mem_of_getElem? q
   rw [List.mem_singleton.mp this]; rfl
theorem fL {d:au}:Dt (eO L) d↔Dt L d:=by
 constructor
 ·intro h
  have m:=h.mem
  rw [dN h.lo] at m
  by_cases z:d.1 < L.length
  ·rw [if_pos z] at m; exact ⟨h.lo,z,m⟩
  ·rw [if_neg z] at m; cases m
 ·intro h
  refine ⟨h.lo,by unfold eO; have:=h.hi; simp; omega,?_⟩
  rw [dN h.lo,if_pos h.hi]; exact h.mem
theorem gb:(eO L).length = L.length + 1:=by unfold eO; simp
theorem p9 (m:aH L):aH (eO L):=by
 refine iw fun x x0 x1=>?_
 rw [dN x0]
 by_cases z:x < L.length
 ·rw [if_pos z]
  refine ⟨m.nd _ _ (aE x0 z),fun y hy=>?_⟩
  obtain ⟨c0,c1,c2,c3⟩:=Dt.back (d:=(x,y)) ⟨x0,z,hy⟩ m
  dsimp only at c0 c1 c2 c3
  rw [dN c0,if_pos c1,gb]
  exact ⟨c0,by omega,c2,c3⟩
 ·rw [if_neg z]; exact ⟨.nil,fun y hy=>by cases hy⟩
theorem oz (m:aH L) {d:au} (h:Dt L d):nx (eO L) d = nx L d:=by
 obtain ⟨b0,b1,b2,b3⟩:=h.back m
 unfold nx
 rw [dN b0,if_pos b1]
theorem xE {R:List (List au)} (m:aH L) (D:Dec L R):Dec (eO L) R:=by
 refine ⟨fun c hc=>?_,D.nd,fun d=>(D.mem d).trans fL.symm⟩
 obtain ⟨x,l,e,k⟩:=D.jt c hc
 exact ⟨x,l,e,k.congr fun d hd=>oz m ((D.mem d).mp (List.mem_flatten.mpr ⟨c,hc,hd⟩))⟩
theorem xC:iso (eO L) = iso L + 1:=by unfold iso eO; rw [List.countP_append]; rfl
theorem xD (m:aH L):(eL (eO L) (eO L).length).length = (eL L L.length).length:=
 len_eq (dA (p9 m) (Nat.le_refl _)) (dA m (Nat.le_refl _)) fun d=>⟨fun h=>(fL.mp (Dt.of h)).all,fun h=>(fL.mpr (Dt.of h)).all⟩
end
structure Pl (L:List (List Int)) (r:List Int) (c1 cj:Nat) (dn:List Nat) (M:List (List Int)):Prop where
 sh:cG M
 len:M.length = L.length + 1
 new:rowOf M (L.length:Int) = dn.map (cy r)
 hd:∃ rest,dn = c1 :: rest
 keep:∀ x:Int,0≤x→x < L.length→(∀ c∈dn,cy r c≠x)→rowOf M x = rowOf L x
 sub:∀ d,Dt L d→Dt M d
 le:c1≤cj
 top:cj < r.length
 i1:∀ i,cj≤i→i + 1 < c1 + r.length→nx M (dj r i) = dj r (i + 1)
 i2:nx M (dj r (c1 + (r.length - 1))) = (cy r c1,(L.length:Int))
 i3:nx M (cy r c1,(L.length:Int)) = ((L.length:Int),cy r cj)
 i4:nx M ((L.length:Int),cy r cj) = dj r cj
section
variable {L:List (List Int)} {r:List Int}
theorem yi {i j:Nat} (n:(sh 0 r).Nodup) (h:i < j) (h2:j < i + r.length):dj r i≠dj r j:=by
 intro z
 have r0:0 < r.length:=by omega
 have e1:dj r (i % r.length) = dj r i:=gf (Nat.mod_mod _ _)
 have e2:dj r (j % r.length) = dj r j:=gf (Nat.mod_mod _ _)
 have m1:=Nat.mod_lt i r0
 have m2:=Nat.mod_lt j r0
 have at_:∀ k (hk:k < r.length),(sh 0 r)[k]'(by rw [cW]; exact hk) = dj r k:=fun k hk=>by
  have:=AV (s:=0) hk
  rw [List.getElem?_eq_getElem (by rw [cW]; exact hk)] at this
  exact Option.some.inj this
 have e3:i % r.length = j % r.length:=by
  refine (List.getElem_inj (h₀:=by rw [cW]; exact m1) (h₁:=by rw [cW]; exact m2) n).mp ?_
  rw [at_ _ m1,at_ _ m2,e1,e2,z]
 have:=Nat.div_add_mod i r.length
 have:=Nat.div_add_mod j r.length
 have a:r.length * (i / r.length) < r.length * (j / r.length):=by omega
 have b:i / r.length + 1≤j / r.length:=Nat.lt_of_mul_lt_mul_left a
 have c:=Nat.mul_le_mul_left r.length b
 rw [Nat.mul_add,Nat.mul_one] at c
 omega
theorem eE (g:Good L r) (m:aH L) {c:Nat}:cy r (c + (r.length - 1))∈rowOf L (cy r c)∧0≤cy r c∧cy r c < L.length∧dj r (c + (r.length - 1)) = (cy r (c + (r.length - 1)),cy r c):=by
 have two:=g.two
 have e:cy r (c + (r.length - 1) + 1) = cy r c:=kZ (by rw [show c + (r.length - 1) + 1 = c + r.length by omega,Nat.add_mod_right])
 have d:=g.dt (c + (r.length - 1))
 have b:=d.back m
 have ed:dj r (c + (r.length - 1)) = (cy r (c + (r.length - 1)),cy r c):=by unfold dj; rw [e]
 rw [ed] at b
 exact ⟨b.2.2.2,b.1,b.2.1,ed⟩
theorem rV {x:Int} (m:aH L) (x0:0≤x) (x1:x < L.length):(L.length:Int)∉rowOf L x:=fun z=>by
 have:=m.rg _ _ (aE x0 x1) _ z
 omega
theorem Pl.first (s:cG L) (g:Good L r) (nd:(Gm.sh 0 r).Nodup) {c:Nat} (hc:c < r.length) :
  bJ (eO L) (cy r c) (L.length:Int) (put (rowOf L (cy r c)) ((rowOf L (cy r c)).idxOf (cy r (c + (r.length - 1)))) L.length) [cy r c]∧
  Pl L r c c [c] (both (eO L) (cy r c) (L.length:Int) (put (rowOf L (cy r c)) ((rowOf L (cy r c)).idxOf (cy r (c + (r.length - 1)))) L.length) [cy r c]):=by
 have two:=g.two
 obtain ⟨z1,x0,x1,ed⟩:=eE g s.map (c:=c)
 generalize hx:cy r c = x at z1 x0 x1 ed ⊢
 generalize hz:cy r (c + (r.length - 1)) = z at z1 ed ⊢
 have nn:=rV s.map x0 x1
 have lx:rowOf (eO L) x = rowOf L x:=by rw [dN x0,if_pos x1]
 have ln:rowOf (eO L) (L.length:Int) = []:=by rw [dN (by omega),if_neg (by omega)]
 have F:bJ (eO L) x (L.length:Int) (put (rowOf L x) ((rowOf L x).idxOf z) L.length) [x]:=
  ⟨p9 s.map,x0,by rw [gb]; omega,by omega,by rw [gb]; omega,by omega,by rw [lx]; exact nn,by rw [lx]; exact eG _ _ _,by rw [ln],by rw [lx]; exact gq nn,by rw [ln]; simp⟩
 refine ⟨F,?_⟩
 generalize hM:both (eO L) x (L.length:Int) (put (rowOf L x) ((rowOf L x).idxOf z) L.length) [x] = M at F ⊢
 have FM:aH M:=hM▸F.kJ
 have Fd:Dt M (x,(L.length:Int)):=hM▸F.dt
 have Fr:rem M x (L.length:Int) = eO L:=hM▸F.rem
 have oZ:∀ {y:Int},0≤y→rowOf M y = if y = (L.length:Int) then [x] else if y = x then put (rowOf L x) ((rowOf L x).idxOf z) L.length else rowOf (eO L) y:=fun h=>hM▸F.row h
 have Ml:M.length = L.length + 1:=by rw [← hM,dv,gb]
 have xn:x≠(L.length:Int):=by omega
 have sub:∀ d,Dt L d→Dt M d:=fun d hd=>hM▸F.sub d (fL.mpr hd)
 have f1:nx M (z,x) = (x,(L.length:Int)):=by unfold nx; dsimp only; rw [oZ x0,if_neg xn,if_pos rfl,jF z1 nn]
 have f2:nx M (x,(L.length:Int)) = ((L.length:Int),x):=by
  unfold nx; dsimp only; rw [oZ (by omega),if_pos rfl]
  refine Prod.ext rfl ?_
  show pre [x] x = x
  unfold pre cy
  simp [Nat.mod_one]
 have C1:Dt L (z,x):=by
  obtain ⟨c0,c1,c2,c3⟩:=Dt.back (d:=(x,z)) ⟨x0,x1,z1⟩ s.map
  exact ⟨c0,c1,c3⟩
 have Gq:∀ d,Dt L d→d≠(z,x)→nx M d = nx L d:=fun d hd gM=>by
  have h0:=j3 FM Fd (d:=d) (by rw [Fr]; exact fL.mpr hd)
  rw [Fr,oz s.map hd] at h0
  have dm:=sub d hd
  have n1:nx M d≠((L.length:Int),x):=fun w=>by
   have:=eY FM dm Fd (w.trans f2.symm)
   rw [this] at hd
   exact rV s.map x0 x1 hd.mem
  have n2:nx M d≠(x,(L.length:Int)):=fun w=>gM (eY FM dm (sub _ C1) (w.trans f1.symm))
  rw [if_neg n1,if_neg n2] at h0
  exact h0.symm
 have Jt:nx M ((L.length:Int),x) = nx L (z,x):=by
  have h0:=j3 FM Fd (d:=(z,x)) (by rw [Fr]; exact fL.mpr C1)
  rw [Fr,oz s.map C1,f1,if_neg (fun w=>xn (congrArg Prod.fst w)),if_pos rfl] at h0
  exact h0.symm
 obtain ⟨R,D,ch⟩:=s.Fv
 obtain ⟨R',D'⟩:=kY FM
 obtain ⟨l1,l2⟩:=xG (R:=R) (z1:=z) FM Fd f2 f1 (by rw [Fr]; exact fL.mpr C1) (by rw [Fr]; exact xE s.map D) D'
 rw [Fr,xC] at l2
 have Lg:(gN M M.length).length = (gN L L.length).length + 1:=by
  have h1:=(pL FM Fd).2
  rw [Fr,xD s.map] at h1
  have h2:=fw FM
  have h3:=fw s.map
  omega
 have jX:cG M:=by
  refine ⟨FM,by have:=s.two; omega,fun y y0 y1=>?_,R',D',?_⟩
  ·by_cases e:y < L.length
   ·obtain ⟨t,ht,q⟩:=s.span y y0 e
    exact ⟨t,ht,q.mono sub⟩
   ·have ey:y = (L.length:Int):=by rw [Ml] at y1; omega
    obtain ⟨t,ht,q⟩:=s.span x x0 x1
    rw [ey]
    exact ⟨t,ht,Reach.one (d:=(x,(L.length:Int))) (q.mono sub) Fd⟩
  ·rw [Lg,Ml,l1]
   omega
 have Lb:dj r (c + (r.length - 1)) = (z,x):=ed
 refine ⟨jX,Ml,by rw [oZ (by omega),if_pos rfl,List.map_singleton,hx],⟨[],rfl⟩,fun y y0 y1 hy=>?_,sub,Nat.le_refl _,hc,fun i Sd yL=>?_,?_,?_,?_⟩
 ·have:cy r c≠y:=hy c (by simp)
  rw [hx] at this
  rw [oZ y0,if_neg (by omega),if_neg (fun w=>this w.symm),dN y0,if_pos y1]
 ·rw [Gq _ (g.dt i) (by rw [← Lb]; exact yi nd (by omega) (by omega)),g.st]
 ·rw [Lb,f1,hx]
 ·rw [hx,f2]
 ·rw [hx,Jt,← Lb,g.st]
  exact gf (by rw [show c + (r.length - 1) + 1 = c + r.length by omega,Nat.add_mod_right])
theorem Pl.next {M:List (List Int)} {c1 cj c:Nat} {dn:List Nat} (s:cG L) (g:Good L r) (nd:(Gm.sh 0 r).Nodup) (p:Pl L r c1 cj dn M) (hc:cj < c) (GO:c < r.length) (un:∀ e∈dn,cy r e≠cy r c) :
  bJ M (cy r c) (L.length:Int) (put (rowOf L (cy r c)) ((rowOf L (cy r c)).idxOf (cy r (c + (r.length - 1)))) L.length) (rowOf M (L.length:Int) ++ [cy r c])∧
  Pl L r c1 c (dn ++ [c]) (both M (cy r c) (L.length:Int) (put (rowOf L (cy r c)) ((rowOf L (cy r c)).idxOf (cy r (c + (r.length - 1)))) L.length) (rowOf M (L.length:Int) ++ [cy r c])):=by
 have two:=g.two
 have le:=p.le
 obtain ⟨z1,x0,x1,ed⟩:=eE g s.map (c:=c)
 have rx:=p.keep (cy r c) x0 x1 un
 have DA:cy r c∉rowOf M (L.length:Int):=by
  rw [p.new]
  intro w
  obtain ⟨e,he,h⟩:=List.mem_map.mp w
  exact un e he h
 have Ew:=p.new
 generalize hx:cy r c = x at z1 x0 x1 ed rx DA ⊢
 generalize hz:cy r (c + (r.length - 1)) = z at z1 ed ⊢
 have nn:=rV s.map x0 x1
 have F:bJ M x (L.length:Int) (put (rowOf L x) ((rowOf L x).idxOf z) L.length) (rowOf M (L.length:Int) ++ [x]):=
  ⟨p.sh.map,x0,by rw [p.len]; omega,by omega,by rw [p.len]; omega,by omega,by rw [rx]; exact nn,by rw [rx]; exact eG _ _ _,List.perm_append_singleton _ _,by rw [rx]; exact gq nn,rj DA⟩
 refine ⟨F,?_⟩
 obtain ⟨rest,hd⟩:=p.hd
 have BM:rowOf M (L.length:Int) = cy r c1 :: rest.map (cy r):=by rw [Ew,hd]; rfl
 have e1:dj r (c - 1) = (z,x):=by
  rw [← ed]
  exact (gf (by rw [show c + (r.length - 1) = (c - 1) + r.length by omega,Nat.add_mod_right])).symm
 have C1:Dt L (z,x):=e1▸g.dt (c - 1)
 have dyn:Dt M (cy r c1,(L.length:Int)):=by
  have:=Dt.back (d:=((L.length:Int),cy r c1)) ⟨by simp,by rw [p.len]; simp; omega,by rw [BM]; exact List.mem_cons_self⟩ p.sh.map
  exact ⟨this.1,this.2.1,this.2.2.2⟩
 have Oq:pre (put (rowOf L x) ((rowOf L x).idxOf z) L.length) z = (L.length:Int):=jF z1 nn
 have Oo:pre (rowOf M (L.length:Int) ++ [x]) (cy r c1) = x:=by rw [BM]; exact xf
 have conn:∀ P:au→Prop,P (z,x)→(∀ d,Dt M d→P d→P (nx M d))→P (cy r c1,(L.length:Int)):=fun P h0 hs=>by
  have go:∀ k,c - 1 + k≤c1 + (r.length - 1)→P (dj r (c - 1 + k)):=by
   intro k
   induction k with
   | zero=>intro _; rw [Nat.add_zero,e1]; exact h0
   | succ k ih=>
    intro hk
    have:=hs _ (p.sub _ (g.dt (c - 1 + k))) (ih (by omega))
    rw [p.i1 (c - 1 + k) (by omega) (by omega)] at this
    exact this
  have:=go (c1 + (r.length - 1) - (c - 1)) (by omega)
  rw [show c - 1 + (c1 + (r.length - 1) - (c - 1)) = c1 + (r.length - 1) by omega] at this
  have:=hs _ (p.sub _ (g.dt _)) this
  rw [p.i2] at this
  exact this
 have jX:=F.AU p.sh (z1:=z) (z2:=cy r c1) (by rw [rx]; exact z1) (by rw [BM]; exact List.mem_cons_self) Oq Oo conn
 generalize hM:both M x (L.length:Int) (put (rowOf L x) ((rowOf L x).idxOf z) L.length) (rowOf M (L.length:Int) ++ [x]) = N at F jX ⊢
 have FM:aH N:=hM▸F.kJ
 have Fd:Dt N (x,(L.length:Int)):=hM▸F.dt
 have Fr:rem N x (L.length:Int) = M:=hM▸F.rem
 have oZ:∀ {y:Int},0≤y→rowOf N y = if y = (L.length:Int) then rowOf M (L.length:Int) ++ [x] else if y = x then put (rowOf L x) ((rowOf L x).idxOf z) L.length else rowOf M y:=fun h=>hM▸F.row h
 have Nl:N.length = L.length + 1:=by rw [← hM,dv,p.len]
 have xn:x≠(L.length:Int):=by omega
 have yZ:∀ d,Dt M d→Dt N d:=fun d hd=>hM▸F.sub d hd
 have f1:nx N (z,x) = (x,(L.length:Int)):=by unfold nx; dsimp only; rw [oZ x0,if_neg xn,if_pos rfl,Oq]
 have f2:nx N (cy r c1,(L.length:Int)) = ((L.length:Int),x):=by unfold nx; dsimp only; rw [oZ (by omega),if_pos rfl,Oo]
 have Gq:∀ d,Dt M d→d≠(z,x)→d≠(cy r c1,(L.length:Int))→nx N d = nx M d:=fun d hd gM Ky=>by
  have h0:=j3 FM Fd (d:=d) (by rw [Fr]; exact hd)
  rw [Fr] at h0
  have dm:=yZ d hd
  have n1:nx N d≠((L.length:Int),x):=fun w=>Ky (eY FM dm (yZ _ dyn) (w.trans f2.symm))
  have n2:nx N d≠(x,(L.length:Int)):=fun w=>gM (eY FM dm (yZ _ (p.sub _ C1)) (w.trans f1.symm))
  rw [if_neg n1,if_neg n2] at h0
  exact h0.symm
 have Jt:nx N ((L.length:Int),x) = nx M (z,x):=by
  have h0:=j3 FM Fd (d:=(z,x)) (by rw [Fr]; exact p.sub _ C1)
  rw [Fr,f1,if_neg (fun w=>xn (congrArg Prod.fst w)),if_pos rfl] at h0
  exact h0.symm
 have ND:∀ i,dj r i≠(cy r c1,(L.length:Int)):=fun i w=>by
  have d:=g.dt i
  have:=(d.back s.map).2.1
  rw [w] at this
  simp at this
 refine ⟨jX,Nl,?_,⟨rest ++ [c],by rw [hd]; rfl⟩,fun y y0 y1 hy=>?_,fun d hd=>yZ d (p.sub d hd),by omega,GO,fun i Sd yL=>?_,?_,?_,?_⟩
 ·rw [oZ (by omega),if_pos rfl,Ew,List.map_append,List.map_singleton,hx]
 ·have h1:cy r c≠y:=hy c (by simp)
  rw [hx] at h1
  rw [oZ y0,if_neg (by omega),if_neg (fun w=>h1 w.symm)]
  exact p.keep y y0 y1 fun e he=>hy e (List.mem_append_left _ he)
 ·rw [Gq _ (p.sub _ (g.dt i)) (by rw [← e1]; exact (yi nd (by omega) (by omega)).symm) (ND i)]
  exact p.i1 i (by omega) yL
 ·rw [Gq _ (p.sub _ (g.dt _)) (by rw [← e1]; exact (yi nd (by omega) (by omega)).symm) (ND _)]
  exact p.i2
 ·rw [f2,hx]
 ·rw [hx,Jt,← e1,p.i1 (c - 1) (by omega) (by omega)]
  rw [show c - 1 + 1 = c by omega]
end
end Gm
end
section
namespace L2
open PySem PySem.Spec PySem.W PySem.Calls PyProof.Rows
theorem yA:bootBuiltins "set" = some (.type "set"):=by decide +kernel
end L2
namespace Gm
open PySem L2
theorem jB {H:Hp} {c b:Addr} {o:HO} {as:List Addr} (hc:c∈as) (hb:b∉as):upd H c o b = H b:=aq (fun z=>hb (by rw [z]; exact hc))
theorem ah.off {H H1 H2:Hp} {as:List Addr} (e:ah H H1) (fr:∀ b∈as,H b = none) (o:∀ b u,b∉as→H1 b = some u→H2 b = some u):ah H H2:=fun b u h=>o b u (fun z=>by rw [fr b z] at h; cases h) (e b u h)
theorem cG.pos {L:List (List Int)} {R:List (List au)} (s:cG L) (D:Dec L R):0 < R.length:=by
 refine Nat.pos_of_ne_zero fun z=>?_
 have R0:R = []:=List.length_eq_zero_iff.mp z
 subst R0
 have two:=s.two
 have i0:=s.Cu
 unfold iso at i0
 have:=List.countP_eq_zero.mp i0 L[0] (List.getElem_mem (by omega))
 cases q:L[0] with
 | nil=>rw [q] at this; exact this rfl
 | cons x r=>
  have d:=Reach.C3 (L:=L) (i:=0) (List.getElem?_eq_getElem (by omega)) (by rw [q]; exact List.mem_cons_self)
  have:=(D.mem _).mpr d
  cases this
theorem PR.at {H:Hp}:∀ {ps:List Addr} {T:List (Int×Int)},PR H ps T→∀ {i:Nat} {a:Addr},ps[i]? = some a→∃ x:Int×Int,T[i]? = some x∧H a = some (.tup [.int x.1,.int x.2])
 | _,_,.nil,_,_,e=>by simp at e
 | _,_,.cons r t,0,_,e=>by simp at e; subst e; exact ⟨_,rfl,r⟩
 | _,_,.cons r t,i + 1,_,e=>by
  obtain ⟨x,h1,h2⟩:=PR.at t (i:=i) (by simpa using e)
  exact ⟨x,by simpa using h1,h2⟩
theorem ug {L:List (List Int)} {d:au} (k:Nat):it L (nx L d) k = it L d (k + 1):=by
 rw [Nat.add_comm,kH]; rfl
theorem vS {L:List (List Int)} {x y:au} {l:List au} (h:Wk (nx L) x l y):l = tr L x l.length∧y = it L x l.length:=by
 induction h with
 | nil x=>exact ⟨rfl,rfl⟩
 | @cons x y l _ ih=>
  obtain ⟨h1,h2⟩:=ih
  refine ⟨?_,by rw [List.length_cons,← ug]; exact h2⟩
  rw [List.length_cons]
  unfold tr
  rw [List.range_succ_eq_map,List.map_cons,List.map_map]
  show x :: l = x :: _
  congr 1
  refine h1.trans ?_
  unfold tr
  refine List.map_congr_left fun j _=>?_
  exact ug j
theorem zc {L:List (List Int)} {d:au} {k:Nat} (hk:0 < k) (e:it L d k = d):sh 0 (az L d k) = tr L d k:=by
 have hl:(az L d k).length = k:=by unfold az; simp
 unfold sh tr
 rw [hl]
 exact List.map_congr_left fun j _=>by rw [fN hk e,Nat.add_zero]
theorem Dec.good {L:List (List Int)} {R:List (List au)} (m:aH L) (D:Dec L R) {c:List au} (hc:c∈R):Good L (c.map (·.1))∧sh 0 (c.map (·.1)) = c∧c.Nodup:=by
 obtain ⟨x,l,e,k⟩:=D.jt c hc
 obtain ⟨h1,h2⟩:=vS k
 have k0:0 < c.length:=by rw [e]; simp
 have dx:Dt L x:=(D.mem x).mp (List.mem_flatten.mpr ⟨c,hc,by rw [e]; exact List.mem_cons_self⟩)
 have er:c.map (·.1) = az L x c.length:=by
  conv=>lhs; rw [h1]
  unfold az tr
  rw [List.map_map]; rfl
 have hn:c.Nodup:=(List.pairwise_flatten.mp D.nd).1 c hc
 rw [er]
 exact ⟨mK m dx k0 h2.symm,(zc k0 h2.symm).trans h1.symm,hn⟩
theorem Good.on {L:List (List Int)} {r:List Int} (g:Good L r) {P:au→Prop} (hs:∀ d,Dt L d→P d→P (nx L d)) {i:Nat} (h:P (dj r i)) (j:Nat):P (dj r j):=by
 have two:=g.two
 have go:∀ k,P (dj r (i + k)):=by
  intro k
  induction k with
  | zero=>exact h
  | succ k ih=>have:=hs _ (g.dt _) ih; rw [g.st] at this; exact this
 have:=go (j + i * r.length - i)
 have e:i≤i * r.length:=Nat.le_mul_of_pos_right i (by omega)
 rw [show i + (j + i * r.length - i) = j + i * r.length by omega] at this
 rw [gf (i:=j + i * r.length) (j:=j) (by rw [Nat.add_mul_mod_self_right])] at this
 exact this
theorem sN:cG [[1],[0]]:=by
 have m:aH [[1],[0]]:=by
  refine iw fun x x0 x1=>?_
  have x1:x < 2:=x1
  have:x = 0∨x = 1:=by omega
  rcases this with rfl | rfl
  ·refine ⟨by decide,fun y hy=>?_⟩
   have:y = 1:=List.mem_singleton.mp hy
   subst this
   decide
  ·refine ⟨by decide,fun y hy=>?_⟩
   have:y = 0:=List.mem_singleton.mp hy
   subst this
   decide
 have dd:eL [[1],[0]] 2 = [((0:Int),(1:Int)),(1,0)]:=rfl
 refine ⟨m,by decide,fun x x0 x1=>?_,[[(0,1),(1,0)]],⟨fun c hc=>?_,by decide,fun d=>?_⟩,by decide⟩
 ·have x1:x < 2:=x1
  have:x = 0∨x = 1:=by omega
  rcases this with rfl | rfl
  ·exact ⟨0,by simp,.here⟩
  ·exact ⟨0,by simp,Reach.one (d:=(0,1)) .here (Dt.of (by show _∈eL [[1],[0]] 2; rw [dd]; simp))⟩
 ·rw [List.mem_singleton.mp hc]
  exact ⟨(0,1),[(1,0)],rfl,.cons (.cons (.nil _))⟩
 ·have e:d∈eL [[1],[0]] 2↔Dt [[1],[0]] d:=⟨fun h=>Dt.of h,fun h=>h.all⟩
  rw [← e,dd]
  simp
theorem mD {M:List (List Int)} {x:Int} {n:Nat} {A B:List Int} (hn:M.length = n + 1) (x1:x.toNat < n):(both M x (n:Int) A B).take n = (M.take n).set x.toNat A:=by
 unfold both
 rw [Int.toNat_natCast]
 apply List.ext_getElem?
 intro i
 rw [List.getElem?_take]
 by_cases h:i < n
 ·rw [if_pos h,List.getElem?_set_ne (by omega)]
  by_cases e:i = x.toNat
  ·subst e
   rw [List.getElem?_set,if_pos rfl,if_pos (by omega),List.getElem?_set,if_pos rfl,if_pos (by rw [List.length_take]; omega)]
  ·rw [List.getElem?_set_ne (fun w=>e w.symm),List.getElem?_set_ne (fun w=>e w.symm),List.getElem?_take,if_pos h]
 ·rw [if_neg h,List.getElem?_eq_none (by rw [List.length_set,List.length_take]; omega)]
theorem uL {M:List (List Int)} {n:Nat} (hn:M.length = n + 1):M.take n ++ [rowOf M (n:Int)] = M:=by
 have h:=aE (L:=M) (a:=(n:Int)) (by omega) (by omega)
 rw [Int.toNat_natCast] at h
 rw [← take_snoc h,List.take_of_length_le (by omega)]
end Gm
end
section
namespace L2
open PySem PySem.Spec PySem.W PySem.Calls PyProof.Rows
def Bu (K:Frag) (a b:Addr):It:=
 ⟨fun i H=>∃ xs ys x y,ay K H a xs∧ay K H b ys∧xs[i]? = some x∧ys[i]? = some y,
  fun i H v H'=>∃ p x y,H p = none∧v = .ref p∧(∀ xs,ay K H a xs→xs[i]? = some x)∧(∀ ys,ay K H b ys→ys[i]? = some y)∧H' = upd H p (.tup [x,y]),
  fun i H=>∃ xs ys,ay K H a xs∧ay K H b ys∧(xs.length≤i∨ys.length≤i)⟩
theorem vW {P:Program} {w:World} {K:Frag} {elts:List Expr} {kx:Nat} {px:Pos} {a b z TI TO i1 i2:Addr} (D:ZipApart z TI TO i1 i2 a b) :
  Turn P w K (.Tuple elts kx px) (Bu K a b) [z,TI,TO,i1,i2] z (fun i h=>IsZip h z TI TO .none∧IsPair h TI (.ref i1) (.ref i2)∧(∃ u v,IsPair h TO u v)∧h.IsListIter i1 a i∧h.IsListIter i2 b i) where
 mem:=by simp
 obj:=fun i h st c hc=>by
  obtain ⟨h1,h2,⟨u,v,h3⟩,h4,h5⟩:=st
  simp only [List.mem_cons,List.not_mem_nil,or_false] at hc
  rcases hc with rfl | rfl | rfl | rfl | rfl
  ·exact ⟨_,h1,fun v q=>by cases q⟩
  ·exact ⟨_,h2,fun v q=>by cases q⟩
  ·exact ⟨_,h3,fun v q=>by cases q⟩
  ·obtain ⟨o,e1,_,d⟩:=h4; exact ⟨o,e1,fun v q=>by rw [d] at q; cases q⟩
  ·obtain ⟨o,e1,_,d⟩:=h5; exact ⟨o,e1,fun v q=>by rw [d] at q; cases q⟩
 keep:=fun i h h' st k=>by
  obtain ⟨h1,h2,⟨u,v,h3⟩,h4,h5⟩:=st
  exact ⟨k z (by simp) _ h1,k TI (by simp) _ h2,⟨u,v,k TO (by simp) _ h3⟩,h4.at fun o q=>k i1 (by simp) o q,h5.at fun o q=>k i2 (by simp) o q⟩
 item:=by
  intro X hP hw hK hc i pins s σ H E I hf st hg
  subst hP hw hK
  obtain ⟨h1,h2,⟨u,v,h3⟩,h4,h5⟩:=st
  obtain ⟨xs,ys,x,y,vd,zQ,hx,hy⟩:=hg
  obtain ⟨ia,ra,pa,za⟩:=I.list vd
  obtain ⟨ib,rb,pb,zb⟩:=I.list zQ
  obtain ⟨u1,RG,DW⟩:=ra.get hx
  obtain ⟨u2,RF,DV⟩:=rb.get hy
  have lt:∀ c∈[z,TI,TO,i1,i2],c < s.heap.objs.size:=fun c hc=>by
   simp only [List.mem_cons,List.not_mem_nil,or_false] at hc
   rcases hc with rfl | rfl | rfl | rfl | rfl
   ·exact Heap.lt_size h1
   ·exact Heap.lt_size h2
   ·exact Heap.lt_size h3
   ·obtain ⟨_,q,_⟩:=id h4; exact Heap.lt_size q
   ·obtain ⟨_,q,_⟩:=id h5; exact Heap.lt_size q
  refine wpAny_pyNext_zip_item D h1 h2 h3 h4 h5 pa.isList pb.isList (x:=u1) (y:=u2) (by simpa using RG) (by simpa using RF) fun h' k1 k2 k3 k4 hT hsz hk=>⟨_,rfl,?_⟩
  refine wpAny_letOwnedTupleGo_zip k1 fun qw vN vM=>?_
  have hn:H s.heap.objs.size = none:=I.bA.fresh (Nat.le_refl _)
  have nz:s.heap.objs.size≠z:=Nat.ne_of_gt (lt z (by simp))
  have kk:∀ c o,c∉[z,TI,TO,i1,i2]→s.heap.get? c = some o→qw.get? c = some o:=fun c o hc q=>by
   simp only [List.mem_cons,List.not_mem_nil,or_false,not_or] at hc
   exact (vM.2 c hc.1).trans (hk c o hc.1 hc.2.2.1 hc.2.2.2.1 hc.2.2.2.2 q)
  have K1:qw.get? s.heap.objs.size = some { cls:=.type "tuple",data:=.seq #[u1,u2] }:=(vM.2 _ nz).trans hT
  refine ⟨.ref s.heap.objs.size,upd H s.heap.objs.size (.tup [x,y]),Inv.iQ (s:=s) (h':=qw) (t':=s.toks) I kk hf (Nat.le_refl _) ⟨by simp only [List.length_cons,List.length_nil]; rw [sizeLine_eq]; decide,[u1,u2],.cons DW (.cons DV .nil),⟨_,K1,rfl,_,rfl⟩⟩,rfl,
   ⟨_,x,y,hn,rfl,fun Dz Kd=>by rw [I.iq Kd vd]; exact hx,fun Dz Kd=>by rw [I.iq Kd zQ]; exact hy,rfl⟩,⟨vN,?_,⟨u1,u2,(vM.2 _ D.TOz).trans k2⟩,k3.at fun o q=>(vM.2 i1 D.i1z).trans q,k4.at fun o q=>(vM.2 i2 D.i2z).trans q⟩,fun c hc=>?_⟩
  ·exact (vM.2 _ D.TIz).trans (hk TI _ D.TIz D.TITO D.TIi1 D.TIi2 h2)
  ·rw [aq (Nat.ne_of_lt (lt c hc))]
   exact (hf c hc).1
 done:=by
  intro X hP hw hK hc i pins s σ H E I hf st hg
  subst hP hw hK
  obtain ⟨h1,h2,⟨u,v,h3⟩,h4,h5⟩:=st
  obtain ⟨xs,ys,vd,zQ,qk⟩:=hg
  obtain ⟨ia,ra,pa,za⟩:=I.list vd
  obtain ⟨ib,rb,pb,zb⟩:=I.list zQ
  have la:=ra.length
  have lb:=rb.length
  refine wpAny_pyNext_zip_end (I.ok.hd hc) D h1 h2 h3 h4 h5 pa.isList pb.isList ?_ fun h' eb=>⟨rfl,Inv.tu (t':=s.toks) (ch:=[z,TI,TO,i1,i2]) I (fun c o hc q=>?_) hf⟩
  ·rcases qk with q | q
   ·left; simp; omega
   ·right; simp; omega
  ·simp only [List.mem_cons,List.not_mem_nil,or_false,not_or] at hc
   exact eb c o hc.1 hc.2.2.1 hc.2.2.2.1 hc.2.2.2.2 q
 self:=fun _ _ _ _ _ st h=>wpAny_pyIter_zip st.1 h
def Ka (K:Frag) (ta:TA):TI:=fun σ H R=>ta σ H fun vs H1=>∃ a b,vs = [.ref a,.ref b]∧(∃ xs,ay K H1 a xs)∧(∃ ys,ay K H1 b ys)∧R (Bu K a b) H1
theorem nv:bootBuiltins "zip" = some (.type "zip"):=by decide +kernel
theorem xg {X:Cx} {l m:Expr} {ta:TA} {p pos:Pos} {elts:List Expr} {kx:Nat} {px:Pos} (hm:X.mg "zip" = none) (ha:PA X [l,m] ta) (hg:Gl X "zip":=by rfl) (he:starEach [l,m] X.env = (false,eval l X.env) :: starEach [m] X.env:=by rfl) (mZ:(backTo pos (starEach [m] X.env)).any (·.1) = false:=by rfl) :
  PI X (.Tuple elts kx px) (.Call (.Name "zip" p) [l,m] [] pos) (Ka X.K ta):=by
 intro pins s σ H R I h
 refine Call_ (dU I hg hm nv (PyProof.Rows.callWith_type1 (cS (ha pos pins s σ H _ I h) fun us s1 ⟨vs,H1,I1,r1,q1⟩=>?_) he mZ))
 obtain ⟨a,b,rfl,⟨xs,vd⟩,⟨ys,zQ⟩,q⟩:=q1
 obtain ⟨u1,u2,rfl,DW,DV⟩:=vals2 r1
 cases DW
 cases DV
 obtain ⟨ia,ra,pa,za⟩:=I1.list vd
 obtain ⟨ib,rb,pb,zb⟩:=I1.list zQ
 have zH:a < s1.heap.objs.size:=by obtain ⟨_,e,_⟩:=pa.isList; exact Heap.lt_size e
 have zG:b < s1.heap.objs.size:=by obtain ⟨_,e,_⟩:=pb.isList; exact Heap.lt_size e
 have ne:∀ {j k:Nat},j≠k→s1.heap.objs.size + j≠s1.heap.objs.size + k:=fun h z=>h (Nat.add_left_cancel z)
 have nl:∀ {c:Addr} (k:Nat),c < s1.heap.objs.size→c≠s1.heap.objs.size + k:=fun k l=>Nat.ne_of_lt (Nat.lt_of_lt_of_le l (Nat.le_add_right _ _))
 have D:ZipApart (s1.heap.objs.size + 4) (s1.heap.objs.size + 2) (s1.heap.objs.size + 3) s1.heap.objs.size (s1.heap.objs.size + 1) a b:=
  ⟨ne (by decide),ne (by decide),ne (j:=0) (by decide),ne (by decide),ne (by decide),ne (k:=0) (by decide),ne (by decide),ne (k:=0) (by decide),ne (by decide),ne (j:=0) (by decide),nl _ zH,nl _ zH,nl 0 zH,nl _ zH,nl _ zG,nl _ zG,nl 0 zG,nl _ zG⟩
 refine call_zip_2 pa.isList pb.isList fun h' hz qV vh h1 h2 hsz hk=>?_
 refine wpAny_pyIter_zip hz ?_
 have I2:Inv X pins σ H1 { s1 with heap:=h' }:=I1.kept (t':=s1.toks) fun c o e=>hk c o e
 refine ⟨_,[s1.heap.objs.size + 4,s1.heap.objs.size + 2,s1.heap.objs.size + 3,s1.heap.objs.size,s1.heap.objs.size + 1],_,_,H1,rfl,I2,vW D,⟨hz,qV,⟨_,_,vh⟩,h1,h2⟩,fun c hc=>?_,q⟩
 have le:s1.heap.objs.size≤c:=by
  simp only [List.mem_cons,List.not_mem_nil,or_false] at hc
  rcases hc with rfl | rfl | rfl | rfl | rfl
  ·exact Nat.le_add_right _ _
  ·exact Nat.le_add_right _ _
  ·exact Nat.le_add_right _ _
  ·exact Nat.le_refl _
  ·exact Nat.le_add_right _ _
 exact I1.vm le (I1.bA.fresh le)
theorem Aa {K:Frag} {a b:Addr} {xs ys:List V} {g:TG} {tb:TS} {D:Ends} {σ : St} {H:Hp} (Pv:Nat→St→Hp→Prop) (h0:Pv 0 σ H) (lX:xs.length = ys.length) (hl:∀ i σ H,i≤xs.length→Pv i σ H→ay K H a xs∧ay K H b ys)
  (hs:∀ i x y p σ H,xs[i]? = some x→ys[i]? = some y→Pv i σ H→H p = none→g (.ref p) σ (upd H p (.tup [x,y])) fun σ2 H2=>tb { D with nx:=Pv (i + 1),ct:=Pv (i + 1),bk:=D.nx } σ2 H2) (hd:∀ σ H,Pv xs.length σ H→D.nx σ H) :
  ∃ W:Nat→Nat→St→Hp→Prop,(∃ m,W 0 m σ H)∧∀ i m σ H,W i m σ H→
   ((Bu K a b).stop i H∧D.nx σ H)∨((Bu K a b).go i H∧∃ N:St→Hp→Prop,(∀ σ' H',N σ' H'→∃ m',m' < m∧W (i + 1) m' σ' H')∧∀ x H',(Bu K a b).vG i H x H'→g x σ H' fun σ2 H2=>tb { D with nx:=N,ct:=N,bk:=D.nx } σ2 H2):=by
 refine ⟨fun i m σ H=>m = xs.length - i∧i≤xs.length∧Pv i σ H,⟨xs.length,by simp,Nat.zero_le _,h0⟩,?_⟩
 rintro i m σ H ⟨rfl,hi,p⟩
 obtain ⟨qa,qb⟩:=hl i σ H hi p
 by_cases eV:i < xs.length
 ·have KC:i < ys.length:=by omega
  refine .inr ⟨⟨xs,ys,xs[i],ys[i],qa,qb,by simp [eV],by simp [KC]⟩,Pv (i + 1),fun σ' H' p'=>⟨xs.length - (i + 1),by omega,rfl,eV,p'⟩,fun x H' y=>?_⟩
  obtain ⟨r,u,v,hr,rfl,hu,hv,rfl⟩:=y
  exact hs i u v r σ H (hu xs qa) (hv ys qb) p hr
 ·have e:i = xs.length:=by omega
  subst e
  exact .inl ⟨⟨xs,ys,qa,qb,.inl (Nat.le_refl _)⟩,hd σ H p⟩
end L2
end
section
namespace Gm
open PySem L2
theorem ud:∀ {l r:List (List Int)},l.Pairwise (fun a b=>HT.lexLt a b = true)→r.Pairwise (fun a b=>HT.lexLt a b = true)→(∀ x,x∈l↔x∈r)→l = r
 | [],[],_,_,_=>rfl
 | [],b :: r,_,_,h=>absurd ((h b).mpr List.mem_cons_self) (by simp)
 | a :: l,[],_,_,h=>absurd ((h a).mp List.mem_cons_self) (by simp)
 | a :: l,b :: r,hl,hr,h=>by
  obtain ⟨l1,l2⟩:=List.pairwise_cons.mp hl
  obtain ⟨r1,r2⟩:=List.pairwise_cons.mp hr
  have Rr:∀ {x y:List Int},HT.lexLt x y = true→HT.lexLt y x = true→False:=fun p q=>by have:=qc p; rw [q] at this; cases this
  have e:a = b:=by
   rcases List.mem_cons.mp ((h a).mp List.mem_cons_self) with z | z
   ·exact z
   ·rcases List.mem_cons.mp ((h b).mpr List.mem_cons_self) with y | y
    ·exact y.symm
    ·exact (Rr (r1 a z) (l1 b y)).elim
  subst e
  have nn:∀ {x:List Int},HT.lexLt x x = true→False:=fun p=>by rw [jH] at p; cases p
  rw [ud l2 r2 fun x=>?_]
  constructor
  ·intro z
   rcases List.mem_cons.mp ((h x).mp (List.mem_cons_of_mem _ z)) with y | y
   ·subst y; exact (nn (l1 x z)).elim
   ·exact y
  ·intro z
   rcases List.mem_cons.mp ((h x).mpr (List.mem_cons_of_mem _ z)) with y | y
   ·subst y; exact (nn (r1 x z)).elim
   ·exact y
theorem Good.it {L:List (List Int)} {r:List Int} (g:Good L r) (j:Nat):∀ i,dj r (j + i) = Gm.it L (dj r j) i
 | 0=>rfl
 | i + 1=>by show dj r (j + i + 1) = nx L (Gm.it L (dj r j) i); rw [← g.it j i,g.st]
theorem uQ {L:List (List Int)} {r q:List Int} (g:Good L r) (k:Good L q) (n1:(sh 0 r).Nodup) (n2:(sh 0 q).Nodup) {j:Nat} (h:dj r 0 = dj q j):∃ c,c < q.length∧r = cz q c:=by
 have r0:0 < r.length:=by have:=g.two; omega
 have q0:0 < q.length:=by have:=k.two; omega
 have mem:∀ x,x∈sh 0 r↔x∈sh 0 q:=fun x=>by
  have cr:=g.jt
  have cq:=k.jt
  have hr:dj r 0∈sh 0 r:=(eI r0).mpr ⟨0,rfl⟩
  have hq:dj r 0∈sh 0 q:=(eI q0).mpr ⟨j,h⟩
  constructor
  ·intro z; exact cr.conn (P:=fun d=>d∈sh 0 q) hr z hq fun d _ hd=>cq.on hd
  ·intro z; exact cq.conn (P:=fun d=>d∈sh 0 r) hq z hr fun d _ hd=>cr.on hd
 have len:r.length = q.length:=by have:=len_eq n1 n2 mem; rwa [cW,cW] at this
 refine ⟨j % q.length,Nat.mod_lt _ q0,?_⟩
 refine yl (by rw [cV (Nat.le_of_lt (Nat.mod_lt _ q0)),len]) fun i=>?_
 rw [gP (Nat.mod_lt _ q0)]
 have e1:dj r i = dj q (j + i):=by
  have h1:=g.it 0 i
  have h2:=k.it j i
  rw [Nat.zero_add] at h1
  rw [h1,h2,h]
 have e2:cy r i = cy q (j + i):=congrArg Prod.fst e1
 rw [e2]
 exact kZ (by rw [Nat.add_mod_mod,Nat.add_comm])
theorem dw.sub {L R S:List (List Int)} (h:dw L R) (k:dw L S) {r:List Int} (hr:r∈R):r∈S:=by
 have g:=h.good r hr
 have r0:0 < r.length:=by have:=g.two; omega
 obtain ⟨q,hq,hd⟩:=List.mem_flatMap.mp (k.all _ (g.dt 0))
 have kq:=k.good q hq
 have q0:0 < q.length:=by have:=kq.two; omega
 obtain ⟨j,ej⟩:=(eI q0).mp hd
 have n1:(sh 0 r).Nodup:=(List.pairwise_flatMap.mp h.nd).1 r hr
 have n2:(sh 0 q).Nodup:=(List.pairwise_flatMap.mp k.nd).1 q hq
 obtain ⟨c,hc,e⟩:=uQ g kq n1 n2 ej
 have l1:Le q r:=by rw [e]; exact k.least q hq c hc
 have l2:Le r q:=by
  by_cases z:c = 0
  ·have:r = q:=by rw [e,z]; unfold cz; simp
   rw [this]; exact Le.refl _
  ·have hl:r.length = q.length:=by rw [e,cV (Nat.le_of_lt hc)]
   have:=h.least r hr (q.length - c) (by omega)
   rw [e] at this ⊢
   rw [tL hc (by omega),show q.length - c + c = q.length by omega,Nat.mod_self] at this
   have P9:cz q 0 = q:=by unfold cz; simp
   rw [P9] at this
   exact this
 rw [Le.FU l2 l1]; exact hq
theorem dw.unique {L R S:List (List Int)} (h:dw L R) (k:dw L S):R = S:=ud h.sorted k.sorted fun _=>⟨fun z=>h.sub k z,fun z=>k.sub h z⟩
theorem Lp.Me {L R:List (List Int)} {ks:List au} {r:List Int} {c:Nat} (p:Lp L R ks) (g:Good L r) (hc:c < r.length) (hl:∀ j,j < r.length→Le (cz r c) (cz r j)) (nd:(ks ++ sh 0 r).Nodup):Lp L (R ++ [cz r c]) (ks ++ sh 0 r):=by
 refine ⟨fun q hq=>?_,fun q hq=>?_,nd,?_,?_⟩
 ·rcases List.mem_append.mp hq with z | z
  ·exact p.good q z
  ·rw [List.mem_singleton.mp z]; exact g.cz hc
 ·rcases List.mem_append.mp hq with z | z
  ·exact p.least q z
  ·rw [List.mem_singleton.mp z]; exact mU hc hl
 ·rw [List.flatMap_append,List.flatMap_singleton,wq hc]
  exact p.pm.append (fB _ _).symm
 ·have:=g.two
  have:=p.two
  rw [List.length_append,List.length_append,List.length_singleton,cW]
  omega
def fR (a b:List Int):Prop:=a = b∨∃ c,c < b.length∧a = cz b c
theorem fR.refl (a:List Int):fR a a:=.inl rfl
theorem fR.len {a b:List Int} (h:fR a b):a.length = b.length:=by
 rcases h with rfl | ⟨c,hc,rfl⟩
 ·rfl
 ·exact cV (Nat.le_of_lt hc)
theorem fR.idx {a b:List Int} (h:fR a b) (n:b.Nodup) {x:Int} {t:List Int} (e:a = x :: t):x∈b∧cz b (b.idxOf x) = a:=by
 have h':∃ c,c < b.length∧a = cz b c:=by
  rcases h with rfl | h
  ·exact ⟨0,by rw [e]; simp,by unfold cz; simp⟩
  ·exact h
 obtain ⟨c,hc,ea⟩:=h'
 have hx:x = b[c]:=by
  rw [ea,jY hc] at e
  injection e with e1 e2
  rw [← e1,iD hc]
 have mem:x∈b:=by rw [hx]; exact List.getElem_mem _
 have ix:=List.idxOf_lt_length_of_mem mem
 have g:=List.getElem_idxOf ix
 have:b.idxOf x = c:=(List.getElem_inj n).mp (g.trans hx)
 exact ⟨mem,by rw [this,ea]⟩
end Gm
namespace L2
open PySem PySem.Spec PySem.W PySem.Calls PyProof.Rows
theorem C7:bootBuiltins "max" = some (.builtin "max"):=by decide +kernel
end L2
namespace Gm
open PySem L2
def Mq (L M:List (List Int)):Prop:=L.length = M.length∧∀ (i:Nat) (l m:List Int),L[i]? = some l→M[i]? = some m→fR l m
end Gm
end
section
namespace Gm
open PySem L2
theorem FO (l:Nat):∃ c:Nat,(if (if (l:Int) > 1 then (l:Int) else 1) < 12 then (if (l:Int) > 1 then (l:Int) else 1) else 12) = (c:Int)∧c≤12:=by
 by_cases h:(l:Int) > 1
 ·rw [if_pos h]
  by_cases h2:(l:Int) < 12
  ·rw [if_pos h2]; exact ⟨l,rfl,by omega⟩
  ·rw [if_neg h2]; exact ⟨12,rfl,Nat.le_refl _⟩
 ·rw [if_neg h]; exact ⟨1,rfl,by decide⟩
end Gm
end
section
namespace PySem
abbrev mq (h:Heap) (z TI TO a:Addr) (f:Bool):Prop:=
 h.get? z = some { cls:=.type "zip",dict:=none,data:=.fields #[rawInt a,.bool f,.bool false,.ref TI,.ref TO],slots:=#[] }
section
variable {prog:Program} {w:World} {A:Around} {E:Value→Shared→Prop} {s:Shared}
theorem vR {a:Addr} {o:Obj} {Q:Option Obj→Shared→Prop} (ho:s.heap.get? a = some o) (h:Q (some o) s):wpAny (model prog w) A (loadIfAlive a) Q E s:=by
 have h':Q (s.heap.get? a) s:=by rw [ho]; exact h
 exact fun _ _ _=>h'
theorem sX {z TI TO a:Addr} {f:Bool} {oa:Obj} {Q:Bool→Shared→Prop} (hz:mq s.heap z TI TO a f) (ha:s.heap.get? a = some oa)
  (h:∀ h',mq h' z TI TO a true→Heap.SameBut z s.heap h'→Q false { s with heap:=h' }):wpAny (model prog w) A (Builtin.SmallTypes.ownedTupleIsFree (.ref z)) Q E s:=by
 unfold Builtin.SmallTypes.ownedTupleIsFree
 refine wpAny_bind (wpAny_field hz rfl (x:=rawInt a) rfl ?_)
 show wpAny _ _ (loadIfAlive ((a:Int).toNat) >>= _) _ _ _
 rw [Int.toNat_natCast]
 refine wpAny_bind (vR ha ?_)
 simp only [Option.isNone_some,Bool.false_eq_true,if_false]
 refine wpAny_bind (wpAny_field hz rfl (x:=.bool f) rfl ?_)
 cases f with
 | true=>
  rw [if_neg (show ¬ ((Value.bool true != Value.bool true) = true) from Bool.false_ne_true)]
  exact wpAny_pure (h _ hz (Heap.SameBut.refl _ _))
 | false=>
  rw [if_pos (show (Value.bool false != Value.bool true) = true from rfl)]
  refine wpAny_bind (wpAny_setField_rec hz (by simp) fun h₃ he₃ hs₃=>?_)
  exact wpAny_pure (h _ he₃ hs₃)
theorem yU {z TI TO i1 i2 l1 l2 a:Addr} {f:Bool} {oa:Obj} {k1 k2:Nat} {xs ys:Array Value} {x y:Value} {Q:Value→Shared→Prop} (D:ZipApart z TI TO i1 i2 l1 l2)
  (hz:mq s.heap z TI TO a f) (ha:s.heap.get? a = some oa) (qV:IsPair s.heap TI (.ref i1) (.ref i2))
  (h1:s.heap.IsListIter i1 l1 k1) (h2:s.heap.IsListIter i2 l2 k2) (iz:s.heap.IsList l1 xs) (jq:s.heap.IsList l2 ys) (hx:xs[k1]? = some x) (hy:ys[k2]? = some y)
  (hQ:∀ h',mq h' z TI TO a true→h'.IsListIter i1 l1 (k1 + 1)→h'.IsListIter i2 l2 (k2 + 1)→IsPair h' s.heap.objs.size x y→h'.objs.size = s.heap.objs.size + 1→
   (∀ c o,c≠z→c≠i1→c≠i2→s.heap.get? c = some o→h'.get? c = some o)→Q (.ref s.heap.objs.size) { s with heap:=h' }) :
  wpAny (model prog w) A (Builtin.«zip.__next__» ⟨[.ref z],[]⟩) (fun fin s'=>∃ v,fin = .done (.ret v)∧Q v s') E s:=by
 show wpAny _ _ (field (.ref z) 2 >>= _) _ _ _
 refine wpAny_bind (wpAny_field hz rfl (x:=.bool false) rfl ?_)
 show wpAny _ _ (field (.ref z) 3 >>= _) _ _ _
 refine wpAny_bind (wpAny_field hz rfl (x:=.ref TI) rfl ?_)
 refine wpAny_bind (wpAny_seqItems qV rfl ?_)
 show wpAny _ _ (Builtin.SmallTypes.ownedTupleIsFree (.ref z) >>= _) _ _ _
 refine wpAny_bind (sX hz ha fun h₁ hz₁ hs₁=>?_)
 simp only [Bool.false_eq_true,if_false]
 refine wpAny_bind ?_
 rw [← Array.forIn_toList]
 simp only [List.forIn_cons,List.forIn_nil]
 refine wpAny_bind (wpAny_bind (wpAny_holding ?_))
 show wpAny _ _ (Builtin.SmallTypes.nextOf (.ref i1) >>= _) _ _ _
 refine wpAny_bind (wpAny_nextOf_list_item (h1.extBut hs₁.extBut D.i1z) (iz.extBut hs₁.extBut D.l1z) hx fun h₂ h1₂ hs₂=>wpAny_pure (wpAny_pure ?_))
 refine wpAny_bind (wpAny_bind (wpAny_holding ?_))
 show wpAny _ _ (Builtin.SmallTypes.nextOf (.ref i2) >>= _) _ _ _
 refine wpAny_bind (wpAny_nextOf_list_item ((h2.extBut hs₁.extBut D.i2z).extBut hs₂.extBut D.i12.symm)
  ((jq.extBut hs₁.extBut D.l2z).extBut hs₂.extBut D.l2i1) hy fun h₄ h2₄ hs₄=>wpAny_pure (wpAny_pure (wpAny_pure ?_)))
 refine wpAny_bind (wpAny_newTuple (hsz:=by show 2≤sizeLine; rw [sizeLine_eq]; decide) ?_)
 refine wpAny_pure ⟨_,rfl,?_⟩
 have hsz:h₄.objs.size = s.heap.objs.size:=by rw [hs₄.1,hs₂.1,hs₁.1]
 have hz₄ : mq h₄ z TI TO a true:=hs₄.extBut _ _ D.i2z.symm (hs₂.extBut _ _ D.i1z.symm hz₁)
 have h1₄ : h₄.IsListIter i1 l1 (k1 + 1):=h1₂.extBut hs₄.extBut D.i12
 show Q (.ref h₄.objs.size) _
 rw [hsz]
 refine hQ _ (Heap.get?_push_of_some _ hz₄) (h1₄.at fun o e=>Heap.get?_push_of_some _ e) (h2₄.at fun o e=>Heap.get?_push_of_some _ e) (by rw [← hsz]; exact Heap.get?_push_size _ rfl) (by rw [Heap.size_push,hsz]) fun c o c1 c2 c3 e=>
  Heap.get?_push_of_some _ (hs₄.extBut _ _ c3 (hs₂.extBut _ _ c2 (hs₁.extBut _ _ c1 e)))
theorem By {z TI TO i1 i2 l1 l2 a:Addr} {f:Bool} {oa:Obj} {k1 k2:Nat} {xs ys:Array Value} {Q:Fin→Shared→Prop} (hh:A.handled = none) (D:ZipApart z TI TO i1 i2 l1 l2)
  (hz:mq s.heap z TI TO a f) (ha:s.heap.get? a = some oa) (qV:IsPair s.heap TI (.ref i1) (.ref i2))
  (h1:s.heap.IsListIter i1 l1 k1) (h2:s.heap.IsListIter i2 l2 k2) (iz:s.heap.IsList l1 xs) (jq:s.heap.IsList l2 ys) (qk:xs[k1]? = none)
  (hE:∀ h' e,(∀ c o,c≠z→c≠i1→c≠i2→s.heap.get? c = some o→h'.get? c = some o)→(∃ o,h'.get? e = some o∧o.cls = .type "StopIteration")→E (.ref e) { s with heap:=h' }) :
  wpAny (model prog w) A (Builtin.«zip.__next__» ⟨[.ref z],[]⟩) Q E s:=by
 show wpAny _ _ (field (.ref z) 2 >>= _) _ _ _
 refine wpAny_bind (wpAny_field hz rfl (x:=.bool false) rfl ?_)
 show wpAny _ _ (field (.ref z) 3 >>= _) _ _ _
 refine wpAny_bind (wpAny_field hz rfl (x:=.ref TI) rfl ?_)
 refine wpAny_bind (wpAny_seqItems qV rfl ?_)
 show wpAny _ _ (Builtin.SmallTypes.ownedTupleIsFree (.ref z) >>= _) _ _ _
 refine wpAny_bind (sX hz ha fun h₁ hz₁ hs₁=>?_)
 simp only [Bool.false_eq_true,if_false]
 refine wpAny_bind ?_
 rw [← Array.forIn_toList]
 simp only [List.forIn_cons,List.forIn_nil]
 refine wpAny_bind (wpAny_bind (wpAny_holding ?_))
 show wpAny _ _ (Builtin.SmallTypes.nextOf (.ref i1) >>= _) _ _ _
 refine wpAny_bind (wpAny_nextOf_list_end hh (h1.extBut hs₁.extBut D.i1z) (iz.extBut hs₁.extBut D.l1z) qk fun h₂ e hs₂ he=>?_)
 exact hE h₂ e (fun c o c1 c3 _ x=>hs₂ _ _ c3 (hs₁.extBut _ _ c1 x)) he
theorem uG {z TI TO i1 i2 l1 l2 a:Addr} {f:Bool} {oa:Obj} {k1 k2:Nat} {xs ys:Array Value} {x y:Value} {Q:Option Value→Shared→Prop} (D:ZipApart z TI TO i1 i2 l1 l2)
  (hz:mq s.heap z TI TO a f) (ha:s.heap.get? a = some oa) (qV:IsPair s.heap TI (.ref i1) (.ref i2))
  (h1:s.heap.IsListIter i1 l1 k1) (h2:s.heap.IsListIter i2 l2 k2) (iz:s.heap.IsList l1 xs) (jq:s.heap.IsList l2 ys) (hx:xs[k1]? = some x) (hy:ys[k2]? = some y)
  (hQ:∀ h',mq h' z TI TO a true→h'.IsListIter i1 l1 (k1 + 1)→h'.IsListIter i2 l2 (k2 + 1)→IsPair h' s.heap.objs.size x y→h'.objs.size = s.heap.objs.size + 1→
   (∀ c o,c≠z→c≠i1→c≠i2→s.heap.get? c = some o→h'.get? c = some o)→Q (some (.ref s.heap.objs.size)) { s with heap:=h' }) :
  wpAny (model prog w) A (pyNext (.ref z)) Q E s:=by
 have hT:s.TypeIs (.ref z) "zip":=⟨_,hz,rfl⟩
 unfold pyNext
 exact wpAny_bind (wpAny_attempt (wpAny_callSpecial?_slot (name:=Str.ofString "__next__") hT F.slot_zip_next
  (wpAny_call_entry F.slot_zip_next hT F.entry_zip_next
   (yU D hz ha qV h1 h2 iz jq hx hy fun h' a1 a2 a3 a4 a5 a6=>wpAny_pure (hQ h' a1 a2 a3 a4 a5 a6)) (F.args_zip_next_1 _))))
theorem vQ {z TI TO i1 i2 l1 l2 a:Addr} {f:Bool} {oa:Obj} {k1 k2:Nat} {xs ys:Array Value} {Q:Option Value→Shared→Prop} (hh:A.handled = none) (D:ZipApart z TI TO i1 i2 l1 l2)
  (hz:mq s.heap z TI TO a f) (ha:s.heap.get? a = some oa) (qV:IsPair s.heap TI (.ref i1) (.ref i2))
  (h1:s.heap.IsListIter i1 l1 k1) (h2:s.heap.IsListIter i2 l2 k2) (iz:s.heap.IsList l1 xs) (jq:s.heap.IsList l2 ys) (qk:xs[k1]? = none)
  (hQ:∀ h',(∀ c o,c≠z→c≠i1→c≠i2→s.heap.get? c = some o→h'.get? c = some o)→Q none { s with heap:=h' }):wpAny (model prog w) A (pyNext (.ref z)) Q E s:=by
 have hT:s.TypeIs (.ref z) "zip":=⟨_,hz,rfl⟩
 unfold pyNext
 refine wpAny_bind (wpAny_attempt (wpAny_callSpecial?_slot (name:=Str.ofString "__next__") hT F.slot_zip_next
  (wpAny_call_entry F.slot_zip_next hT F.entry_zip_next (By hh D hz ha qV h1 h2 iz jq qk fun h' e hk he=>?_) (F.args_zip_next_1 _))))
 obtain ⟨o,ho,hc⟩:=he
 refine wpAny_bind (wpAny_isInstance (T:= "StopIteration") (b:=true) ⟨o,ho,hc⟩ isSubtype_stop ?_)
 exact wpAny_pure (hQ _ hk)
end
structure lz (h:Heap) (z TI TO i1 i2 l1 l2 S:Addr) (i:Nat):Prop where
 own:(i = 0∧IsZip h z TI TO .none∧∃ a b,IsPair h TO a b)∨∃ a f oa,mq h z TI TO a f∧h.get? a = some oa∧a∉[z,i1,i2,S]
 it:IsPair h TI (.ref i1) (.ref i2)
 one:h.IsListIter i1 l1 i
 two:h.IsListIter i2 l2 i
theorem lz.keep {h h':Heap} {z TI TO i1 i2 l1 l2 S:Addr} {i:Nat} (x:lz h z TI TO i1 i2 l1 l2 S i) (hk:∀ b o,b≠S→h.get? b = some o→h'.get? b = some o) (hS:S∉[z,TI,TO,i1,i2]):lz h' z TI TO i1 i2 l1 l2 S i:=by
 simp only [List.mem_cons,List.not_mem_nil,or_false,not_or] at hS
 obtain ⟨n1,n2,n3,n4,n5⟩:=hS
 refine ⟨?_,hk _ _ (Ne.symm n2) x.it,x.one.at fun o e=>hk _ _ (Ne.symm n4) e,x.two.at fun o e=>hk _ _ (Ne.symm n5) e⟩
 rcases x.own with ⟨e,h1,a,b,h2⟩ | ⟨a,f,oa,h1,h2,h3⟩
 ·exact .inl ⟨e,hk _ _ (Ne.symm n1) h1,a,b,hk _ _ (Ne.symm n3) h2⟩
 ·refine .inr ⟨a,f,oa,hk _ _ (Ne.symm n1) h1,hk _ _ ?_ h2,h3⟩
  simp only [List.mem_cons,List.not_mem_nil,or_false,not_or] at h3
  exact h3.2.2.2
structure AA (xs ys:Array Value) (lo:Addr) (h:Heap) (as:List Addr):Prop where
 rise:as.Pairwise (· < ·)
 above:∀ a∈as,lo≤a
 pairs:∀ (j:Nat) (a:Addr),as[j]? = some a→∃ x y,xs[j]? = some x∧ys[j]? = some y∧IsPair h a x y
section
variable {prog:Program} {w:World} {A:Around} {E:Value→Shared→Prop} {s:Shared}
theorem yT {z TI TO i1 i2 l1 l2 S:Addr} {i:Nat} {xs ys:Array Value} {x y:Value} {Q:Option Value→Shared→Prop} (D:ZipApart z TI TO i1 i2 l1 l2) (st:lz s.heap z TI TO i1 i2 l1 l2 S i) (hS:S < s.heap.objs.size)
  (iz:s.heap.IsList l1 xs) (jq:s.heap.IsList l2 ys) (hx:xs[i]? = some x) (hy:ys[i]? = some y)
  (hQ:∀ h',lz h' z TI TO i1 i2 l1 l2 S (i + 1)→IsPair h' s.heap.objs.size x y→h'.objs.size = s.heap.objs.size + 1→
   (∀ c o,c∉[z,TO,i1,i2]→s.heap.get? c = some o→h'.get? c = some o)→Q (some (.ref s.heap.objs.size)) { s with heap:=h' }) :
  wpAny (model prog w) A (pyNext (.ref z)) Q E s:=by
 have Ra:i1 < s.heap.objs.size:=by obtain ⟨_,e,_⟩:=st.one; exact Heap.lt_size e
 have Q9:i2 < s.heap.objs.size:=by obtain ⟨_,e,_⟩:=st.two; exact Heap.lt_size e
 have f:∀ {c p q r t:Addr},c∉[p,q,r,t]→c≠p∧c≠q∧c≠r∧c≠t:=fun h=>by
  simpa only [List.mem_cons,List.not_mem_nil,or_false,not_or] using h
 have g:∀ {c p q r t:Addr},c≠p→c≠q→c≠r→c≠t→c∉[p,q,r,t]:=fun h1 h2 h3 h4=>by
  simp only [List.mem_cons,List.not_mem_nil,or_false,not_or]; exact ⟨h1,h2,h3,h4⟩
 rcases st.own with ⟨rfl,h1,a,b,h2⟩ | ⟨a,fl,oa,h1,h2,h3⟩
 ·refine wpAny_pyNext_zip_item D h1 st.it h2 st.one st.two iz jq hx hy fun h' k1 k2 k3 k4 hT hsz hk=>hQ h' ⟨.inr ⟨_,false,_,k1,hT,g (Nat.ne_of_gt (Heap.lt_size h1)) (Nat.ne_of_gt Ra) (Nat.ne_of_gt Q9) (Nat.ne_of_gt hS)⟩,hk _ _ D.TIz D.TITO D.TIi1 D.TIi2 st.it,k3,k4⟩ hT hsz fun c o hc e=>?_
  obtain ⟨c1,c2,c3,c4⟩:=f hc
  exact hk c o c1 c2 c3 c4 e
 ·obtain ⟨b1,b2,b3,b4⟩:=f h3
  refine uG D h1 h2 st.it st.one st.two iz jq hx hy fun h' k1 k3 k4 hT hsz hk=>hQ h' ⟨.inr ⟨a,true,oa,k1,hk _ _ b1 b2 b3 h2,h3⟩,hk _ _ D.TIz D.TIi1 D.TIi2 st.it,k3,k4⟩ hT hsz fun c o hc e=>?_
  obtain ⟨c1,c2,c3,c4⟩:=f hc
  exact hk c o c1 c3 c4 e
theorem Bx {z TI TO i1 i2 l1 l2 S:Addr} {i:Nat} {xs ys:Array Value} {Q:Option Value→Shared→Prop} (hh:A.handled = none) (D:ZipApart z TI TO i1 i2 l1 l2) (st:lz s.heap z TI TO i1 i2 l1 l2 S i)
  (iz:s.heap.IsList l1 xs) (jq:s.heap.IsList l2 ys) (qk:xs[i]? = none)
  (hQ:∀ h',(∀ c o,c∉[z,TO,i1,i2]→s.heap.get? c = some o→h'.get? c = some o)→Q none { s with heap:=h' }):wpAny (model prog w) A (pyNext (.ref z)) Q E s:=by
 have f:∀ {c p q r t:Addr},c∉[p,q,r,t]→c≠p∧c≠q∧c≠r∧c≠t:=fun h=>by
  simpa only [List.mem_cons,List.not_mem_nil,or_false,not_or] using h
 rcases st.own with ⟨rfl,h1,a,b,h2⟩ | ⟨a,fl,oa,h1,h2,h3⟩
 ·refine wpAny_pyNext_zip_end hh D h1 st.it h2 st.one st.two iz jq (.inl qk) fun h' hk=>hQ h' fun c o hc e=>?_
  obtain ⟨c1,c2,c3,c4⟩:=f hc
  exact hk c o c1 c2 c3 c4 e
 ·refine vQ hh D h1 h2 st.it st.one st.two iz jq qk fun h' hk=>hQ h' fun c o hc e=>?_
  obtain ⟨c1,c2,c3,c4⟩:=f hc
  exact hk c o c1 c3 c4 e
end
section
variable {prog:Program} {w:World} {A:Around} {s:Shared} {R:Result→Shared→Prop} {xs ys:Array Value}
theorem yS {S z TI TO i1 i2 l1 l2:Addr} (hh:A.handled = none) (D:ZipApart z TI TO i1 i2 l1 l2) (xZ:S∉[z,TI,TO,i1,i2]) (Dw:l1≠S) (o9:l2≠S) (lX:xs.size = ys.size) (hn:xs.size≤sizeLine) (res:Value) {h₁ : Heap}
  (hR:∀ h' tk acc c as,(∀ b o,b≠S→b∉[z,TO,i1,i2]→h₁.get? b = some o→h'.get? b = some o)→h'.get? S = some { cls:=.type "list",dict:=none,data:=.seq acc c,slots:=#[] }→as.length = xs.size→AA xs ys h₁.objs.size h' as→
   acc.toList = as.map Value.ref→R (.ok (.ret res)) { s with heap:=h',toks:=tk }) :
  ∀ (k i:Nat) (h:Heap) (tk c:Nat) (acc:Array Value) (as:List Addr),xs.size - i = k→i≤xs.size→lz h z TI TO i1 i2 l1 l2 S i→h.IsList l1 xs→h.IsList l2 ys→(∀ b o,b≠S→b∉[z,TO,i1,i2]→h₁.get? b = some o→h.get? b = some o)→
   h.get? S = some { cls:=.type "list",dict:=none,data:=.seq acc c,slots:=#[] }→acc.toList = as.map Value.ref→as.length = i→AA xs ys h₁.objs.size h as→h₁.objs.size≤h.objs.size→(∀ c∈[z,TO,i1,i2],c < h₁.objs.size)→S < h₁.objs.size→
   codeAny (model prog w) A (.builtin "list.extend.loop" ⟨[.ref S,.ref z,res],[]⟩) R { s with heap:=h,toks:=tk }:=by
 have Oe:S∉[z,TO,i1,i2]:=by
  simp only [List.mem_cons,List.not_mem_nil,or_false,not_or] at xZ ⊢
  exact ⟨xZ.1,xZ.2.2.1,xZ.2.2.2.1,xZ.2.2.2.2⟩
 intro k
 induction k with
 | zero=>
  intro i h tk c acc as hk hi CC iz jq xW hS bT E6 hG hsz eV K2
  have N3:i = xs.size:=by omega
  refine codeAny_builtin PySem.F.entry_extend_loop ?_
  rw [Around.under_plainId PySem.F.plain_extend_loop _]
  show wpAny _ A.in1 (pyNext (.ref z) >>= _) _ _ _
  refine wpAny_bind (Bx (s:={ s with heap:=h,toks:=tk }) (A:=A.in1) hh D CC iz jq (by rw [Array.getElem?_eq_none]; omega) fun h' he=>?_)
  refine wpAny_pure (hR h' tk acc c as (fun b o h1 h2 e=>he b o h2 (xW b o h1 h2 e)) (he S _ Oe hS) (by omega) ⟨hG.rise,hG.above,fun j a hj=>?_⟩ bT)
  obtain ⟨x,y,e1,e2,e3⟩:=hG.pairs j a hj
  refine ⟨x,y,e1,e2,he a _ (fun hm=>?_) e3⟩
  exact absurd (eV a hm) (Nat.not_lt.mpr (hG.above a (List.mem_of_getElem? hj)))
 | succ k ih=>
  intro i h tk c acc as hk hi CC iz jq xW hS bT E6 hG hsz eV K2
  have CL:i < xs.size:=by omega
  have Ba:i < ys.size:=by omega
  have NM:acc.size = i:=by rw [← Array.length_toList,bT,List.length_map,E6]
  refine codeAny_builtin PySem.F.entry_extend_loop ?_
  rw [Around.under_plainId PySem.F.plain_extend_loop _]
  show wpAny _ A.in1 (pyNext (.ref z) >>= _) _ _ _
  refine wpAny_bind (yT (s:={ s with heap:=h,toks:=tk }) (S:=S) (x:=xs[i]) (y:=ys[i]) D CC (Heap.lt_size hS) iz jq (by simp [CL]) (by simp [Ba]) fun h' Kk ht hz yK=>?_)
  dsimp only at ht hz yK ⊢
  have m7:=yK S _ Oe hS
  have up:∀ b o,b≠S→h'.get? b = some o→(h'.update S (Obj.mapSeq (·.push (Value.ref h.objs.size)))).get? b = some o:=fun b o hb e=>(Heap.get?_update_other _ _ (Ne.symm hb)).trans e
  have E7:S < h.objs.size:=Heap.lt_size hS
  have QT:l1∉[z,TO,i1,i2]:=by
   simp only [List.mem_cons,List.not_mem_nil,or_false,not_or]; exact ⟨D.l1z,D.l1TO,D.l1i1,D.l1i2⟩
  have QS:l2∉[z,TO,i1,i2]:=by
   simp only [List.mem_cons,List.not_mem_nil,or_false,not_or]; exact ⟨D.l2z,D.l2TO,D.l2i1,D.l2i2⟩
  show wpAny _ A.in1 (updateSeq S (·.push (Value.ref h.objs.size)) >>= _) _ _ _
  refine wpAny_bind ?_
  refine wpAny_updateSeq m7 rfl (wpAny_pure ⟨plainId_quiet PySem.F.plain_extend_loop _,ih (i + 1) _ tk _ (acc.push (Value.ref h.objs.size)) (as ++ [h.objs.size]) (by omega) CL (Kk.keep up xZ)
   (iz.at fun o e=>up l1 o Dw (yK l1 o QT e)) (jq.at fun o e=>up l2 o o9 (yK l2 o QS e))
   (fun b o h1 h2 e=>up b o h1 (yK b o h2 (xW b o h1 h2 e))) (Heap.get?_update_self _ m7 rfl) (by rw [Array.toList_push,bT,List.map_append]; rfl) (by rw [List.length_append,E6]; rfl) ⟨?_,?_,?_⟩ ?_ eV K2⟩) (by rw [NM]; omega) (by show (acc.push (Value.ref h.objs.size)).size≤sizeLine + 1; rw [Array.size_push,NM]; omega)
  ·refine List.pairwise_append.mpr ⟨hG.rise,List.pairwise_singleton _ _,fun a ha b hb=>?_⟩
   rw [List.mem_singleton.mp hb]
   obtain ⟨j,hj⟩:=List.mem_iff_getElem?.mp ha
   obtain ⟨_,_,_,_,e⟩:=hG.pairs j a hj
   exact Heap.lt_size e
  ·intro a ha
   rcases List.mem_append.mp ha with ha | ha
   ·exact hG.above a ha
   ·rw [List.mem_singleton.mp ha]; exact hsz
  ·intro j b hj
   rcases Nat.lt_trichotomy j as.length with h1 | h1 | h1
   ·rw [List.getElem?_append_left h1] at hj
    obtain ⟨x',y',e1,e2,e3⟩:=hG.pairs j b hj
    have hb:=hG.above b (List.mem_of_getElem? hj)
    exact ⟨x',y',e1,e2,up b _ (Nat.ne_of_gt (Nat.lt_of_lt_of_le K2 hb)) (yK b _ (fun hm=>absurd (eV b hm) (Nat.not_lt.mpr hb)) e3)⟩
   ·subst h1
    have hb:h.objs.size = b:=by simpa using hj
    subst hb
    exact ⟨xs[i],ys[i],by rw [E6]; simp [CL],by rw [E6]; simp [Ba],up _ _ (Nat.ne_of_gt E7) ht⟩
   ·have EN:(as ++ [h.objs.size])[j]? = none:=List.getElem?_eq_none (by rw [List.length_append,List.length_singleton]; omega)
    rw [EN] at hj; cases hj
  ·have e:(h'.update S (Obj.mapSeq (·.push (Value.ref h.objs.size)))).get? h.objs.size = _:=up _ _ (Nat.ne_of_gt E7) ht
   exact Nat.le_trans hsz (Nat.le_of_lt (Heap.lt_size e))
end
namespace F
theorem qY:typeLookup (.type "zip") "__len__" = pure none:=by rw [typeLookup_type,builtinLookup_eq_fast]; kernel_rfl
theorem pf:typeLookup (.type "zip") "__length_hint__" = pure none:=by rw [typeLookup_type,builtinLookup_eq_fast]; kernel_rfl
end F
section
variable {prog:Program} {w:World} {A:Around} {E:Value→Shared→Prop} {s:Shared} {xs ys:Array Value}
theorem uF {R:Result→Shared→Prop} {S z TI TO i1 i2 l1 l2:Addr} (hh:A.handled = none) (D:ZipApart z TI TO i1 i2 l1 l2) (xZ:S∉[z,TI,TO,i1,i2]) (Dw:l1≠S) (o9:l2≠S) (lX:xs.size = ys.size) (hn:xs.size≤sizeLine) (res:Value) (c₀ : Nat)
  (hz:IsZip s.heap z TI TO .none) (vh:∃ a b,IsPair s.heap TO a b) (qV:IsPair s.heap TI (.ref i1) (.ref i2)) (h1:s.heap.IsListIter i1 l1 0) (h2:s.heap.IsListIter i2 l2 0) (iz:s.heap.IsList l1 xs) (jq:s.heap.IsList l2 ys)
  (hS:s.heap.get? S = some { cls:=.type "list",data:=.seq #[] c₀ })
  (hR:∀ h' tk acc c as,(∀ b o,b≠S→b∉[z,TO,i1,i2]→s.heap.get? b = some o→h'.get? b = some o)→h'.get? S = some { cls:=.type "list",dict:=none,data:=.seq acc c,slots:=#[] }→as.length = xs.size→AA xs ys s.heap.objs.size h' as→
   acc.toList = as.map Value.ref→R (.ok (.ret res)) { s with heap:=h',toks:=tk }) :
  wpAny (model prog w) A.in1 (Builtin.List.listExtendWith (.ref S) (.ref z) res)
   (fun fin s'=>match fin with | .done f=>R (.ok f) s' | .again c'=>c'.quiet = true∧codeAny (model prog w) A c' R s') (fun e s'=>R (.error e) s') s:=by
 have E8:=xZ
 simp only [List.mem_cons,List.not_mem_nil,or_false,not_or] at E8
 obtain ⟨n1,n2,n3,n4,n5⟩:=E8
 have hT:s.TypeIs (.ref z) "zip":=⟨_,hz,rfl⟩
 unfold Builtin.List.listExtendWith
 refine wpAny_bind (wpAny_typeOf hT ?_)
 have q1:Builtin.List.listSameRef (.ref S) (.ref z) = false:=by simp [Builtin.List.listSameRef,n1]
 have q2:(Value.type "zip" == Value.type "list") = false:=by decide
 have q3:(Value.type "zip" == Value.type "tuple") = false:=by decide
 simp only [q1,q2,q3,Bool.or_false,Bool.false_eq_true,if_false]
 refine wpAny_bind (wpAny_pyIter_zip hz ?_)
 refine wpAny_bind (wpAny_holding ?_)
 unfold Builtin.List.listLengthHint
 refine wpAny_bind (wpAny_specialOf hT F.qY ?_)
 show wpAny _ A.in1 (specialOf (Value.ref z) (Str.ofString "__length_hint__") >>= _) _ _ _
 refine wpAny_bind (wpAny_specialOf hT F.pf ?_)
 refine wpAny_pure ?_
 show wpAny _ A.in1 (rule "list.extend.makes-room" >>= fun _=>Builtin.List.listTouch (.ref S) >>= fun _=>
  again (.builtin "list.extend.loop" ⟨[.ref S,.ref z,res],[]⟩)) _ _ _
 refine wpAny_bind (wpAny_rule ?_)
 refine wpAny_bind ?_
 show wpAny _ A.in1 (updateSeq S (·.push .none) >>= fun _=>updateSeq S (·.pop)) _ _ _
 refine wpAny_bind (wpAny_updateSeq hS rfl ?_)
 have hS₂:=Heap.get?_update_self (Obj.mapSeq (·.push Value.none)) hS rfl
 refine wpAny_updateSeq (hz:=by seq_fits) hS₂ rfl ?_
 have hS₃:=Heap.get?_update_self (Obj.mapSeq (·.pop)) hS₂ rfl
 have hk:∀ b o,b≠S→s.heap.get? b = some o→((s.heap.update S (Obj.mapSeq (·.push Value.none))).update S (Obj.mapSeq (·.pop))).get? b = some o:=fun b o hb e=>(Heap.get?_update_other _ _ (Ne.symm hb)).trans ((Heap.get?_update_other _ _ (Ne.symm hb)).trans e)
 obtain ⟨a,b,vh⟩:=vh
 refine wpAny_pure ⟨plainId_quiet PySem.F.plain_extend_loop _,yS (s:=s) (h₁:=s.heap) (xs:=xs) (ys:=ys) hh D xZ Dw o9 lX hn res hR xs.size 0 _ _ _ #[] [] (Nat.sub_zero _) (Nat.zero_le _)
  ⟨.inl ⟨rfl,hk _ _ (Ne.symm n1) hz,a,b,hk _ _ (Ne.symm n3) vh⟩,hk _ _ (Ne.symm n2) qV,h1.at fun o e=>hk _ _ (Ne.symm n4) e,h2.at fun o e=>hk _ _ (Ne.symm n5) e⟩ (iz.at fun o e=>hk _ _ Dw e) (jq.at fun o e=>hk _ _ o9 e)
  (fun b o hb _ e=>hk b o hb e) hS₃ rfl rfl ⟨List.Pairwise.nil,(fun _ ha=>nomatch ha),(fun j a hj=>by simp at hj)⟩ (by simp [Heap.size_update]) (fun c hc=>?_) (Heap.lt_size hS)⟩
 simp only [List.mem_cons,List.not_mem_nil,or_false] at hc
 rcases hc with rfl | rfl | rfl | rfl
 ·exact Heap.lt_size hz
 ·exact Heap.lt_size vh
 ·obtain ⟨_,e,_⟩:=h1; exact Heap.lt_size e
 ·obtain ⟨_,e,_⟩:=h2; exact Heap.lt_size e
theorem me {Q:Value→Shared→Prop} {z TI TO i1 i2 l1 l2:Addr} (hh:A.handled = none) (D:ZipApart z TI TO i1 i2 l1 l2) (lX:xs.size = ys.size) (hn:xs.size≤sizeLine)
  (hz:IsZip s.heap z TI TO .none) (vh:∃ a b,IsPair s.heap TO a b) (qV:IsPair s.heap TI (.ref i1) (.ref i2)) (h1:s.heap.IsListIter i1 l1 0) (h2:s.heap.IsListIter i2 l2 0) (iz:s.heap.IsList l1 xs) (jq:s.heap.IsList l2 ys)
  (hQ:∀ h' tk acc c as,(∀ b o,b∉[z,TO,i1,i2]→s.heap.get? b = some o→h'.get? b = some o)→h'.get? s.heap.objs.size = some { cls:=.type "list",dict:=none,data:=.seq acc c,slots:=#[] }→as.length = xs.size→AA xs ys (s.heap.objs.size + 1) h' as→
   acc.toList = as.map Value.ref→Q (.ref s.heap.objs.size) { s with heap:=h',toks:=tk }) :
  wpAny (model prog w) A (call (.type "list") [.ref z]) Q E s:=by
 refine callType_codes (Q₁:=fun obj s₁=>obj = .ref s.heap.objs.size∧s₁ = { s with heap:=s.heap.push { cls:=.type "list",data:=.seq #[] } }) PySem.F.called_list (PySem.F.typeCall_list_1 _) PySem.F.entry_list_init
  (code_list_new _ ⟨rfl,rfl⟩) fun obj s₁ h₁=>?_
 obtain ⟨rfl,rfl⟩:=h₁
 obtain ⟨a,b,vh⟩:=vh
 have hS:(s.heap.push { cls:=.type "list",data:=.seq #[] }).get? s.heap.objs.size = some { cls:=.type "list",data:=.seq #[] }:=Heap.get?_push_size _ rfl
 have lt:∀ c∈[z,TI,TO,i1,i2],c < s.heap.objs.size:=fun c hc=>by
  simp only [List.mem_cons,List.not_mem_nil,or_false] at hc
  rcases hc with rfl | rfl | rfl | rfl | rfl
  ·exact Heap.lt_size hz
  ·exact Heap.lt_size qV
  ·exact Heap.lt_size vh
  ·obtain ⟨_,e,_⟩:=h1; exact Heap.lt_size e
  ·obtain ⟨_,e,_⟩:=h2; exact Heap.lt_size e
 have Q8:l1 < s.heap.objs.size:=by obtain ⟨_,e,_⟩:=iz; exact Heap.lt_size e
 have Q7:l2 < s.heap.objs.size:=by obtain ⟨_,e,_⟩:=jq; exact Heap.lt_size e
 have xZ:s.heap.objs.size∉[z,TI,TO,i1,i2]:=fun hm=>absurd (lt _ hm) (Nat.lt_irrefl _)
 refine ⟨⟨_,hS,rfl⟩,PySem.F.args_list_init_2 _ _,?_⟩
 show wpAny _ _ (do let old ← Builtin.List.listItems (.ref s.heap.objs.size); Builtin.List.listUpdate (.ref s.heap.objs.size) (fun _=>#[]); letGo old.toList.reverse; Builtin.List.listExtendWith (.ref s.heap.objs.size) (.ref z) .none) _ _ _
 refine wpAny_bind ?_
 unfold Builtin.List.listItems
 refine wpAny_bind (wpAny_seqItems hS rfl (wpAny_pure ?_))
 show wpAny _ _ (updateSeq s.heap.objs.size (fun _=>#[]) >>= fun _=>letGo (#[]:Array Value).toList.reverse >>= fun _=>Builtin.List.listExtendWith (.ref s.heap.objs.size) (.ref z) .none) _ _ _
 refine wpAny_bind (wpAny_updateSeq hS rfl ?_)
 have hS₂:=Heap.get?_update_self (Obj.mapSeq (fun _=>(#[]:Array Value))) hS rfl
 generalize hg:(s.heap.push { cls:=.type "list",data:=.seq #[] }).update s.heap.objs.size (Obj.mapSeq (fun _=>(#[]:Array Value))) = hp at hS₂
 have hsz:hp.objs.size = s.heap.objs.size + 1:=by rw [← hg]; simp [Heap.size_update,Heap.size_push]
 have xk:∀ b o,s.heap.get? b = some o→hp.get? b = some o:=fun b o e=>by
  rw [← hg]
  exact (Heap.get?_update_other _ _ (Nat.ne_of_gt (Heap.lt_size e))).trans (Heap.get?_push_of_some _ e)
 refine wpAny_bind (wpAny_letGo ?_)
 refine uF (A:=A.in1) (s:={ s with heap:=hp }) (xs:=xs) (ys:=ys) hh D xZ (Nat.ne_of_lt Q8) (Nat.ne_of_lt Q7) lX hn .none _ (xk _ _ hz) ⟨a,b,xk _ _ vh⟩ (xk _ _ qV) (h1.at fun o e=>xk _ o e) (h2.at fun o e=>xk _ o e) (iz.at fun o e=>xk _ o e) (jq.at fun o e=>xk _ o e) hS₂ fun h' tk acc c as hk m7 hl hG bT=>?_
 refine ⟨rfl,hQ h' tk acc c as (fun b o hb e=>hk b o (Nat.ne_of_lt (Heap.lt_size e)) hb (xk b o e)) m7 hl ?_ bT⟩
 rw [← hsz]; exact hG
end
end PySem
end
section
namespace L2
open PySem PySem.Spec PySem.W PySem.Calls PyProof.Rows
section
variable {X:Cx} {pins:List (Addr×Obj)} {σ : St} {H H':Hp} {s:Shared} {h':Heap}
theorem Inv.JJ {t':Nat} {ch:List Addr} (I:Inv X pins σ H s) (k:∀ b u,b∉ch→s.heap.get? b = some u→h'.get? b = some u) (hf:∀ b∈ch,lF X pins H b) (hs:∀ b u,H b = some u→H' b = some u)
  (new:∀ b u,H' b = some u→H b = none→s.heap.objs.size≤b∧bg X.prog X.w H' h' b u):Inv X pins σ H' { s with heap:=h',toks:=t' }:=by
 have ua:∀ b u,H b = some u→b∉ch:=fun b u e z=>by rw [(hf b z).1] at e; cases e
 refine I.step (g':=s.gens) (d':=s.drawn) (ch:=ch) (fun b hb=>?_) (fun b o _ _ hc e _=>k b o hc e) (fun b o _ _ hc e _=>⟨o.slots,k b o hc e⟩) (fun b u _ e n=>?_) (fun b o hc e=>⟨o,k b o hc e⟩)
  (fun b xs e=>hs _ _ e) (fun b u v e=>hs _ _ e) (fun b ps e=>⟨#[],by rw [hs _ _ e]; simp⟩) (fun m hm=>?_) (fun b u e=>?_) I.bare
 ·obtain ⟨f0,f1,f2,f3,f4,f5⟩:=hf b hb
  exact ⟨f3,f1,f4,f5⟩
 ·cases q:H' b with
  | none=>rfl
  | some v=>exact absurd (Heap.lt_size e) (Nat.not_lt.mpr (new b v q n).1)
 ·obtain ⟨o,es,ep,ho,r⟩:=hm
  exact ⟨o,es,ep,k _ o (fun z=>(hf _ z).2.1 rfl) ho,r⟩
 ·cases q:H b with
  | none=>exact (new b u e q).2
  | some v=>
   have e2:=hs b v q
   rw [e] at e2
   cases e2
   refine (I.bA b u q).ff (fun c v hc q2=>k c v ?_ q2) (fun c q2=>hs _ _ q2) fun c xs q2=>hs _ _ q2
   rcases hc with z | z
   ·rw [z]; exact ua b u q
   ·exact ua c _ z
end
def kG:List Addr→List (V×V)→Hp→Hp
 | a :: as,p :: ps,H=>upd (kG as ps H) a (.tup [p.1,p.2])
 | _,_,H=>H
theorem kE:∀ {as:List Addr} {ps:List (V×V)} {H:Hp} {b:Addr},b∉as→kG as ps H b = H b
 | [],_,_,_,_=>by simp [kG]
 | _ :: _,[],_,_,_=>by simp [kG]
 | a :: as,p :: ps,H,b,h=>by
  have nb:b≠a:=fun e=>h (by rw [e]; exact List.mem_cons_self)
  rw [kG,aq nb,kE fun e=>h (List.mem_cons_of_mem _ e)]
theorem ue:∀ {as:List Addr} {ps:List (V×V)} {H:Hp} {j:Nat} {a:Addr} {p:V×V},as.Nodup→as[j]? = some a→ps[j]? = some p→kG as ps H a = some (.tup [p.1,p.2])
 | [],_,_,_,_,_,_,h,_=>by simp at h
 | _ :: _,[],_,_,_,_,_,_,h=>by simp at h
 | a :: as,p :: ps,H,0,b,q,_,h1,h2=>by
  have e1:a = b:=by simpa using h1
  have e2:p = q:=by simpa using h2
  subst e1 e2
  rw [kG,ae]
 | a :: as,p :: ps,H,j + 1,b,q,hn,h1,h2=>by
  have vi:as[j]? = some b:=by simpa using h1
  have qw:ps[j]? = some q:=by simpa using h2
  have zU:=List.nodup_cons.mp hn
  have nb:b≠a:=fun e=>zU.1 (by rw [← e]; exact List.mem_of_getElem? vi)
  rw [kG,aq nb,ue zU.2 vi qw]
theorem mC:∀ (as:List Addr),Vals (as.map V.ref) (as.map Value.ref)
 | []=>.nil
 | _ :: as=>.cons rfl (mC as)
def pA (K:Frag) (ta:TA):TE:=fun σ H Q=>ta σ H fun vs H1=>∃ a b xs ys,vs = [.ref a,.ref b]∧ay K H1 a xs∧ay K H1 b ys∧xs.length = ys.length∧
 ∀ (l:Addr) (as:List Addr) (H2:Hp),ah H1 H2→H1 l = none→H2 l = some (.lst (as.map V.ref))→as.length = xs.length→
  (∀ (j:Nat) (a:Addr),as[j]? = some a→H1 a = none∧a≠l∧∃ x y,xs[j]? = some x∧ys[j]? = some y∧H2 a = some (.tup [x,y]))→Q (.ref l) H2
theorem lu:bootBuiltins "list" = some (.type "list"):=by decide +kernel
theorem rQ {X:Cx} {l m:Expr} {ta:TA} {p p2 pos nY:Pos} (hc:X.calm = true) (hm:X.mg "zip" = none) (CK:X.mg "list" = none) (ha:PA X [l,m] ta) (hg:Gl X "zip":=by rfl) (EY:Gl X "list":=by rfl)
  (he:starEach [l,m] X.env = (false,eval l X.env) :: starEach [m] X.env:=by rfl) (mZ:(backTo pos (starEach [m] X.env)).any (·.1) = false:=by rfl)
  (vN:starEach [.Call (.Name "zip" p) [l,m] [] pos] X.env = (false,eval (.Call (.Name "zip" p) [l,m] [] pos) X.env) :: starEach [] X.env:=by rfl) :
  PE X (.Call (.Name "list" p2) [.Call (.Name "zip" p) [l,m] [] pos] [] nY) (pA X.K ta):=by
 intro pins s σ H Q I h
 refine Call_ (dU I EY CK lu (PyProof.Rows.callWith_type1 ?_ vN rfl))
 rw [vN]
 show wpAny _ _ (spliced ((false,eval (.Call (.Name "zip" p) [l,m] [] pos) X.env) :: backTo nY (starEach [] X.env))) _ _ s
 refine Calls.spliced_cons ?_
 refine Call_ (dU I hg hm nv (PyProof.Rows.callWith_type1 (cS (ha pos pins s σ H _ I h) fun us s1 ⟨vs,H1,I1,r1,q1⟩=>?_) he mZ))
 obtain ⟨a,b,xs,ys,rfl,vd,zQ,lX,q⟩:=q1
 obtain ⟨u1,u2,rfl,DW,DV⟩:=vals2 r1
 cases DW
 cases DV
 obtain ⟨ia,ra,pa,za⟩:=I1.list vd
 obtain ⟨ib,rb,pb,zb⟩:=I1.list zQ
 have la:=ra.length
 have lb:=rb.length
 have zH:a < s1.heap.objs.size:=by obtain ⟨_,e,_⟩:=pa.isList; exact Heap.lt_size e
 have zG:b < s1.heap.objs.size:=by obtain ⟨_,e,_⟩:=pb.isList; exact Heap.lt_size e
 have ne:∀ {j k:Nat},j≠k→s1.heap.objs.size + j≠s1.heap.objs.size + k:=fun h z=>h (Nat.add_left_cancel z)
 have nl:∀ {c:Addr} (k:Nat),c < s1.heap.objs.size→c≠s1.heap.objs.size + k:=fun k l=>Nat.ne_of_lt (Nat.lt_of_lt_of_le l (Nat.le_add_right _ _))
 have D:ZipApart (s1.heap.objs.size + 4) (s1.heap.objs.size + 2) (s1.heap.objs.size + 3) s1.heap.objs.size (s1.heap.objs.size + 1) a b:=
  ⟨ne (by decide),ne (by decide),ne (j:=0) (by decide),ne (by decide),ne (by decide),ne (k:=0) (by decide),ne (by decide),ne (k:=0) (by decide),ne (by decide),ne (j:=0) (by decide),nl _ zH,nl _ zH,nl 0 zH,nl _ zH,nl _ zG,nl _ zG,nl 0 zG,nl _ zG⟩
 refine call_zip_2 pa.isList pb.isList fun h' hz qV vh h1 h2 hsz hk=>?_
 refine Calls.spliced_nil ?_
 have I2:Inv X pins σ H1 { s1 with heap:=h' }:=I1.kept (t':=s1.toks) fun c o e=>hk c o e
 obtain ⟨Rw,BR,Qr,_⟩:=I2.list vd
 obtain ⟨Rv,MZ,Qq,_⟩:=I2.list zQ
 have UU:=BR.length
 have UT:=MZ.length
 refine me (s:={ s1 with heap:=h' }) (xs:=Rw.toArray) (ys:=Rv.toArray) (I2.ok.hd hc) D (by simp only [List.size_toArray]; omega) (by simp only [List.size_toArray]; omega) hz ⟨_,_,vh⟩ qV h1 h2 Qr.isList Qq.isList fun h3 tk acc c as R8 hS hl hG bT=>?_
 have NX:as.length = xs.length:=by rw [hl,List.size_toArray]; omega
 have RY:as.Nodup:=hG.rise.imp (fun e=>Nat.ne_of_lt e)
 have Bc:∀ x,h'.objs.size≤x→H1 x = none:=fun x hx=>I2.bA.fresh hx
 have GI:∀ x∈as,h'.objs.size + 1≤x:=hG.above
 have Of:h'.objs.size∉as:=fun hm=>absurd (GI _ hm) (Nat.not_le.mpr (Nat.lt_succ_self _))
 have EK:∀ x u,H1 x = some u→x∉as∧x≠h'.objs.size:=fun x u e=>by
  constructor
  ·intro hm
   have e2:=Bc x (Nat.le_of_succ_le (GI x hm))
   rw [e] at e2
   cases e2
  ·intro hm
   have e2:=Bc x (Nat.le_of_eq hm.symm)
   rw [e] at e2
   cases e2
 have Oc:∀ (j:Nat) (x:Addr),as[j]? = some x→∃ v w v' w',xs[j]? = some v∧ys[j]? = some w∧RelV v v'∧RelV w w'∧IsPair h3 x v' w':=fun j x hj=>by
  obtain ⟨v',w',e1,e2,e3⟩:=hG.pairs j x hj
  have N2:j < xs.length:=by have:=(List.getElem?_eq_some_iff.mp hj).1; omega
  obtain ⟨u1,f1,g1⟩:=BR.get (show xs[j]? = some xs[j] by simp [N2])
  obtain ⟨u2,f2,g2⟩:=MZ.get (show ys[j]? = some (ys[j]'(by omega)) by simp [show j < ys.length by omega])
  rw [List.getElem?_toArray] at e1 e2
  rw [e1] at f1
  rw [e2] at f2
  cases f1
  cases f2
  exact ⟨_,_,v',w',by simp [N2],by simp [show j < ys.length by omega],g1,g2,e3⟩
 have Oh:∀ (j:Nat) (x:Addr) (v w:V),as[j]? = some x→xs[j]? = some v→ys[j]? = some w→upd (kG as (xs.zip ys) H1) h'.objs.size (.lst (as.map V.ref)) x = some (.tup [v,w]):=fun j x v w hj hv hw=>by
  have nx:x≠h'.objs.size:=fun e=>Of (by rw [← e]; exact List.mem_of_getElem? hj)
  rw [aq nx]
  exact ue (p:=(v,w)) RY hj (by rw [List.getElem?_zip_eq_some]; exact ⟨hv,hw⟩)
 have o9:∀ x u,H1 x = some u→upd (kG as (xs.zip ys) H1) h'.objs.size (.lst (as.map V.ref)) x = some u:=fun x u e=>by
  obtain ⟨e1,e2⟩:=EK x u e
  rw [aq e2,kE e1]; exact e
 have I3:Inv X pins σ (upd (kG as (xs.zip ys) H1) h'.objs.size (.lst (as.map V.ref))) { s1 with heap:=h3,toks:=tk }:=by
  refine Inv.JJ (s:={ s1 with heap:=h' }) (ch:=[s1.heap.objs.size + 4,s1.heap.objs.size + 3,s1.heap.objs.size,s1.heap.objs.size + 1]) I2 (fun b u hb e=>R8 b u hb e) (fun c hc=>?_) o9 fun x u e n=>?_
  ·have le:s1.heap.objs.size≤c:=by
    simp only [List.mem_cons,List.not_mem_nil,or_false] at hc
    rcases hc with rfl | rfl | rfl | rfl
    ·exact Nat.le_add_right _ _
    ·exact Nat.le_add_right _ _
    ·exact Nat.le_refl _
    ·exact Nat.le_add_right _ _
   exact I1.vm le (I1.bA.fresh le)
  ·by_cases hx:x = h'.objs.size
   ·subst hx
    rw [ae] at e
    cases e
    refine ⟨Nat.le_refl _,show bg X.prog X.w _ h3 _ (.lst (as.map V.ref)) from ⟨by rw [List.length_map,NX]; exact za,as.map Value.ref,c,mC as,?_⟩⟩
    rw [← bT,Array.toArray_toList]
    exact hS
   ·by_cases hm:x∈as
    ·obtain ⟨j,hj⟩:=List.mem_iff_getElem?.mp hm
     obtain ⟨v,w,v',w',e1,e2,g1,g2,hP⟩:=Oc j x hj
     rw [Oh j x v w hj e1 e2] at e
     cases e
     exact ⟨Nat.le_of_succ_le (GI x hm),by simp only [List.length_cons,List.length_nil]; rw [sizeLine_eq]; decide,[v',w'],.cons g1 (.cons g2 .nil),⟨_,hP,rfl,_,rfl⟩⟩
    ·rw [aq hx,kE hm,n] at e
     cases e
 refine ⟨.ref h'.objs.size,_,I3,rfl,q _ as _ (fun x u e=>o9 x u e) (Bc _ (Nat.le_refl _)) ae NX fun j x hj=>?_⟩
 obtain ⟨v,w,v',w',e1,e2,g1,g2,hP⟩:=Oc j x hj
 have hm:=List.mem_of_getElem? hj
 exact ⟨Bc x (Nat.le_of_succ_le (GI x hm)),fun e=>Of (e▸hm),v,w,e1,e2,Oh j x v w hj e1 e2⟩
end L2
end
section
namespace Gm
open PySem L2
theorem Lp.perm {L R:List (List Int)} {ks NA:List au} (p:Lp L R ks) (h:NA.Perm ks):Lp L R NA:=
 ⟨p.good,p.least,h.nodup_iff.mpr p.nd,h.trans p.pm,by rw [h.length_eq]; exact p.two⟩
theorem PR.mk {H:Hp}:∀ {ps:List Addr} {T:List (Int×Int)},ps.length = T.length→(∀ (j:Nat) (a:Addr) (d:Int×Int),ps[j]? = some a→T[j]? = some d→H a = some (.tup [.int d.1,.int d.2]))→PR H ps T
 | [],[],_,_=>.nil
 | [],_ :: _,h,_=>by simp at h
 | _ :: _,[],h,_=>by simp at h
 | a :: ps,d :: T,h,f=>.cons (f 0 a d rfl rfl) (PR.mk (by simpa using h) fun j b e h1 h2=>f (j + 1) b e (by simpa using h1) (by simpa using h2))
theorem zd {r:List Int} {j:Nat} (h:j < r.length):(cz r 1)[j]? = some (cy r (j + 1)):=by
 have hl:(cz r 1).length = r.length:=cV (by omega)
 have e1:cy (cz r 1) j = (cz r 1)[j]'(by omega):=iD (by omega)
 by_cases h1:1 < r.length
 ·rw [gP h1] at e1
  rw [e1]
  exact List.getElem?_eq_getElem _
 ·have e2:r.length = 1:=by omega
  have e3:j = 0:=by omega
  subst e3
  match r,e2 with
  | [x],_=>unfold cz cy; simp
theorem FT {r:List Int} {j:Nat} (h:j < r.length):r[j]? = some (cy r j):=by
 rw [iD h]; exact List.getElem?_eq_getElem _
section
variable {K:PySem.W.Frag} {σ : St} {H:Hp} {Q:VK}
theorem rK {a:Addr} {i n:Nat} {m:Int} {r:List Int} (h1 : σ[i]? = some (some (.ref a))) (hs:ay K H a (r.map V.int)) (hn:n≤r.length) (q:∀ p,H p = none→Q (.ref p) (upd H p (.lst ((r.drop n).map V.int)))) (hm:m = (n:Int):=by rfl) :
  yW (nV K) (fS i) (mE (tC (.int m))) dD σ H Q:=by
 subst hm
 exact ⟨_,h1,⟨_,rfl,⟨a,_,rfl,hs,fun p hp=>by rw [qB hn]; exact q p hp⟩⟩⟩
theorem wQ {a:Addr} {i n:Nat} {m:Int} {r:List Int} (h1 : σ[i]? = some (some (.ref a))) (hs:ay K H a (r.map V.int)) (hn:n≤r.length) (q:∀ p,H p = none→Q (.ref p) (upd H p (.lst ((r.take n).map V.int)))) (hm:m = (n:Int):=by rfl) :
  yW (nV K) (fS i) dD (mE (tC (.int m))) σ H Q:=by
 subst hm
 exact ⟨_,h1,⟨_,rfl,⟨a,_,rfl,hs,fun p hp=>by rw [qA hn]; exact q p hp⟩⟩⟩
theorem uS {ta:TA} (h:ta σ H fun vs H1=>∃ a b xs ys,vs = [.ref a,.ref b]∧ay K H1 a xs∧ay K H1 b ys∧xs.length = ys.length∧
  ∀ (l:Addr) (as:List Addr) (H2:Hp),ah H1 H2→H1 l = none→H2 l = some (.lst (as.map V.ref))→as.length = xs.length→
   (∀ (j:Nat) (a:Addr),as[j]? = some a→H1 a = none∧a≠l∧∃ x y,xs[j]? = some x∧ys[j]? = some y∧H2 a = some (.tup [x,y]))→Q (.ref l) H2):pA K ta σ H Q:=h
end
end Gm
end
section
namespace L2
open PySem PySem.Spec PySem.W PySem.Calls PyProof.Rows
section
variable {X:Cx}
def Gi (K:Frag):R2:=fun x y H Q=>∃ (p l:Addr) (d:Int×Int) (ps:List Addr) (T:List (Int×Int)),x = .ref p∧y = .ref l∧H p = some (.tup [.int d.1,.int d.2])∧H l = some (.lst (ps.map V.ref))∧Gm.PR H ps T∧Q (.bl (!decide (d∈T))) H
end
section
variable {K:Frag} {σ : St} {H:Hp} {Q:VK}
theorem BV {to ti:TE} {t:yD} {v:V} {Q:St→Hp→Prop} (h:to σ H fun o H1=>ti σ H1 fun i H2=>t o i v H2 fun H3=>Q σ H3):E9 to ti t v σ H Q:=h
theorem Ao (xs:List V):gQ xs none none = xs:=by
 unfold gQ HT.lG
 simp
theorem wR {a:Addr} {i:Nat} {xs:List V} (h1 : σ[i]? = some (some (.ref a))) (hs:ay K H a xs) (q:∀ p,H p = none→Q (.ref p) (upd H p (.lst xs))) :
  yW (nV K) (fS i) dD dD σ H Q:=⟨_,h1,⟨a,_,rfl,hs,fun p hp=>by rw [Ao]; exact q p hp⟩⟩
theorem Cq {n:Nat} {k:Int} (h0:0≤k) (h1:k < n):yH n k = some k.toNat:=by
 unfold yH
 rw [if_pos h0,if_pos h1]
end
end L2
namespace Gm
open PySem L2
theorem aN.BI {H:Hp} {t b:Addr} {bs:List Addr} {R:List (List Int)} {l:List Int} {k:Nat} (g:aN H t bs R) (nt:t∉bs) (nb:b≠t) (hb:H b = some (.lst (l.map V.int))):aN (upd H t (.lst ((bs.map V.ref).set k (.ref b)))) t (bs.set k b) (R.set k l):=by
 refine ⟨by rw [← List.map_set]; exact ae,by rw [List.length_set,List.length_set,g.len],fun i a m h1 h2=>?_⟩
 have gM:∀ c∈bs,c≠t:=fun c hc e=>nt (e▸hc)
 by_cases e:k = i
 ·subst e
  by_cases hk:k < bs.length
  ·rw [List.getElem?_set_self (by simpa using hk)] at h1
   rw [List.getElem?_set_self (by rw [← g.len]; simpa using hk)] at h2
   cases h1
   cases h2
   rw [aq nb]
   exact hb
  ·rw [List.getElem?_eq_none (by rw [List.length_set]; omega)] at h1
   cases h1
 ·rw [List.getElem?_set_ne e] at h1 h2
  rw [aq (gM a (List.mem_of_getElem? h1))]
  exact g.row i a m h1 h2
theorem u4 {bs:List Addr} {b t:Addr} {k:Nat} (h:(t :: bs).Nodup) (hb:b∉t :: bs):(t :: bs.set k b).Nodup:=by
 obtain ⟨h1,h2⟩:=List.nodup_cons.mp h
 refine List.nodup_cons.mpr ⟨fun z=>?_,?_⟩
 ·rcases List.mem_or_eq_of_mem_set z with z | z
  ·exact h1 z
  ·exact hb (z▸List.mem_cons_self)
 ·have nb:∀ (x:Nat) (hx:x < bs.length),bs[x]≠b:=fun x hx e=>hb (List.mem_cons_of_mem _ (e▸List.getElem_mem hx))
  refine List.pairwise_iff_getElem.mpr fun i j hi hj Dr=>?_
  rw [List.length_set] at hi hj
  rw [List.getElem_set,List.getElem_set]
  split
  ·rw [if_neg (by omega)]
   exact fun e=>nb j hj e.symm
  ·split
   ·exact nb i hi
   ·exact List.pairwise_iff_getElem.mp h2 i j hi hj Dr
theorem vj {bs:List Addr} {b t:Addr} {k:Nat} {H:Hp} (h:∀ c∈t :: bs,H c = none) (hb:H b = none):∀ c∈t :: bs.set k b,H c = none:=fun c hc=>by
 rcases List.mem_cons.mp hc with z | z
 ·exact h c (z▸List.mem_cons_self)
 ·rcases List.mem_or_eq_of_mem_set z with z | z
  ·exact h c (List.mem_cons_of_mem _ z)
  ·rw [z]; exact hb
end Gm
end
section
namespace Gm
open PySem L2
section
variable {K:PySem.W.Frag} {σ : St} {H:Hp} {Q:VK}
theorem qD {te:TE} {i:Nat} {p:Addr} {as:List Addr} {L:List (List Int)}
  (RH:∀ (σ':St) (H':Hp) (b:Addr) (l:List Int) (Q':VK),σ'[0]? = some (some (.ref b))→H' b = some (.lst (l.map V.int))→(∀ c,H' c = none→Q' (.ref c) (upd H' c (.lst (l.map V.int))))→te σ' H' Q')
  (hv : σ[i]? = some (some (.ref p))) (gp:aN H p as L) (hn:L.length≤1000)
  (q:∀ acc cs H',ah H H'→aN H' acc cs L→(acc :: cs).Nodup→(∀ b∈acc :: cs,H b = none)→Q (.ref acc) H'):jT (qg K (fS i)) (jr 0) pq te 1 [] σ H Q:=by
 refine dS ?_
 refine ⟨_,hv,p,rfl,⟨_,ay.of gp.top⟩,fun acc bT=>?_⟩
 refine dC (K:=K) (a:=p) (xs:=as.map V.ref) (fun i σ' ys Hx=>∃ (bs:List Addr) (v:Option V),σ' = [v]∧ys = bs.map V.ref∧ah H Hx∧bs.length = i∧aN Hx acc bs (L.take i)∧(acc :: bs).Nodup∧∀ b∈acc :: bs,H b = none)
  ⟨[],none,rfl,rfl,ah.upd bT,rfl,⟨ae,rfl,fun i a l z=>by simp at z⟩,by simp,by simpa using bT⟩ (fun i σ' ys Hx _ ⟨_,_,_,_,e,_⟩=>ay.of (e _ _ gp.top)) ?_ ?_
 ·rintro i x σ' ys Hx hx hi ⟨bs,v,rfl,rfl,e2,rfl,g2,vJ,vk⟩
  obtain ⟨b,l,ha,hl,eP⟩:=gp.at (i:=bs.length) (by rw [List.length_map,gp.len] at hi; exact hi)
  obtain rfl:x = V.ref b:=by
   rw [List.getElem?_map,ha] at hx
   exact (Option.some.inj hx).symm
  have Ds:=hi
  rw [List.length_map,gp.len] at Ds
  refine r_gname ?_
  refine nO ?_
  refine EG (RH _ _ b l _ rfl (e2 _ _ eP) fun c hc=>?_)
  have nc:=g2.ft hc
  have e3:ah Hx (upd Hx c (.lst (l.map V.int))):=ah.upd hc
  have c3:upd Hx c (.lst (l.map V.int)) c = some (.lst (l.map V.int)):=ae
  have cH:H c = none:=e2.free hc
  generalize upd Hx c (.lst (l.map V.int)) = Hy at e3 c3 ⊢
  have g3:=g2.same e3
  have Nr:c≠acc:=fun z=>nc (z▸List.mem_cons_self)
  refine ⟨g3.top,by rw [List.length_map]; exact ax (by omega),eW hi ⟨bs ++ [c],_,rfl,by simp,ah.fresh (e2.trans e3) (vk _ List.mem_cons_self),by simp,?_,?_,fun y hy=>?_⟩⟩
  ·rw [take_snoc hl]; exact g3.snoc (List.nodup_cons.mp vJ).1 Nr c3
  ·obtain ⟨n1,n2⟩:=List.nodup_cons.mp vJ
   refine List.nodup_cons.mpr ⟨fun z=>?_,fg.mpr ⟨fun z=>nc (List.mem_cons_of_mem _ z),n2⟩⟩
   rcases List.mem_append.mp z with z | z
   ·exact n1 z
   ·exact Nr (List.mem_singleton.mp z).symm
  ·rcases List.mem_cons.mp hy with z | z
   ·rw [z]; exact vk _ List.mem_cons_self
   ·rcases List.mem_append.mp z with z | z
    ·exact vk y (List.mem_cons_of_mem _ z)
    ·rw [List.mem_singleton.mp z]; exact cH
 ·rintro σ' ys H4 ⟨cs,v,rfl,rfl,e4,U7,g4,JA,K6⟩
  rw [List.length_map,gp.len,List.take_length] at g4
  exact q acc cs H4 e4 g4 JA K6
theorem tR {i:Nat} {p:Addr} {as:List Addr} {L:List (List Int)} (hv : σ[i]? = some (some (.ref p))) (gp:aN H p as L) (hn:L.length≤1000)
  (q:∀ acc cs H',ah H H'→aN H' acc cs L→(acc :: cs).Nodup→(∀ b∈acc :: cs,H b = none)→Q (.ref acc) H') :
  jT (qg K (fS i)) (jr 0) pq (F8 (fun xs H Q=>∃ p ys,xs = [V.ref p]∧(ay K H p ys∨SqT K H p ys)∧∀ (l:Addr),H l = none→Q (V.ref l) (upd H l (HO.lst ys))) (tE (fS 0) yX)) 1 [] σ H Q:=
 qD (fun σ' H' b l Q' h1 h2 h3=>⟨_,h1,b,_,rfl,.inl (ay.of h2),h3⟩) hv gp hn q
theorem zk {i:Nat} {p:Addr} {as:List Addr} {L:List (List Int)} (hv : σ[i]? = some (some (.ref p))) (gp:aN H p as L) (hn:L.length≤1000)
  (q:∀ acc cs H',ah H H'→aN H' acc cs L→(acc :: cs).Nodup→(∀ b∈acc :: cs,H b = none)→Q (.ref acc) H') :
  jT (qg K (fS i)) (jr 0) pq (yW (nV K) (fS 0) dD dD) 1 [] σ H Q:=
 qD (fun σ' H' b l Q' h1 h2 h3=>wR h1 (ay.of h2) h3) hv gp hn q
theorem zh {i j:Nat} {t:Addr} {ts:List Addr} {R:List (List Int)} {x0:V} {D:Ends} (hj:j < σ.length) (h0 : σ[i]? = some (some (.ref t))) (g:aN H t ts R) (nd:(t :: ts).Nodup) (hl:∀ r∈R,r.length≤1000)
  (q:∀ σ' H',(σ' = σ∨∃ v,σ' = σ.set j v)→(∀ b o,b∉ts→H b = some o→H' b = some o)→D.nx σ' H') :
  BE (qg K (fS i)) (jr j) (wc (HE K "list" nW (fS j) (tE (tC x0) yX))) D σ H:=by
 refine dq ?_
 refine ⟨_,h0,t,rfl,⟨_,ay.of g.top⟩,du (K:=K) (a:=t) (xs:=ts.map V.ref) (fun i σ' H1=>(σ' = σ∨∃ v,σ' = σ.set j v)∧(∀ b o,b∉ts→H b = some o→H1 b = some o)∧∀ (j:Nat) (b:Addr) (l:List Int),i≤j→ts[j]? = some b→R[j]? = some l→H1 b = some (.lst (l.map V.int)))
  ⟨.inl rfl,fun b o _ e=>e,fun j b l _ h1 h2=>g.row j b l h1 h2⟩ (fun i σ H1 _ ⟨_,h,_⟩=>ay.of (h _ _ (List.nodup_cons.mp nd).1 g.top)) ?_ ?_⟩
 ·rintro i x σ' H1 hx ⟨hv,e1,rows⟩
  have qU:i < ts.length:=by
   have:=(List.getElem?_eq_some_iff.mp hx).1
   rw [List.length_map] at this
   exact this
  have N5:i < R.length:=by rw [← g.len]; exact qU
  obtain rfl:x = V.ref ts[i]:=by
   rw [List.getElem?_map,List.getElem?_eq_getElem qU] at hx
   exact (Option.some.inj hx).symm
  have eP:=rows i ts[i] R[i] (Nat.le_refl _) (List.getElem?_eq_getElem qU) (List.getElem?_eq_getElem N5)
  have lR:=hl R[i] (List.getElem_mem N5)
  have tm:ts[i]∈ts:=List.getElem_mem _
  have hs : σ'.set j (some (V.ref ts[i])) = σ.set j (some (V.ref ts[i])):=by
   rcases hv with rfl | ⟨v,rfl⟩
   ·rfl
   ·rw [List.set_set]
  refine r_gname ?_
  rw [hs]
  have Sa:(σ.set j (some (V.ref ts[i])))[j]? = some (some (V.ref ts[i])):=List.getElem?_set_self hj
  refine nT ?_
  refine zp ?_
  refine ⟨_,Sa,?_⟩
  refine ⟨.inl ⟨rfl,_,ay.of eP⟩,?_⟩
  refine dy (r_c (gC ?_))
  refine dJ eP (by rw [List.length_map]; exact ax (by omega)) ?_
  obtain ⟨nt,QP⟩:=List.nodup_cons.mp nd
  refine ⟨.inr ⟨_,rfl⟩,fun b o hb e=>?_,fun j b l hj h1 h2=>?_⟩
  ·have nb:b≠ts[i]:=fun z=>hb (by rw [z]; exact tm)
   rw [aq nb]
   exact e1 b o hb e
  ·have bne:b≠ts[i]:=fun z=>by
    obtain ⟨q1,w1⟩:=List.getElem?_eq_some_iff.mp h1
    have:=(List.getElem_inj QP).mp (w1.trans z)
    omega
   rw [aq bne]
   exact rows j b l (by omega) h1 h2
 ·rintro σ' H1 ⟨hv,e1,rows⟩
  exact q σ' H1 hv e1
end
end Gm
end
section
namespace L2
open PySem PySem.Spec PySem.W PySem.Calls PyProof.Rows
section
variable {X:Cx}
def Ip (K:Frag):List V→Hp→VK→Prop:=fun vs H Q=>∃ (a:Addr) (bs:List Bool),vs = [.ref a]∧ay K H a (bs.map V.bl)∧Q (.bl (bs.all id)) H
theorem ny:∀ {bs:List Bool} {aO:List Value},Vals (bs.map V.bl) aO→aO = bs.map Value.bool
 | [],_,h=>by cases h; rfl
 | b :: bs,_,h=>by
  cases h with
  | @cons _ u _ us ru rv=>
   cases ru
   rw [ny rv]
   rfl
theorem all_range (bs:List Bool):((List.range bs.length).all fun i=>bs.getD i false) = bs.all id:=by
 induction bs with
 | nil=>rfl
 | cons b bs ih=>
  rw [List.length_cons,List.range_succ_eq_map,List.all_cons,List.all_map,List.all_cons]
  congr 1
theorem yv (hc:X.calm = true):d5 X (.builtin "all") (Ip X.K):=by
 intro pins s σ H xs us Q I r h
 obtain ⟨a,bs,rfl,ha,q⟩:=h
 obtain ⟨u,rfl,ru⟩:=vals1 r
 cases ru
 obtain ⟨aO,rv,pl,hz⟩:=I.list ha
 obtain rfl:=ny rv
 have ll:a < s.heap.objs.size:=by obtain ⟨_,e,_⟩:=pl.isList; exact Heap.lt_size e
 refine call_all_walk (wpAny_pyIter_list pl.isList ?_)
 refine ⟨s.heap.objs.size,_,_,_,_,_,fun i=>bs.getD i false,rfl,Walks.list (A:=X.A.in1) (I.ok.hd hc) s.heap.objs.size a (Nat.ne_of_lt ll) (bs.map Value.bool).toArray,⟨⟨_,Heap.get?_push_size _ rfl,rfl,rfl⟩,pl.isList.at fun o e=>Heap.get?_push_of_some _ e⟩,fun i v s' Q' E' hv hq=>?_,fun h' tk hk=>?_⟩
 ·have EJ:(bs.map Value.bool)[i]? = some v:=by simpa using hv
  rw [List.getElem?_map] at EJ
  cases e:bs[i]? with
  | none=>rw [e] at EJ; cases EJ
  | some b=>
   rw [e] at EJ
   cases EJ
   have:bs.getD i false = b:=by rw [List.getD_eq_getElem?_getD,e]; rfl
   have GB:Q' b s':=by rw [← this]; exact hq
   exact wpAny_truthy_bool GB
 ·have ez:(bs.map Value.bool).toArray.size = bs.length:=by simp
  rw [ez,all_range]
  exact ⟨.bl (bs.all id),H,I.kept (t':=tk) fun b o e=>hk b o (fun z=>by
   have:b = s.heap.objs.size:=by simpa using z
   exact absurd (Heap.lt_size e) (by rw [this]; exact Nat.lt_irrefl _)) (Heap.get?_push_of_some _ e),rfl,q⟩
end
section
variable {K:Frag} {σ : St} {H:Hp} {Q:VK}
theorem yo {R:Hp→Prop} {acc a b:Addr} {xs ys:List V} {n:Nat} {g:TG} {tt:TT} {te:TE} (hn:n = min xs.length ys.length) (Pv:Nat→St→List V→Hp→Prop) (h0:Pv 0 σ [] H) (hl:∀ i σ zs H,i≤n→Pv i σ zs H→ay K H a xs∧ay K H b ys)
  (hs:∀ i x y p σ zs H,xs[i]? = some x→ys[i]? = some y→i < n→Pv i σ zs H→H p = none→g (.ref p) σ (upd H p (.tup [x,y])) fun σ2 H4=>tt σ2 H4 fun b H5=>if b = true then te σ2 H5 fun y H6=>H6 acc = some (.lst zs)∧zs.length < sizeLine∧∃ m',m' < n - i∧(m' = n - (i + 1)∧i + 1≤n∧Pv (i + 1) σ2 (zs ++ [y]) (upd H6 acc (.lst (zs ++ [y])))) else ∃ m',m' < n - i∧(m' = n - (i + 1)∧i + 1≤n∧Pv (i + 1) σ2 zs H5))
  (hd:∀ σ zs H,Pv n σ zs H→R H) :
  ∃ W:Nat→Nat→St→List V→Hp→Prop,(∃ m,W 0 m σ [] H)∧∀ i m σ' zs H2,W i m σ' zs H2→(((Bu K a b).stop i H2∧R H2)∨((Bu K a b).go i H2∧∀ x H3,(Bu K a b).vG i H2 x H3→g x σ' H3 fun σ2 H4=>tt σ2 H4 fun b H5=>
   if b = true then te σ2 H5 fun y H6=>H6 acc = some (.lst zs)∧zs.length < sizeLine∧∃ m',m' < m∧W (i + 1) m' σ2 (zs ++ [y]) (upd H6 acc (.lst (zs ++ [y]))) else ∃ m',m' < m∧W (i + 1) m' σ2 zs H5)):=by
 refine ⟨fun i m σ zs H=>m = n - i∧i≤n∧Pv i σ zs H,⟨n,by simp,Nat.zero_le _,h0⟩,?_⟩
 rintro i m σ zs H ⟨rfl,hi,p⟩
 obtain ⟨qa,qb⟩:=hl i σ zs H hi p
 by_cases eV:i < n
 ·have h1:i < xs.length:=by omega
  have h2:i < ys.length:=by omega
  refine .inr ⟨⟨xs,ys,xs[i],ys[i],qa,qb,by simp [h1],by simp [h2]⟩,fun x H' y=>?_⟩
  obtain ⟨r,u,v,hr,rfl,hu,hv,rfl⟩:=y
  exact hs i u v r σ zs H (hu xs qa) (hv ys qb) eV p hr
 ·have e:i = n:=by omega
  exact .inl ⟨⟨xs,ys,qa,qb,by omega⟩,hd σ zs H (e▸p)⟩
end
end L2
end
section
namespace PySem
namespace F
end F
end PySem
namespace L2
open PySem PySem.Spec PySem.W PySem.Calls PyProof.Rows
section
variable {X:Cx} {e st:Expr} {te MC:TE} {p2 pos:Pos}
def O5 (K:Frag) (te MC:TE):TE:=fun σ H Q=>te σ H fun x H1=>MC σ H1 fun y H2=>y = .int (-1)∧∃ a xs,x = .ref a∧ay K H2 a xs∧∀ p,H2 p = none→Q (.ref p) (upd H2 p (.lst xs.reverse))
end
section
variable {X:Cx} {l:Expr} {tl:TE} {p p2 pos nY:Pos}
def DN (K:Frag) (tl:TE):TE:=fun σ H Q=>tl σ H fun x H1=>∃ a xs,x = .ref a∧ay K H1 a xs∧∀ p,H1 p = none→Q (.ref p) (upd H1 p (.lst xs.reverse))
end
end L2
end
section
namespace Gm
open PySem L2
def kN (ks:List (au×Int)):List (List Key×V):=ks.map fun p=>(gz p.1,V.int p.2)
def lk (s:List Int→Nat) (R:List (List Int)):Nat→List (au×Int)
 | 0=>[]
 | k + 1=>lk s R k ++ (sh (s (R.getD k [])) (R.getD k [])).map fun d=>(d,(k:Int))
def lo (R:List (List Int)) (d:au):Int:=(R.findIdx fun r=>decide (d∈sh 0 r):Nat)
def UJ (R:List (List Int)) (s:Nat) (r:List Int):List Int:=(sh s r).map fun d=>lo R (d.2,d.1)
def T7 (D:List (List Int)):Prop:=∀ (k:Nat) (l:List Int),D[k]? = some l→(k:Int)∉l∧l.Nodup
end Gm
namespace Gm
open PySem L2
end Gm
namespace L2
open PySem PySem.Spec PySem.W PySem.Calls PyProof.Rows in
theorem Am (l:List Int):(dW l).length≤l.length:=by
 have:=foldl_step_dedup_length_le [] l
 unfold dW
 simpa using this
end L2
namespace Gm
open PySem L2
end Gm
namespace Gm
end Gm
namespace L2
open PySem
theorem zw {X:Cx} {K:PySem.W.Frag} (hK:X.K = K) {pos:Pos} {es:List Expr} {k:Nat} {t:yQ} {n:Nat} (hc:X.calm = true) (h:FZ X es t)
  (hn:(assignEach es X.env).length = n:=by rfl) (CC:(assignEach es X.env).findIdx? (·.1) = none:=by rfl):PG X (.Tuple es k pos) (CV K n t):=by
 subst hK
 exact rO hc h hn CC
end L2
namespace L2
end L2
end
section
namespace Gm
open PySem L2
inductive AB (L:List (List Int)) (S:List Int) (s:Int):Int→Prop where
 | here:AB L S s s
 | step {i:Nat} {l:List Int} {x:Int}:AB L S s i→L[i]? = some l→x∈l→x∉S→AB L S s x
structure Vp (L:List (List Int)) (S:List Int) (s:Int) (ks ws:List Int):Prop where
 nd:ks.Nodup
 nw:ws.Nodup
 st:s∈ks
 re:∀ x∈ks,AB L S s x
 sub:∀ x∈ws,x∈ks
 cl:∀ (i:Nat) (l:List Int),(i:Int)∈ks→(i:Int)∉ws→L[i]? = some l→∀ x∈l,x∉S→x∈ks
structure Vq (L:List (List Int)) (S:List Int) (s:Int) (ks ws:List Int) (pl:Nat) (l:List Int) (k:Nat):Prop where
 nd:ks.Nodup
 nw:ws.Nodup
 st:s∈ks
 re:∀ x∈ks,AB L S s x
 sub:∀ x∈ws,x∈ks
 pk:(pl:Int)∈ks
 cl:∀ (i:Nat) (m:List Int),(i:Int)∈ks→(i:Int)∉ws→i≠pl→L[i]? = some m→∀ x∈m,x∉S→x∈ks
 tk:∀ x∈l.take k,x∉S→x∈ks
def F3 (L:List (List Int)) (S fs:List Int):Prop:=∀ (i:Nat) (l:List Int),L[i]? = some l→(i:Int)∉S→(∃ x,x∈l∧x∈fs)→(i:Int)∈fs
structure Vh (L:List (List Int)) (S:List Int) (s:Int) (fs:List Int) (k:Nat):Prop where
 nd:fs.Nodup
 st:s∈fs
 re:∀ x∈fs,AB L S s x
 gr:F3 L S fs∨k + 1≤fs.length
structure Vg (L:List (List Int)) (S:List Int) (s:Int) (zZ fs:List Int) (j:Nat):Prop where
 nd:fs.Nodup
 st:s∈fs
 re:∀ x∈fs,AB L S s x
 kp:F3 L S zZ→fs = zZ
 gr:zZ.length < fs.length∨(fs = zZ∧∀ (i:Nat) (l:List Int),i < j→L[i]? = some l→(i:Int)∉S→(∃ x,x∈l∧x∈fs)→(i:Int)∈fs)
def iP (n:Nat):List Int:=(List.range n).map fun i:Nat=>(i:Int)
theorem vT (n:Nat):(iP n).length = n:=by unfold iP; simp
def left (n:Nat) (S:List Int):List Int:=(iP n).filter fun x=>!decide (x∈S)
open Classical in
noncomputable def rn (L:List (List Int)) (S:List Int) (s:Int):Nat:=((iP L.length).filter fun x=>decide (AB L S s x)).length
noncomputable def UI (L:List (List Int)) (S:List Int):Bool:=match left L.length S with | []=>false | s :: r=>decide (rn L S s < (s :: r).length)
def twos (n one:Nat):List (List Int):=(List.range (n - (one + 1))).map fun j:Nat=>[(one:Int),(one:Int) + 1 + (j:Int)]
def BH (n:Nat):Nat→List (List Int)
 | 0=>[] :: (iP n).map fun i=>[i]
 | k + 1=>BH n k ++ twos n k
end Gm
end
section
namespace Gm
open PySem L2
def sw (d:au):au:=(d.2,d.1)
def UR (L:List (List Int)):List (List Int):=L.map List.reverse
def F4 (r s:List Int):Prop:=∃ c,c < r.length∧s = cz r.reverse c∧uD s
abbrev OR:List (List Int)→List (List Int)→Prop:=Paired F4
end Gm
end
section
namespace Gm
open PySem L2
end Gm
end
section
namespace Gm
open PySem L2
structure Lay (A B:List (List Int)) (f:Int→Int):Prop where
 len:A.length = B.length
 rg:∀ i:Int,0≤i→i < A.length→0≤f i∧f i < B.length
 row:∀ i:Int,0≤i→i < A.length→fR ((rowOf A i).map f) (rowOf B (f i))
end Gm
end
section
namespace Gm
open PySem L2
def nm (ks:List (Int×Int)) (p:Int):Int:=(ks.lookup p).getD 0
structure Br (A B:List (List Int)) (first x0 second:Int) (f:Int→Int):Prop where
 lay:Lay A B f
 e0:f 0 = first
 e1:f x0 = second
abbrev Wait:=Int×Int×Int
structure Nf (A B:List (List Int)) (first x0 second:Int) (ks:List (Int×Int)) (ws:List Wait):Prop where
 nd:(ks.map (·.1)).Nodup
 rg:∀ p∈ks,(0≤p.1∧p.1 < A.length)∧0≤p.2∧p.2 < B.length
 st:(0,first)∈ks
 wn:(ws.map (·.1)).Nodup
 wk:∀ w∈ws,∃ v,(w.1,v)∈ks∧w.2.1∈rowOf A w.1∧w.2.2∈rowOf B v
 cl:∀ p v,(p,v)∈ks→p∉ws.map (·.1)→(∀ y∈rowOf A p,∃ u,(y,u)∈ks)∧fR ((rowOf A p).map (nm ks)) (rowOf B v)
 un:∀ f,Br A B first x0 second f→(∀ p∈ks,f p.1 = p.2)∧∀ w∈ws,f w.2.1 = w.2.2
 Rt:(0,x0,second)∈ws∨(x0,second)∈ks
structure Ni (A B:List (List Int)) (first x0 second:Int) (ks:List (Int×Int)) (ws:List Wait) (p v:Int) (od gl:List Int) (k:Nat):Prop where
 nd:(ks.map (·.1)).Nodup
 rg:∀ p∈ks,(0≤p.1∧p.1 < A.length)∧0≤p.2∧p.2 < B.length
 st:(0,first)∈ks
 wn:(ws.map (·.1)).Nodup
 pn:p∉ws.map (·.1)
 pk:(p,v)∈ks
 wk:∀ w∈ws,∃ v,(w.1,v)∈ks∧w.2.1∈rowOf A w.1∧w.2.2∈rowOf B v
 cl:∀ q u,(q,u)∈ks→q∉ws.map (·.1)→q≠p→(∀ y∈rowOf A q,∃ u,(y,u)∈ks)∧fR ((rowOf A q).map (nm ks)) (rowOf B u)
 un:∀ f,Br A B first x0 second f→(∀ p∈ks,f p.1 = p.2)∧∀ w∈ws,f w.2.1 = w.2.2
 tk:∀ (t:Nat) (y u:Int),t < k→od[t]? = some y→gl[t]? = some u→(y,u)∈ks
 Rt:(0,x0,second)∈ws∨(x0,second)∈ks∨(od[0]? = some x0∧gl[0]? = some second)
end Gm
end
section
namespace Gm
open PySem L2
def kI (ks:List (Int×Int)):List (Key×V):=ks.map fun p=>((Sum.inl p.1:Key),V.int p.2)
abbrev WR (H:Hp):List Addr→List Wait→Prop:=Paired fun a w=>H a = some (.tup [.int w.1,.int w.2.1,.int w.2.2])
end Gm
end
section
namespace L2
open PySem PySem.Spec PySem.W PySem.Calls PyProof.Rows Gm
section
variable {X:Cx} {l:Expr} {tl:TE} {p p2 pos nY:Pos}
def pB (tl:TE):TE:=fun σ H Q=>tl σ H fun x H1=>∃ n:Nat,x = .int (n:Int)∧n≤1000∧∀ p,H1 p = none→Q (.ref p) (upd H1 p (.lst ((iP n).map V.int)))
theorem uI {acc:Array Value} {n:Nat} (h:ItemsOf (fun i v=>∃ t,v = Value.int (0 + (i:Int) * 1) t) acc n):Vals ((iP n).map V.int) acc.toList:=by
 obtain ⟨hs,h⟩:=h
 have key:∀ (l:List Value) (k:Nat),(∀ j v,l[j]? = some v→∃ t,v = Value.int (((k + j:Nat):Int)) t)→Vals (((List.range' k l.length).map fun i:Nat=>(i:Int)).map V.int) l:=by
  intro l
  induction l with
  | nil=>intro k _; exact .nil
  | cons a l ih=>
   intro k hk
   rw [List.length_cons,List.range'_succ,List.map_cons,List.map_cons]
   refine .cons ?_ (ih (k + 1) fun j v e=>?_)
   ·obtain ⟨t,e⟩:=hk 0 a rfl
    exact ⟨t,e⟩
   ·obtain ⟨t,e'⟩:=hk (j + 1) v (by simpa using e)
    exact ⟨t,by rw [e']; congr 2; omega⟩
 have:=key acc.toList 0 fun j v e=>by
  obtain ⟨t,e'⟩:=h j v (by rw [← Array.getElem?_toList]; exact e)
  refine ⟨t,?_⟩
  rw [e']
  congr 1
  omega
 rw [Array.length_toList,hs] at this
 unfold iP
 rw [List.range_eq_range']
 exact this
theorem n9 (hc:X.calm = true) (hm:X.mg "range" = none) (CK:X.mg "list" = none) (ha:PE X l tl) (hg:Gl X "range":=by rfl) (EY:Gl X "list":=by rfl)
  (he:starEach [l] X.env = (false,eval l X.env) :: starEach [] X.env:=by rfl)
  (vN:starEach [.Call (.Name "range" p) [l] [] pos] X.env = (false,eval (.Call (.Name "range" p) [l] [] pos) X.env) :: starEach [] X.env:=by rfl) :
  PE X (.Call (.Name "list" p2) [.Call (.Name "range" p) [l] [] pos] [] nY) (pB tl):=by
 intro pins s σ H Q I h
 refine Call_ (dU I EY CK lu (PyProof.Rows.callWith_type1 ?_ vN rfl))
 rw [vN]
 show wpAny _ _ (spliced ((false,eval (.Call (.Name "range" p) [l] [] pos) X.env) :: backTo nY (starEach [] X.env))) _ _ s
 refine Calls.spliced_cons ?_
 refine Call_ (dU I hg hm boot_range (PyProof.Rows.callWith_type1 ?_ he rfl))
 rw [he]
 show wpAny _ _ (spliced ((false,eval l X.env) :: backTo pos (starEach [] X.env))) _ _ s
 refine Calls.spliced_cons (cS (ha pins s σ H _ I h) fun u1 s1 ⟨x,H1,I1,r1,q1⟩=>?_)
 refine Calls.spliced_nil ?_
 obtain ⟨n,rfl,hn,q⟩:=q1
 obtain ⟨t,rfl⟩:=r1
 refine call_range_1 ?_
 refine Calls.spliced_nil ?_
 generalize EW:s1.heap.push { cls:=Value.type "range",data:=Data.fields #[Value.int 0 s1.toks,Value.int (n:Int) t,Value.int 1 (s1.toks + 1)] } = h'
 have kp:∀ c o,s1.heap.get? c = some o→h'.get? c = some o:=fun c o e=>EW▸Heap.get?_push_of_some _ e
 have hz:IsRange h' s1.heap.objs.size 0 (n:Int) 1 s1.toks t (s1.toks + 1):=EW▸IsRange.new ..
 have I2:Inv X pins σ H1 { s1 with heap:=h',toks:=s1.toks + 1 + 1 }:=I1.kept kp
 refine call_list_range (s:={ s1 with heap:=h',toks:=s1.toks + 1 + 1 }) (n:=n) (I2.ok.hd hc) hz (small_one (by omega) (by omega) (by omega) (by omega)) (by rw [rangeSize_one]; split <;> omega) (by omega) fun h3 tk acc c hk hS hit=>?_
 have I3:Inv X pins σ (upd H1 h'.objs.size (.lst ((iP n).map V.int))) { s1 with heap:=h3,toks:=tk }:=by
  refine Inv.iQ (s:={ s1 with heap:=h',toks:=s1.toks + 1 + 1 }) (ch:=[]) I2 (fun b u _ e=>hk b u e) (fun b hb=>by simp at hb) (Nat.le_refl _) ?_
  exact ⟨by rw [List.length_map,vT,PySem.sizeLine_eq]; omega,acc.toList,c,uI hit,by rw [Array.toArray_toList]; exact hS⟩
 exact ⟨.ref h'.objs.size,_,I3,rfl,q _ (I2.bA.fresh (Nat.le_refl _))⟩
end
section
variable {σ : St} {H:Hp} {Q:VK} {K:Frag}
theorem uT {tl:TE} (h:tl σ H fun x H1=>∃ n:Nat,x = .int (n:Int)∧n≤1000∧∀ p,H1 p = none→Q (.ref p) (upd H1 p (.lst ((iP n).map V.int)))):pB tl σ H Q:=h
theorem zi {r:V→Option Int→Option Int→Hp→VK→Prop} {te:TE} {tl th:TO} (h:te σ H fun x H1=>tl σ H1 fun l H2=>th σ H2 fun u H3=>r x l u H3 Q):yW r te tl th σ H Q:=h
theorem jJ {xs:List Int} {k:Nat} {y:Int} (h:xs[k]? = some y):(y :: xs.eraseIdx k).Perm xs:=by
 obtain ⟨hl,e⟩:=List.getElem?_eq_some_iff.mp h
 rw [List.eraseIdx_eq_take_drop_succ]
 refine List.perm_middle.symm.trans ?_
 rw [← e,← List.drop_eq_getElem_cons hl,List.take_append_drop]
end
end L2
end
section
namespace Gm
open PySem L2
def Q6 (n:Nat) (l:List Int):List (List Int):=((iP n).filter fun x=>!decide (x∈l)).map fun x=>l ++ [x]
def Md (n:Nat):Nat→List (List Int)
 | 0=>[[]]
 | k + 1=>(Md n k).flatMap (Q6 n)
def Gu (l:List Int) (i:Int):Int:=l.getD i.toNat 0
structure Vk (n:Nat) (l:List Int):Prop where
 len:l.length = n
 nd:l.Nodup
 rg:∀ x∈l,0≤x∧x < n
structure Vd (A:List (List Int)) (l:List Int) (R:List (List Int)):Prop where
 len:R.length = A.length
 row:∀ j:Int,0≤j→j < A.length→R[(Gu l j).toNat]? = some ((rowOf A j).map (Gu l))
def T5 (L:List (List Int)):Prop:=∀ x:Int,0≤x→x < L.length→Reach L 0 x
def zy (n:Nat) (k:Nat):List Int:=[(k:Int) - 1,(k:Int) + 1].filter fun x=>decide (0≤x) && decide (x < n)
def path (n:Nat):List (List Int):=(List.range n).map (zy n)
theorem fX {a b:TS} {D:Ends} {σ : St} {H:Hp} (Pv:St→Hp→Prop) (hb:∀ σ' H',Pv σ' H'→b D σ' H') (ha:∀ T:St→Hp→Prop,(∀ σ' H',Pv σ' H'→T σ' H')→a { D with nx:=T } σ H):BC a b D σ H:=ha _ hb
def S8 (A B:List (List Int)):PyData:=.list [fQ A,fQ B]
end Gm
end
section
namespace L2
open PySem PySem.Spec PySem.W PySem.Calls PyProof.Rows HT
def P6 (K:Frag):R2:=fun x y H Q=>∃ (a b:Addr) (ns ms:List Int),x = .ref a∧y = .ref b∧ay K H a (ns.map V.int)∧ay K H b (ms.map V.int)∧Q (.bl (lexLt ms ns)) H
end L2
end
section
namespace L2
open PySem PySem.Spec PySem.W PySem.Calls PyProof.Rows Gm
section
variable {X:Cx}
def rJoin (K:Frag):V→List V→Hp→VK→Prop:=fun x vs H Q=>∃ (sep:Str) (a:Addr) (ts:List Str),x = .str sep∧vs = [.ref a]∧ay K H a (ts.map V.str)∧JoinOk sep ts = true∧Q (.str (Str.join sep ts)) H
def Ig:V→List V→Hp→VK→Prop:=fun x vs H Q=>∃ (z y:Str),x = .str z∧vs = [.str y]∧(y.length == 0) = false∧z.length≤1000000∧(Builtin.Str.partsBetween z (Builtin.Str.occurrences z y 0 z.length (z.length + 1)) y.length).length≤sizeLine∧
 ∀ p,H p = none→Q (.ref p) (upd H p (.lst ((Txt.split z y).map V.str)))
def Pb (te:TE) (y:Str):TE:=fun σ H Q=>te σ H fun x H1=>∃ n:Int,x = .int n∧n.natAbs.log2 < 1920∧((toString n:String):Str).length + y.length≤1000000∧Q (.str (((toString n:String):Str) ++ y)) H1
end
def TZ (x:Str):It:=⟨fun i _=>i < x.cps.size,fun i H v H'=>H' = H∧∃ c,x.cps[i]? = some c∧v = .str ⟨#[c]⟩,fun i _=>x.cps.size≤i⟩
section
variable {X:Cx} {tg:Expr}
def Ry (tl:TE):TI:=fun σ H R=>tl σ H fun x H1=>∃ z:Str,x = .str z∧z.cps.all (· < 128) = true∧R (TZ z) H1
end
end L2
end
section
namespace Gm
open PySem L2
def jl (s:List Nat):List (List Nat)→List Nat
 | []=>[]
 | [a]=>a
 | a :: b :: r=>a ++ s ++ jl s (b :: r)
abbrev num (n:Int):Str:=((toString n:String):Str)
structure Num (x:Str):Prop where
 l1:1≤x.length
 l2:x.length≤2
 dg:∀ c∈x.cps.toList,48≤c∧c≤57
 hd:x = ((("0" : String)):Str)∨∃ c,x.cps[0]? = some c∧c≠48
end Gm
end
section
namespace Gm
open PySem L2
def Vc (L:List (List Int)):Prop:=∀ d,Dt L d→∃ c,d∈c∧qX (nx L) c∧(c.map (·.1)).Nodup
def seg (r:List Int) (s m:Nat):List au:=(List.range m).map fun t=>dj r (s + t)
end Gm
end
section
namespace Gm
open PySem L2
section
variable {L N:List (List Int)} {r:List Int}
def Uu (r:List Int) (n c1 cj:Nat) (d:au):Prop:=(∃ i,cj≤i∧i < c1 + r.length∧d = dj r i)∨d = (cy r c1,(n:Int))∨d = ((n:Int),cy r cj)
def Vf (L:List (List Int)) (r:List Int) (c1 cj:Nat) (M:List (List Int)):Prop:=∀ d,Dt M d→Uu r L.length c1 cj d∨∃ c,d∈c∧qX (nx M) c∧(c.map (·.1)).Nodup
end
end Gm
end
section
namespace Gm
open PySem L2
def tetra:List (List Int):=[[1,3,2],[2,3,0],[0,3,1],[2,0,1]]
def tetraR:List (List au):=[[(0,1),(1,3),(3,0)],[(0,3),(3,2),(2,0)],[(0,2),(2,1),(1,0)],[(1,2),(2,3),(3,1)]]
end Gm
end
section
namespace Gm
open PySem L2
abbrev Pn:Str:=((" " : String):Str)
abbrev Pm:Str:=((":" : String):Str)
abbrev Po:Str:=(("\n" : String):Str)
abbrev t0:Str:=(("" : String):Str)
def Ic (k:Int) (l:List Int):Str:=Str.join Pn ((num k ++ Pm) :: l.map num)
def DX (L:List (List Int)):List Str:=L.mapIdx fun i l=>Ic ((i:Nat):Int) l
def Q4 (L:List (List Int)):Str:=Str.join Po (DX L)
def T8 (l:List Int):Prop:=l.length≤14∧∀ x∈l,0≤x∧x < 14
structure Sm (L:List (List Int)):Prop where
 len:L.length≤14
 uq:∀ l∈L,T8 l
def mn (l:List Int):Int:=l.min?.getD 0
def lb (l:List Int):List Int:=cz l (l.idxOf (mn l))
end Gm
end
section
namespace L2
open PySem PySem.Spec PySem.W PySem.Calls PyProof.Rows Gm
theorem C9:bootBuiltins "all" = some (.builtin "all"):=by decide +kernel
theorem ym {x:V} {xs:List V}:gQ (x :: xs) (some (1:Int)) none = xs:=by
 unfold gQ HT.lG
 dsimp only
 rw [if_neg (by omega),show min ((1:Int).toNat) (x :: xs).length = 1 by rw [List.length_cons]; show min 1 _ = 1; omega,List.take_of_length_le (by rw [List.length_drop]; omega)]
 rfl
section
variable {K:Frag} {σ : St} {H:Hp} {Q:VK}
theorem BS {a:Addr} {i:Nat} {x:V} {xs:List V} (h1 : σ[i]? = some (some (.ref a))) (hs:ay K H a (x :: xs)) (q:∀ p,H p = none→Q (.ref p) (upd H p (.lst xs))):yW (nV K) (fS i) (mE (tC (.int 1))) dD σ H Q:=
 ⟨_,h1,⟨_,rfl,⟨a,_,rfl,hs,fun p hp=>by rw [ym]; exact q p hp⟩⟩⟩
end
end L2
end
section
namespace L2
open PySem PySem.Spec PySem.W PySem.Calls PyProof.Rows Gm
def ux (A:List (List Int)) (l:List Int):PyData:=.list [fQ A,bb l]
theorem eB (A:List (List Int)) (l:List Int):SeqAt.shaped (ux A l) = true:=by
 obtain ⟨h1,h2⟩:=kC A
 obtain ⟨h3,h4⟩:=lay_ints l
 unfold SeqAt.shaped ux fQ bb
 unfold bb at h1 h2
 simp [PyData.canLay0,PyData.canLayAll0,PyData.depth,PyData.depthAll,h1,h3,h4]
 omega
theorem sF (A:List (List Int)) (l:List Int):PyData.eqv (ux A l) (ux A l) = true:=by
 unfold ux
 rw [PyData.eqv,PyData.eqvAll,PyData.eqvAll,PyData.eqvAll,qz,show PyData.eqv (bb l) (bb l) = true by unfold bb; rw [PyData.eqv,iB]; exact decide_eq_true rfl,decide_eq_true rfl]
 rfl
theorem wz {H:Hp} {t p o:Addr} {as:List Addr} {A:List (List Int)} {l:List Int} (h:H t = some (.lst [.ref p,.ref o])) (g:aN H p as A) (k:H o = some (.lst (l.map V.int))):pd H (.ref t) (ux A l):=.lst h (.cons g.MV (.cons (br k) .nil))
end L2
end
section
namespace L2
open PySem PySem.Spec PySem.W PySem.Calls PyProof.Rows Gm
section
variable {X:Cx}
noncomputable def Vb (H:Hp) (l:List Int):Value→Bool:=fun v=>match v with | .ref b=>@decide (H b = some (.lst (l.map V.int))) (Classical.propDecidable _) | _=>false
def P4 (neg:Bool):R2:=fun x y H Q=>∃ (a t:Addr) (bs:List Addr) (R:List (List Int)) (l:List Int),x = .ref a∧y = .ref t∧H a = some (.lst (l.map V.int))∧aN H t bs R∧Q (.bl (if neg then !decide (l∈R) else decide (l∈R))) H
def Gj:V→List V→Hp→VK→Prop:=fun x vs H Q=>∃ (a t:Addr) (bs:List Addr) (R:List (List Int)) (l:List Int),x = .ref t∧vs = [.ref a]∧H a = some (.lst (l.map V.int))∧aN H t bs R∧l∈R∧Q (.int (R.idxOf l:Nat)) H
end
end L2
end
section
namespace L2
open PySem PySem.Spec PySem.W PySem.Calls PyProof.Rows HT
def P1 (K:Frag):R2:=fun x y H Q=>∃ (a b:Addr) (ns ms:List Int),x = .ref a∧y = .ref b∧ay K H a (ns.map V.int)∧ay K H b (ms.map V.int)∧Q (.bl (!lexLt ms ns)) H
end L2
end
section
namespace Gm
open PySem L2
structure Ve (L:List (List Int)):Prop where
 map:aH L
 Fv:∃ R S,Dec L R∧Bt L S∧2 * (L.length + R.length + iso L) = (eL L L.length).length + 4 * S.length
end Gm
end
section
namespace Gm
open PySem L2
def lp (v:Int) (p:List Int) (j:Nat):Int:=if j = 0 then v else p.getD (j - 1) v
def On (v:Int) (p:List Int) (d:au):Prop:=∃ j,j≤p.length∧(d = (lp v p j,lp v p (j + 1))∨d = (lp v p (j + 1),lp v p j))
end Gm
end
section
namespace L2
open PySem PySem.Spec PySem.W PySem.Calls PyProof.Rows Gm
def T2 (d:Addr) (o:Obj) (aI:List (Key×V)):It:=
 ⟨fun i H=>H d = some (.kR o (.dK aI))∧i < aI.length,fun i H x H'=>H' = H∧∃ k v,aI[i]? = some (k,v)∧x = kV k,fun i H=>H d = some (.kR o (.dK aI))∧aI.length≤i⟩
section
variable {X:Cx} {tg:Expr}
def NG (tl:TE):TI:=fun σ H R=>tl σ H fun x H1=>∃ a aI,x = .ref a∧H1 a = some (.dK aI)∧∀ o,R (T2 a o aI) (upd H1 a (.kR o (.dK aI)))
def Ii:List V→Hp→VK→Prop:=fun xs H Q=>∃ a aI,xs = [V.ref a]∧H a = some (.dK aI)∧∀ p,H p = none→Q (.ref p) (upd H p (.lst (aI.map fun kv=>kV kv.1)))
def TX (K:Frag) (a:Addr) (xs:List V):It:=
 ⟨fun i H=>ay K H a xs∧i < xs.length,fun i H x H'=>H' = H∧xs.reverse[i]? = some x,fun i H=>xs.length≤i⟩
def Rz (K:Frag) (tl:TE):TI:=fun σ H R=>tl σ H fun x H1=>∃ a xs,x = .ref a∧ay K H1 a xs∧R (TX K a xs) H1
end
end L2
end
section
namespace Gm
open PySem L2
def kF (ks:List Int) (f:Int→Int):List (Key×V):=ks.map fun x=>((Sum.inl x:Key),V.int (f x))
def SA (f:Int→Int) (x h:Int):Int→Int:=fun y=>if y = x then h else f y
structure Vn (L:List (List Int)) (ks:List Int) (f:Int→Int):Prop where
 nd:ks.Nodup
 rg:∀ x∈ks,0≤x∧x < L.length
 hu:∀ x∈ks,0≤f x∧f x < 5
 ap:∀ x∈ks,∀ y∈rowOf L x,y∈ks→f y≠f x
def near (L:List (List Int)) (ks:List Int) (v:Int):List Int:=(rowOf L v).filter fun z=>decide (z∈ks)
def Ol (ts:List Int):List Int:=(iP 5).filter fun h=>!decide (h∈ts)
section
variable {L:List (List Int)} {ks:List Int} {f:Int→Int} {v:Int}
structure TM (L:List (List Int)) (ks:List Int) (f:Int→Int) (a b:Int) (S:List Int):Prop where
 sh:∀ x,x∈S↔(0≤x∧x < L.length)∧¬ (x∈ks∧(f x = a∨f x = b))
def DS (L:List (List Int)) (ks:List Int) (f:Int→Int) (a b:Int):List Int:=(iP L.length).filter fun x=>!decide (x∈ks∧(f x = a∨f x = b))
def Vo (L:List (List Int)) (ks:List Int) (f:Int→Int) (one other x:Int):Prop:=AB L (DS L ks f (f one) (f other)) one x
def MB (f:Int→Int) (a b:Int) (G:List Int):Int→Int:=fun y=>if y∈G then a + b - f y else f y
end
structure Off (L:List (List Int)) (os:List Int):Prop where
 nd:os.Nodup
 rg:∀ x∈os,0≤x∧x < L.length
 uq:∀ (i:Nat) (x:Int),os[i]? = some x→((rowOf L x).filter fun z=>!decide (z∈os.take i)).length≤5
end Gm
end
section
namespace Gm
open PySem L2
def Ts:List (List Int):=[[1,2,3,4,5],[0,5,10,6,2],[0,1,6,7,3],[0,2,7,8,4],[0,3,8,9,5],[0,4,9,10,1],[1,10,11,7,2],[2,6,11,8,3],[3,7,11,9,4],[4,8,11,10,5],[5,9,11,6,1],[10,9,8,7,6]]
def OL:List (List au):=[[(0,1),(1,2),(2,0)],[(0,2),(2,3),(3,0)],[(0,3),(3,4),(4,0)],[(0,4),(4,5),(5,0)],[(0,5),(5,1),(1,0)],[(1,5),(5,10),(10,1)],[(1,10),(10,6),(6,1)],[(1,6),(6,2),(2,1)],[(2,6),(6,7),(7,2)],[(2,7),(7,3),(3,2)],[(3,7),(7,8),(8,3)],[(3,8),(8,4),(4,3)],[(4,8),(8,9),(9,4)],[(4,9),(9,5),(5,4)],[(5,9),(9,10),(10,5)],[(6,10),(10,11),(11,6)],[(6,11),(11,7),(7,6)],[(7,11),(11,8),(8,7)],[(8,11),(11,9),(9,8)],[(9,11),(11,10),(10,9)]]
section
variable {A R:List (List Int)} {l:List Int}
def UK (l:List Int) (d:au):au:=(Gu l d.1,Gu l d.2)
end
end Gm
end
section
namespace L2
open PySem PySem.Spec PySem.W PySem.Calls PyProof.Rows Gm Fr
end L2
namespace Gm
open PySem L2
end Gm
end
section
namespace L2
open PySem PySem.Spec PySem.W PySem.Calls PyProof.Rows Gm
def T1 (d:Addr) (o:Obj) (aI:List (List Key×V)):It:=
 ⟨fun i H=>H d = some (.kR o (.dT aI))∧i < aI.length,fun i H x H'=>H' = H∧∃ k v b,aI[i]? = some (k,v)∧H b = some (.tup (k.map kV))∧x = .ref b,fun i H=>H d = some (.kR o (.dT aI))∧aI.length≤i⟩
section
variable {X:Cx} {tg:Expr}
def Kb (tl:TE):TI:=fun σ H R=>tl σ H fun x H1=>∃ a aI,x = .ref a∧H1 a = some (.dT aI)∧∀ o,R (T1 a o aI) (upd H1 a (.kR o (.dT aI)))
end
end L2
end
section
namespace L2
open PySem PySem.Spec PySem.W PySem.Calls PyProof.Rows Gm
section
variable {X:Cx} {pins:List (Addr×Obj)} {σ : St} {H:Hp} {s:Shared} {a:Addr} {A:Around} {E:Value→Shared→Prop}
def Hq (tk tv:TE):TE:=fun σ H Q=>∀ p,H p = none→nH [(tk,tv)] σ (upd H p (.dT [])) fun ps H2=>H2 p = some (.dT [])∧∃ (b:Addr) (k:List Key) (y:V),ps = [(.ref b,y)]∧H2 b = some (.tup (k.map kV))∧Q (.ref p) (upd H2 p (.dT [(k,y)]))
end
end L2
namespace L2
open PySem PySem.Spec PySem.W PySem.Calls PyProof.Rows Gm
section
variable {X:Cx} {pins:List (Addr×Obj)} {σ : St} {H:Hp} {s:Shared} {a:Addr} {A:Around} {E:Value→Shared→Prop}
def Hr (td ty:TE):TE:=fun σ H Q=>td σ H fun x H1=>∃ a,x = .ref a∧F2 H1 a∧ty σ H1 fun y H2=>∃ (aI:List (List Key×V)) (j:Nat) (k:List Key) (v:V) (b:Addr),H2 a = some (.dT aI)∧y = .ref b∧H2 b = some (.tup (k.map kV))∧aI[j]? = some (k,v)∧Q v (upd H2 a (.dT (aI.eraseIdx j)))
def ME (H0:Hp) (t:TS):TS:=fun D σ H=>t { D with nx:=fun σ' H'=>∃ (d:Addr) (o:Obj) (aI:List (List Key×V)),H' d = some (.kR o (.dT aI))∧(∀ o' u',H0 d≠some (.kR o' u'))∧D.nx σ' (upd H' d (.dT aI)) } σ H
end
end L2
end
section
namespace i8
open PySem
def gY (xs:Array Nat):Prop:=∀ i j a b:Nat,xs[i]? = some a→xs[j]? = some b→i < j→a < b
theorem oJ {xs:Array Nat} (hr:gY xs) (j:Nat):∀ (fuel lo hi:Nat),hi≤xs.size→lo≤hi→hi - lo < fuel + 1→(∀ i a,xs[i]? = some a→i < lo→a < j)→(∀ i a,xs[i]? = some a→hi≤i→j≤a)→
  lo≤SetTable.below.go xs j fuel lo hi∧SetTable.below.go xs j fuel lo hi≤hi∧(∀ i a,xs[i]? = some a→i < SetTable.below.go xs j fuel lo hi→a < j)∧(∀ i a,xs[i]? = some a→SetTable.below.go xs j fuel lo hi≤i→j≤a)
 | 0,lo,hi,h1,h2,h3,h4,h5=>by
  have:lo = hi:=by omega
  subst this
  exact ⟨Nat.le_refl _,Nat.le_refl _,h4,h5⟩
 | fuel + 1,lo,hi,h1,h2,h3,h4,h5=>by
  unfold SetTable.below.go
  by_cases c:lo < hi
  ·rw [if_pos c]
   dsimp only
   have ml:(lo + hi) / 2 < xs.size:=by omega
   have em:xs[(lo + hi) / 2]? = some xs[(lo + hi) / 2]:=Array.getElem?_eq_getElem ml
   have eg:xs.getD ((lo + hi) / 2) j = xs[(lo + hi) / 2]:=by rw [Array.getD_eq_getD_getElem?,em]; rfl
   rw [eg]
   by_cases d:xs[(lo + hi) / 2] < j
   ·rw [if_pos d]
    obtain ⟨a1,a2,a3,a4⟩:=oJ hr j fuel ((lo + hi) / 2 + 1) hi h1 (by omega) (by omega) (fun i a qU hl=>by
     by_cases e:i = (lo + hi) / 2
     ·subst e; rw [em] at qU; injection qU with qU; omega
     ·have:=hr i _ a _ qU em (by omega); omega) h5
    exact ⟨by omega,a2,a3,a4⟩
   ·rw [if_neg d]
    obtain ⟨a1,a2,a3,a4⟩:=oJ hr j fuel lo ((lo + hi) / 2) (by omega) (by omega) (by omega) h4 (fun i a qU hl=>by
     by_cases e:i = (lo + hi) / 2
     ·subst e; rw [em] at qU; injection qU with qU; omega
     ·have:=hr _ i _ a em qU (by omega); omega)
    exact ⟨a1,by omega,a3,a4⟩
  ·rw [if_neg c]
   have:lo = hi:=by omega
   subst this
   exact ⟨Nat.le_refl _,Nat.le_refl _,h4,h5⟩
theorem gX {xs:Array Nat} (hr:gY xs) (j:Nat):SetTable.below xs j≤xs.size∧(∀ i a,xs[i]? = some a→i < SetTable.below xs j→a < j)∧(∀ i a,xs[i]? = some a→SetTable.below xs j≤i→j≤a):=by
 unfold SetTable.below
 obtain ⟨_,a2,a3,a4⟩:=oJ hr j xs.size 0 xs.size (Nat.le_refl _) (Nat.zero_le _) (by omega) (fun i a _ h=>absurd h (Nat.not_lt_zero _)) (fun i a h hl=>by
  have:=(Array.getElem?_eq_some_iff.mp h).1
  omega)
 exact ⟨a2,a3,a4⟩
theorem Cv {xs:Array Nat} {p:Nat} (hp:p≤xs.size) (x i:Nat):(SetTable.insertAt xs p x)[i]? = if i < p then xs[i]? else if i = p then some x else xs[i - 1]?:=by
 unfold SetTable.insertAt
 have e1:(xs.extract 0 p).size = p:=by rw [Array.size_extract]; omega
 by_cases h1:i < p
 ·rw [if_pos h1,Array.getElem?_append_left (by rw [Array.size_push,e1]; omega),Array.getElem?_push,if_neg (by rw [e1]; omega),Array.getElem?_extract]
  rw [if_pos (by omega)]
  congr 1
  omega
 ·rw [if_neg h1]
  by_cases h2:i = p
  ·subst h2
   rw [if_pos rfl,Array.getElem?_append_left (by rw [Array.size_push,e1]; omega),Array.getElem?_push,if_pos e1.symm]
  ·rw [if_neg h2,Array.getElem?_append_right (by rw [Array.size_push,e1]; omega),Array.size_push,e1,Array.getElem?_extract]
   by_cases h3:i - 1 < xs.size
   ·rw [if_pos (by omega)]
    congr 1
    omega
   ·rw [if_neg (by omega)]
    exact (Array.getElem?_eq_none (by omega)).symm
theorem gY.put {xs:Array Nat} (hr:gY xs) {j:Nat} (hn:xs[SetTable.below xs j]?≠some j):gY (SetTable.insertAt xs (SetTable.below xs j) j):=by
 obtain ⟨h1,h2,h3⟩:=gX hr j
 have big:∀ i a,xs[i]? = some a→SetTable.below xs j≤i→j < a:=fun i a hi hl=>by
  rcases Nat.lt_or_eq_of_le (h3 i a hi hl) with z | z
  ·exact z
  ·subst z
   rcases Nat.lt_or_eq_of_le hl with y | y
   ·have il:=(Array.getElem?_eq_some_iff.mp hi).1
    have e:xs[SetTable.below xs j]? = some xs[SetTable.below xs j]:=Array.getElem?_eq_getElem (by omega)
    have:=hr _ _ _ _ e hi y
    have:=h3 _ _ e (Nat.le_refl _)
    omega
   ·rw [← y] at hi; exact absurd hi hn
 intro i k a b hi hk ik
 rw [Cv h1] at hi hk
 by_cases c1:i < SetTable.below xs j
 ·rw [if_pos c1] at hi
  have la:=h2 i a hi c1
  by_cases c2:k < SetTable.below xs j
  ·rw [if_pos c2] at hk; exact hr i k a b hi hk ik
  ·rw [if_neg c2] at hk
   by_cases c3:k = SetTable.below xs j
   ·rw [if_pos c3] at hk; injection hk with hk; omega
   ·rw [if_neg c3] at hk
    have:=big (k - 1) b hk (by omega)
    omega
 ·rw [if_neg c1] at hi
  by_cases c3:i = SetTable.below xs j
  ·rw [if_pos c3] at hi
   injection hi with hi
   rw [if_neg (by omega),if_neg (by omega)] at hk
   have:=big (k - 1) b hk (by omega)
   omega
  ·rw [if_neg c3] at hi
   rw [if_neg (by omega),if_neg (by omega)] at hk
   exact hr (i - 1) (k - 1) a b hi hk (by omega)
theorem gY.range (n:Nat):gY (Array.range n):=by
 intro i j a b hi hj ij
 have h1:=Array.getElem?_eq_some_iff.mp hi
 have h2:=Array.getElem?_eq_some_iff.mp hj
 obtain ⟨_,h1⟩:=h1
 obtain ⟨_,h2⟩:=h2
 rw [Array.getElem_range] at h1 h2
 omega
structure Tb (led:Bool) (t:SetTable):Prop where
 rise:gY t.place
 dm:t.dummies = #[]
 ld:t.led = led
theorem Tb.fresh (led:Bool):Tb led (.fresh 0 0 led):=⟨fun i j a b h=>by simp [SetTable.fresh] at h,rfl,rfl⟩
theorem Tb.standIn {led:Bool} {t:SetTable} (h:Tb led t) (n:Nat):Tb led (t.standIn n):=⟨gY.range n,rfl,h.ld⟩
theorem has_none (j:Nat):SetTable.has #[] j = false:=rfl
theorem Tb.slot {led:Bool} {t:SetTable} (h:Tb led t) {j:Nat} (e:t.slot j = .empty):t.place[SetTable.below t.place j]?≠some j:=by
 intro z
 unfold SetTable.slot at e
 dsimp only at e
 rw [if_pos (by rw [z]; exact beq_self_eq_true _)] at e
 cases e
theorem Tb.zC {led:Bool} {t:SetTable} (h:Tb led t) (j:Nat):t.slot j≠.dummy:=by
 intro e
 unfold SetTable.slot at e
 dsimp only at e
 rw [h.dm,has_none] at e
 split at e
 ·cases e
 ·rw [if_neg (by decide)] at e; cases e
theorem Tb.probe {led:Bool} {t:SetTable} (h:Tb led t) {ha:Nat→Int} {hs:Int}:∀ (fuel:Nat) (p:SetTable.Probe) (j:Nat) (d:Option Nat),p.dummy = none→SetTable.probe.go t ha hs fuel p = some (.empty j d)→t.slot j = .empty∧d = none
 | 0,p,j,d,_,e=>by cases e
 | fuel + 1,p,j,d,hp,e=>by
  unfold SetTable.probe.go at e
  cases c:t.slot p.j with
  | empty=>
   rw [c] at e
   injection e with e
   injection e with e1 e2
   exact ⟨by rw [← e1]; exact c,by rw [← e2]; exact hp⟩
  | dummy=>exact absurd c (h.zC _)
  | live i=>
   rw [c] at e
   dsimp only at e
   split at e
   ·injection e with e; cases e
   ·refine h.probe fuel (t.advance p) j d ?_ e
    unfold SetTable.advance
    split
    ·exact hp
    ·exact hp
theorem Tb.free {led:Bool} {t:SetTable} (h:Tb led t) {hs:Int} {j:Nat} {b:Bool} (e:t.freeSlot hs = some (j,b)):t.slot j = .empty:=by
 unfold SetTable.freeSlot at e
 split at e
 ·rename_i j' d hp
  obtain ⟨h1,h2⟩:=h.probe _ _ j' d rfl hp
  subst h2
  injection e with e
  injection e with e1 e2
  rw [← e1]
  exact h1
 ·cases e
theorem Tb.put {led:Bool} {t:SetTable} (h:Tb led t) {j:Nat} (e:t.slot j = .empty):Tb led (t.put j).1:=by
 refine ⟨h.rise.put (h.slot e),?_,h.ld⟩
 show (if SetTable.has t.dummies j = true then _ else t.dummies) = #[]
 rw [h.dm,has_none,if_neg (by decide)]
theorem Tb.layNew {led:Bool} {t:SetTable} (h:Tb led t) (es:Array (Int×Value)) (hs:Int) (x:Value):Tb led (layNew t es hs x).2.1:=by
 unfold PySem.layNew
 split
 ·rename_i slot wd e
  dsimp only
  unfold SetTable.orStandIn
  have:=h.put (h.free e)
  split
  ·exact this
  ·exact this.standIn _
 ·exact h.standIn _
theorem gY.live {owner:Nat→Option Nat} (n:Nat):gY ((((List.range n).filterMap fun j=>(owner j).map (j,·)).map (·.1)).toArray):=by
 have pw:(((List.range n).filterMap fun j=>(owner j).map (j,·)).map (·.1)).Pairwise (· < ·):=by
  rw [List.pairwise_map]
  refine List.Pairwise.filterMap _ ?_ (List.pairwise_lt_range (n:=n))
  intro a b ab c hc d hd
  obtain ⟨u,_,rfl⟩:=Option.map_eq_some_iff.mp hc
  obtain ⟨v,_,rfl⟩:=Option.map_eq_some_iff.mp hd
  exact ab
 intro i j a b hi hj ij
 rw [List.getElem?_toArray] at hi hj
 obtain ⟨h1,h2⟩:=List.getElem?_eq_some_iff.mp hi
 obtain ⟨h3,h4⟩:=List.getElem?_eq_some_iff.mp hj
 rw [← h2,← h4]
 exact List.pairwise_iff_getElem.mp pw i j h1 h3 ij
theorem Tb.relaid {led:Bool} {t t':SetTable} {order:Array Nat} (h:Tb led t) {hs:Array Int} {wanted:Nat} (e:t.relaid hs wanted = some (t',order)):Tb led t':=by
 unfold SetTable.relaid SetTable.laid at e
 cases c:SetTable.layClean (SetTable.sizeAbove wanted - 1) hs with
 | none=>rw [c] at e; cases e
 | some owner=>
  rw [c] at e
  injection e with e
  injection e with e1 e2
  subst e1
  exact ⟨gY.live (owner:=fun j=>owner.getD j none) _,rfl,h.ld⟩
theorem Tb.relayAll {led:Bool} {t:SetTable} (h:Tb led t) (es:Array (Int×Value)) (wanted:Nat):Tb led (relayAll t es wanted).2.1:=by
 unfold PySem.relayAll
 split
 ·rename_i t' order e
  dsimp only
  split
  ·exact h.relaid e
  ·exact h.standIn _
 ·exact h.standIn _
end i8
end
section
namespace i8
open PySem PySem.Spec PyProof.Rows
section
variable {prog:Program} {w:World} {A:Around} {E:Value→Shared→Prop} {s:Shared} {led:Bool}
def dY (prog:Program) (w:World) (led:Bool) (h:Heap) (a:Addr) (S:Int→Bool) (n:Nat):Prop:=
 ∃ o es ep t,h.get? a = some o∧o.ExactSet∧o.data = .set es ep t∧ElemsOf (intKind prog w) es.toList∧(∀ k,S k = true↔∃ e∈es.toList,(intKind prog w).is k e.2 = true)∧es.size < scanBound∧t.fits es.size = true∧es.size = n∧Tb led t
theorem dY.stored {h:Heap} {a:Addr} {o:Obj} {es vo:Array (Int×Value)} {ep:Nat} {t t':SetTable} (ho:h.get? a = some o) (hex:o.ExactSet) (hd:o.data = .set es ep t) {S:Int→Bool}
  (ql:ElemsOf (intKind prog w) vo.toList) (gc:∀ k,S k = true↔∃ e∈vo.toList,(intKind prog w).is k e.2 = true) (hb:vo.size < scanBound) (hf:t'.fits vo.size = true) (ht:Tb led t') :
  (h.update a (Obj.putSet vo t')).get? a = some { o with data:=.set vo (ep + 1) t' }∧dY prog w led (h.update a (Obj.putSet vo t')) a S vo.size:=by
 obtain ⟨hg,_⟩:=SetOf_store (knd:=intKind prog w) ho hex hd ql gc hb hf
 exact ⟨hg,_,vo,ep + 1,t',hg,hex,rfl,ql,gc,hb,hf,rfl,ht⟩
theorem Tb.tU {t:SetTable} (h:Tb led t) (b:Bool):Tb led (if b = true then t else { t with plain:=false }):=by
 cases b
 ·exact ⟨h.rise,h.dm,h.ld⟩
 ·exact h
theorem vY {g:Bool→Sem Unit} (hg:∀ (b:Bool) (s₁ : Shared) (Q':Unit→Shared→Prop),Q' () s₁→wpAny (model prog w) A (g b) Q' E s₁)
  {a:Addr} {o:Obj} {es iN:Array (Int×Value)} {ep:Nat} {t t2:SetTable} {S:Int→Bool} (ho:s.heap.get? a = some o) (hex:o.ExactSet) (hd:o.data = .set es ep t)
  (ql:ElemsOf (intKind prog w) iN.toList) (gc:∀ k,S k = true↔∃ e∈iN.toList,(intKind prog w).is k e.2 = true) (hb:iN.size < scanBound) (hf:t2.fits iN.size = true) (tb:Tb led t2) {wd:Bool} {R:Option Bool→Shared→Prop}
  (h:∀ h',Heap.SameBut a s.heap h'→dY prog w led h' a S iN.size→R (some true) { s with heap:=h' }) :
  wpAny (model prog w) A (do
    storeSet a iN t2
    if (
      !wd && t2.tooFull) = true then do
      g (relayAll t2 iN (SetTable.grown iN.size)).2.2
      storeSet a (relayAll t2 iN (SetTable.grown iN.size)).1 (relayAll t2 iN (SetTable.grown iN.size)).2.1
      pure (some true)
     else pure (some true)) R E s:=by
 obtain ⟨o1,h1⟩:=dY.stored ho hex hd ql gc hb hf tb
 have MR:=Heap.SameBut.update s.heap a (Obj.putSet iN t2)
 refine wpAny_bind (wpAny_storeSet_of ho hd ?_ (fits_of_scanBound hb))
 split
 ·have p2:=relayAll_perm t2 iN (SetTable.grown iN.size)
  have f2:=relayAll_fits t2 iN (SetTable.grown iN.size)
  have t3:=tb.relayAll iN (SetTable.grown iN.size)
  generalize relayAll t2 iN (SetTable.grown iN.size) = N at p2 f2 t3 ⊢
  obtain ⟨Ot,tt,gv⟩:=N
  dsimp only at p2 f2 t3 ⊢
  have z2:Ot.size = iN.size:=by rw [← Array.length_toList,p2.length_eq,Array.length_toList]
  have sv:Ot.size < scanBound:=by rw [z2]; exact hb
  obtain ⟨_,h2⟩:=dY.stored (S:=S) (led:=led) (prog:=prog) (w:=w) o1 hex rfl (ql.perm p2) (fun k=>(gc k).trans ⟨fun ⟨e,he,q⟩=>⟨e,p2.mem_iff.mpr he,q⟩,fun ⟨e,he,q⟩=>⟨e,p2.mem_iff.mp he,q⟩⟩) sv f2 t3
  rw [z2] at h2
  exact wpAny_bind (hg _ _ _ (wpAny_bind (wpAny_storeSet_of o1 rfl (wpAny_pure (h _ (MR.trans (Heap.SameBut.update _ a _)) h2)) (fits_of_scanBound sv))))
 ·exact wpAny_pure (h _ MR h1)
theorem FW {a:Addr} {S:Int→Bool} {n:Nat} {k:Int} {x:Value} {Q:Bool→Shared→Prop} (xV:(intKind prog w).is k x = true) (Km:x.scannable = true) (hS:dY prog w led s.heap a S n) (NO:n + 1 < scanBound)
  (h:∀ h',Heap.SameBut a s.heap h'→dY prog w led h' a (fun k'=>S k' || decide (k' = k)) (if S k then n else n + 1)→Q (!S k) { s with heap:=h' }) :
  wpAny (model prog w) A (setAddHashed a x ((intKind prog w).hash k)) Q E s:=by
 obtain ⟨o,es,ep,t,ho,hex,hd,ql,gc,hb,hf,hn,tb⟩:=hS
 unfold setAddHashed setAddHashedIn
 refine wpAny_holding (wpAny_bind (wpAny_setState_of ho hd hf ?_))
 dsimp only
 rw [byScan_of Km hb ql,if_pos rfl]
 unfold setAddByScan
 refine wpAny_bind (wpAny_bind (wpAny_rule (wpAny_bind (wpAny_setScan_of xV ho hd hf ql ?_))))
 cases hr:List.findIdx? (fun e=>(intKind prog w).is k e.2) es.toList with
 | some j=>
  dsimp only
  obtain ⟨hj,RT,_⟩:=List.findIdx?_eq_some_iff_getElem.mp hr
  have GR:S k = true:=(gc k).mpr ⟨es.toList[j],List.getElem_mem hj,RT⟩
  have eS:(fun k'=>S k' || decide (k' = k)) = S:=by
   funext k'
   by_cases e:k' = k
   ·subst e; rw [GR]; rfl
   ·rw [decide_eq_false e,Bool.or_false]
  have:=h s.heap (Heap.SameBut.refl a s.heap)
  rw [eS,GR,if_pos rfl] at this
  exact wpAny_pure (wpAny_pure (this ⟨o,es,ep,t,ho,hex,hd,ql,gc,hb,hf,hn,tb⟩))
 | none=>
  dsimp only
  have GR:S k = false:=by
   cases c:S k with
   | false=>rfl
   | true=>
    obtain ⟨e,he,hp⟩:=(gc k).mp c
    have:=List.findIdx?_eq_none_iff.mp hr e he
    rw [hp] at this
    cases this
  have h:=fun h'=>h h'
  rw [GR] at h
  have p1:=layNew_perm t es ((intKind prog w).hash k) x
  have f1:=layNew_fits t es ((intKind prog w).hash k) x
  have t1:=tb.layNew es ((intKind prog w).hash k) x
  generalize layNew t es ((intKind prog w).hash k) x = N at p1 f1 t1 ⊢
  obtain ⟨iN,tt,wd,Sx⟩:=N
  dsimp only at p1 f1 t1 ⊢
  rw [Array.toList_push] at p1
  have z1:iN.size = n + 1:=by rw [← Array.length_toList,p1.length_eq,List.length_append,Array.length_toList,hn]; rfl
  have Ou:ElemsOf (intKind prog w) iN.toList:=(ql.push xV Km).perm p1
  have m1:∀ k',(S k' || decide (k' = k)) = true↔∃ e∈iN.toList,(intKind prog w).is k' e.2 = true:=mem_push_iff xV gc p1
  have Fj:∀ h',Heap.SameBut a s.heap h'→dY prog w led h' a (fun k'=>S k' || decide (k' = k)) iN.size→Q true { s with heap:=h' }:=fun h' sb m7=>by
   rw [z1] at m7
   exact h h' sb m7
  have gw:∀ (b:Bool) (s₁ : Shared) (Q':Unit→Shared→Prop),Q' () s₁→wpAny (model prog w) A (match b with | true=>rule "set.scan.the-table-gave-way" | false=>pure ()) Q' E s₁:=fun b s₁ Q' hq=>by
   cases b
   ·exact wpAny_pure hq
   ·exact wpAny_rule hq
  refine wpAny_bind (gw _ _ _ ?_)
  have fp:∀ b:Bool,(if b = true then tt else { tt with plain:=false }).fits iN.size = true:=fun b=>by
   cases b
   ·exact SetTable.fits_plain_off f1
   ·exact f1
  split
  ·refine wpAny_bind ?_
   rw [hashByValue_scannable 8 Km]
   refine wpAny_pure ?_
   refine vY ?_ ho hex hd Ou m1 (by omega) (fp _) (t1.tU _) ?_
   ·intro b s₁ Q' hq
    cases b
    ·exact wpAny_pure hq
    ·exact wpAny_rule hq
   ·intro h' sb m7
    dsimp only
    exact wpAny_pure (Fj h' sb m7)
  ·refine wpAny_bind (wpAny_pure ?_)
   refine vY ?_ ho hex hd Ou m1 (by omega) (fp _) (t1.tU _) ?_
   ·intro b s₁ Q' hq
    cases b
    ·exact wpAny_pure hq
    ·exact wpAny_rule hq
   ·intro h' sb m7
    dsimp only
    exact wpAny_pure (Fj h' sb m7)
end
end i8
end
section
namespace i8
open PySem PySem.Spec PyProof.Rows
section
variable {prog:Program} {w:World} {A:Around} {led:Bool}
theorem dY.keep {h h':Heap} {a:Addr} {S:Int→Bool} {n:Nat} (x:dY prog w led h a S n) (k:∀ o,h.get? a = some o→h'.get? a = some o):dY prog w led h' a S n:=by
 obtain ⟨o,es,ep,t,h1,rest⟩:=x
 exact ⟨o,es,ep,t,k o h1,rest⟩
theorem dY.turn {h:Heap} {a:Addr} {val:Nat→Int} {i:Nat} (x:dY prog w led h a (fun k'=>(firstMet val i).any (· == k') || decide (k' = val i)) (if (firstMet val i).any (· == val i) then (firstMet val i).length else (firstMet val i).length + 1)) :
  dY prog w led h a (fun k'=>(firstMet val (i + 1)).any (· == k')) (firstMet val (i + 1)).length:=by
 have e1:(fun k'=>(firstMet val (i + 1)).any (· == k')) = fun k'=>(firstMet val i).any (· == k') || decide (k' = val i):=by
  funext k'
  rw [firstMet_succ,step_any]
 rw [e1,firstMet_succ,step_length]
 exact x
variable {R:Result→Shared→Prop} {I:Addr} {fp wr:List Addr} {G:Array GenState→Array GenState→Prop} {n:Nat} {P:Nat→Value→Prop} {St:Nat→Shared→Prop}
theorem Ci (W:WalksS prog w A.in1 I fp wr G n P St) {c:Addr} (hc:c∉fp) (val:Nat→Int) (CB:∀ i v,P i v→∃ t,v = .int (val i) t) (hb:n + 1 < scanBound) (m:Nat) :
  ∀ (i:Nat) (s:Shared),n - i = m→i≤n→St i s→dY prog w led s.heap c (fun k'=>(firstMet val i).any (· == k')) (firstMet val i).length→
   (∀ s',Moved (c :: wr) G s s'→dY prog w led s'.heap c (fun k'=>(firstMet val n).any (· == k')) (firstMet val n).length→R (.ok (.ret .none)) s')→
   codeAny (model prog w) A (.builtin "set.update.loop" ⟨[.ref c,.ref I],[]⟩) R s:=by
 have cw:c∉wr:=fun h=>hc (W.sub _ h)
 have up:∀ b∈wr,b∈c :: wr:=fun b hb=>List.mem_cons_of_mem _ hb
 induction m with
 | zero=>
  intro i s hm hi st hS hR
  obtain rfl:i = n:=by omega
  refine codeAny_builtin F.entry_set_update_loop ?_
  rw [Around.under_plainId F.plain_set_update_loop _]
  show wpAny _ A.in1 (pyNext (.ref I) >>= _) _ _ s
  refine wpAny_bind (W.done s _ _ st fun s' mv=>?_)
  show wpAny _ A.in1 (ret Value.none) _ _ s'
  exact wpAny_pure (hR s' (mv.mono up) (hS.keep fun o ho=>mv.heap c o cw ho))
 | succ m ih=>
  intro i s hm hi st hS hR
  have lt:i < n:=by omega
  have uq:=firstMet_length_le val i
  refine codeAny_builtin F.entry_set_update_loop ?_
  rw [Around.under_plainId F.plain_set_update_loop _]
  show wpAny _ A.in1 (pyNext (.ref I) >>= _) _ _ s
  refine wpAny_bind (W.item i s _ _ lt st fun v s' hP uN mv=>?_)
  obtain ⟨tk,rfl⟩:=CB i v hP
  have m7:=hS.keep fun o ho=>mv.heap c o cw ho
  show wpAny _ A.in1 (holding [Value.int (val i) tk] (setAdd c (.int (val i) tk)) >>= _) _ _ s'
  refine wpAny_bind (wpAny_holding ?_)
  unfold setAdd
  refine wpAny_holding (wpAny_bind ((intKind prog w).pyHash (k:=val i) (intKind_is _ _ _ _) ?_))
  refine FW (led:=led) (s:={ s' with toks:=s'.toks + 1 }) (intKind_is _ _ _ _) rfl m7 (by omega) fun h' sb o9=>?_
  refine wpAny_pure ⟨plainId_quiet F.plain_set_update_loop _,ih (i + 1) _ (by omega) lt (W.frame _ s' _ _ uN (Nat.le_succ _) fun b hb o e=>?_) o9.turn fun BJ JD K3=>?_⟩
  ·rw [sb.2 b (fun z:b = c=>hc (z▸hb))]; exact e
  ·refine hR BJ (Moved.trans W.gtrans ((mv.mono up).then_heap (Nat.le_succ _) fun b o hb e=>?_) JD) K3
   rw [sb.2 b (fun z:b = c=>hb (z▸List.mem_cons_self))]; exact e
end
end i8
end
section
namespace i8
open PySem PySem.Spec PyProof.Rows
section
variable {prog:Program} {w:World} {A:Around} {E:Value→Shared→Prop} {s:Shared}
def cO (w:World):Bool:=!w.params.followText "set-order"
def lV (w:World):Obj:={ cls:=.type "set",dict:=none,data:=.set #[] 0 (.fresh 0 0 (cO w)) }
theorem Ey (a:Value) {Q:Value→Shared→Prop} (h:Q (.ref s.heap.objs.size) { s with heap:=s.heap.push (lV w) }) :
  codeAny (model prog w) A (.call (.builtin "set.__new__") ⟨[.type "set",a],[]⟩) (wants Q E) s:=by
 refine codeAny_of_tree ?_
 show wpAny _ A.in1 (do checkBuiltinCall "set.__new__" ⟨[.type "set",a],[]⟩; again (.builtin "set.__new__" ⟨[.type "set",a],[]⟩)) _ _ s
 refine wpAny_bind (wpAny_of_eq (F.newCall_set_1 a) (wpAny_pure ⟨plainId_quiet F.plain_set_new _,codeAny_builtin F.entry_set_new ?_⟩))
 rw [Around.under_plainId F.plain_set_new _]
 unfold Builtin.«set.__new__» Builtin.Frozenset.newClass
 have Kj:=sub_set_self
 obtain ⟨hp,g,d,tk,os⟩:=s
 dsimp only
 wp_walk
 refine wpAny_askSetting (wpAny_pure ?_)
 dsimp only
 simp only [newObj]
 refine wpAny_bind (wpAny_alloc (wpAny_pure ?_))
 exact wpAny_pure h
theorem dY.fresh {h:Heap} {a:Addr} (e:h.get? a = some (lV w)):dY prog w (cO w) h a (fun _=>false) 0:=
 ⟨_,#[],0,_,e,⟨rfl,rfl,rfl⟩,rfl,fun e he=>by simp at he,fun k=>by simp,by decide,by rfl,rfl,Tb.fresh _⟩
set_option maxHeartbeats 3200000 in
theorem C5 {l:Addr} {items:Array Value} {ns:List Int} {Q:Value→Shared→Prop} (hh:A.handled = none) (hl:s.heap.IsList l items) (hi:IntsAre items.toList ns) (hb:items.size + 1 < scanBound)
  (h:∀ (h':Heap) (tk:Nat),dY prog w (cO w) h' s.heap.objs.size (fun k'=>(firstMet (fun i=>ns.getD i 0) items.size).any (· == k')) (firstMet (fun i=>ns.getD i 0) items.size).length→
   (∀ b o,b < s.heap.objs.size→s.heap.get? b = some o→h'.get? b = some o)→Q (.ref s.heap.objs.size) { s with heap:=h',toks:=tk }) :
  wpAny (model prog w) A (call (.type "set") [.ref l]) Q E s:=by
 obtain ⟨c,tl,R3⟩:=F.called_set.mro
 have NV:=F.called_set.made
 have Kj:=F.called_set.sub
 refine wpAny_call (codeAny_of_tree ?_)
 show wpAny _ _ (callAny (.type "set") _) _ _ _
 refine wpAny_pure ⟨Code.quiet_builtin _ (by decide +kernel),codeAny_builtin F.entry_type_call ?_⟩
 rw [Around.under_plain (weight_type_call_type "set" [.ref l] []) rfl]
 have h1:=F.called_set.notType
 have h2:=F.called_set.canCreate
 have GJ:=F.typeCall_set_1 (.ref l)
 repeat (any_goals (first | assumption | wp_step))
 refine codeAny_mono (Ey (.ref l) (E:=E) (Q:=fun obj s₁=>obj = .ref s.heap.objs.size∧s₁ = { s with heap:=s.heap.push (lV w) }) ⟨rfl,rfl⟩) fun r s₁ hr=>?_
 cases r with
 | error e=>exact hr
 | ok fl=>
  cases fl with
  | ret obj=>
   obtain ⟨rfl,rfl⟩:=hr
   have hS:(s.heap.push (lV w)).get? s.heap.objs.size = some (lV w):=Heap.get?_push_size _ rfl
   have hT:Shared.TypeIs { s with heap:=s.heap.push (lV w) } (.ref s.heap.objs.size) "set":=⟨_,hS,rfl⟩
   have U4:=F.called_set.init.lookup
   have U8:=F.called_set.init.bind (.ref s.heap.objs.size)
   repeat (any_goals (first | assumption | wp_step))
   refine codeAny_mono (codeAny_call_builtin (R:=wants (fun r s₂=>r = .none∧∃ h' tk,s₂ = { s with heap:=h',toks:=tk }∧dY prog w (cO w) h' s.heap.objs.size (fun k'=>(firstMet (fun i=>ns.getD i 0) items.size).any (· == k')) (firstMet (fun i=>ns.getD i 0) items.size).length∧
     (∀ b o,b < s.heap.objs.size→s.heap.get? b = some o→h'.get? b = some o)) E) F.called_set.init.plain F.entry_set_init (check_set_init_1 hT ?_)) fun r₂ s₂ hr₂=>?_
   ·obtain ⟨ol,NR,qo,nl,N8⟩:=hl
    obtain ⟨Jc,Ep,M8,B8⟩:=ol
    simp only at qo N8
    subst qo; subst N8
    have Kq:(s.heap.push (lV w)).get? l = some { cls:=.type "list",dict:=Ep,data:=.seq items nl,slots:=B8 }:=Heap.get?_push_of_some _ NR
    have RJ:=F.sub_list_set
    have RK:=F.sub_list_frozenset
    have gM:(Value.type "list" == Value.type "dict") = false:=by decide
    have iz:(s.heap.push (lV w)).IsList l items:=⟨_,Kq,rfl,nl,rfl⟩
    unfold Builtin.«set.__init__» noKeywords Builtin.Frozenset.updateFrom
    generalize Sv:pyIter = PI
    wp_walk
    subst Sv
    refine wpAny_pyIter_list iz ?_
    refine wpAny_bind (wpAny_runValue ?_)
    have ls:l < s.heap.objs.size:=Heap.lt_size NR
    have h3:A.in1.in1.in1.handled = none:=by simp [hh]
    have lI:l≠(s.heap.push (lV w)).objs.size:=by rw [Heap.size_push]; exact Nat.ne_of_lt (Nat.lt_succ_of_lt ls)
    have cf:s.heap.objs.size∉[(s.heap.push (lV w)).objs.size,l]:=by
     rw [Heap.size_push]
     simp only [List.mem_cons,List.not_mem_nil,or_false,not_or]
     exact ⟨Nat.ne_of_lt (Nat.lt_succ_self _),Nat.ne_of_gt ls⟩
    have CB:∀ (i:Nat) (v:Value),items[i]? = some v→∃ t,v = .int ((fun i=>ns.getD i 0) i) t:=fun i v hv=>IntsAre.int_at hi i v (by rw [Array.getElem?_toList]; exact hv)
    refine Ci (led:=cO w) ((Walks.list h3 _ l lI items).toS) cf (fun i=>ns.getD i 0) CB hb items.size 0 _ (by omega) (Nat.zero_le _) ⟨⟨_,Heap.get?_push_size _ rfl,rfl,rfl⟩,iz.push _⟩ ?_ ?_
    ·exact dY.fresh (Heap.get?_push_of_some _ hS)
    ·intro s' mv m7
     obtain ⟨h',g',d',OZ,IK⟩:=s'
     have eg:g' = s.gens:=mv.gens
     have ed:d' = s.drawn:=mv.drawn
     have eo:IK = s.os:=mv.os
     subst eg; subst ed; subst eo
     show wpAny _ _ _ _ _ _
     refine wpAny_pure ?_
     show wpAny _ _ (ret Value.none) _ _ _
     refine wpAny_pure ⟨rfl,h',OZ,rfl,m7,fun b o hb e=>?_⟩
     refine mv.heap b o ?_ (Heap.get?_push_of_some _ (Heap.get?_push_of_some _ e))
     simp only [List.mem_cons,List.not_mem_nil,or_false,not_or]
     exact ⟨Nat.ne_of_lt hb,by rw [Heap.size_push]; exact Nat.ne_of_lt (Nat.lt_succ_of_lt hb)⟩
   ·cases r₂ with
    | error e=>exact hr₂
    | ok fl₂=>
     cases fl₂ with
     | ret r=>
      obtain ⟨rfl,h',tk,rfl,m7,R9⟩:=hr₂
      repeat (any_goals (first | assumption | wp_step))
      exact h _ _ m7 R9
     | _=>exact hr₂.elim
  | _=>exact hr.elim
end
end i8
end
section
namespace i8
open PySem PySem.Spec
theorem jJ {α : Type}:∀ {l:List α} {i:Nat} {x : α},l[i]? = some x→(x :: l.eraseIdx i).Perm l
 | [],i,x,h=>by simp at h
 | y :: l,0,x,h=>by
  injection h with h
  subst h
  exact .refl _
 | y :: l,i + 1,x,h=>by
  have:=jJ (l:=l) (i:=i) (x:=x) (by simpa using h)
  exact (List.Perm.swap y x _).trans (this.cons y)
theorem tV {α : Type} (next:Nat→Nat):∀ (fuel k:Nat) (left:List α) (out:Array α),left.length≤fuel→(pickOrder.go next fuel k left out).toList.Perm (out.toList ++ left)
 | 0,k,left,out,h=>by
  have:left = []:=List.length_eq_zero_iff.mp (by omega)
  subst this
  unfold pickOrder.go
  rw [List.append_nil]
 | fuel + 1,k,left,out,h=>by
  unfold pickOrder.go
  cases e:left[next k % left.length]? with
  | none=>
   have:left = []:=by
    cases left with
    | nil=>rfl
    | cons y l=>
     have:=List.getElem?_eq_none_iff.mp e
     have:=Nat.mod_lt (next k) (show 0 < (y :: l).length by simp)
     omega
   subst this
   dsimp only
   rw [List.append_nil]
  | some x=>
   dsimp only
   have il:=(List.getElem?_eq_some_iff.mp e).1
   have:=tV next fuel (k + 1) (left.eraseIdx (next k % left.length)) (out.push x) (by rw [List.length_eraseIdx_of_lt il]; omega)
   refine this.trans ?_
   rw [Array.toList_push,List.append_assoc]
   exact (jJ e).append_left _
theorem dz {α : Type} (next:Nat→Nat) (xs:Array α):(pickOrder next xs).toList.Perm xs.toList:=by
 have:=tV next xs.size 0 xs.toList #[] (by simp)
 exact this
theorem sM {xs:Array Nat} (hr:gY xs) {i j:Nat} (h:xs[i]? = some j):SetTable.below xs (j + 1) = i + 1:=by
 obtain ⟨h1,h2,h3⟩:=gX hr (j + 1)
 have il:=(Array.getElem?_eq_some_iff.mp h).1
 rcases Nat.lt_trichotomy (SetTable.below xs (j + 1)) (i + 1) with z | z | z
 ·have:=h3 i j h (by omega)
  omega
 ·exact z
 ·have e:xs[i + 1]? = some xs[i + 1]:=Array.getElem?_eq_getElem (by omega)
  have:=h2 (i + 1) _ e (by omega)
  have:=hr i (i + 1) j _ h e (by omega)
  omega
theorem sL {xs:Array Nat} (hr:gY xs):SetTable.below xs 0 = 0:=by
 obtain ⟨h1,h2,h3⟩:=gX hr 0
 rcases Nat.eq_zero_or_pos (SetTable.below xs 0) with z | z
 ·exact z
 ·have e:xs[0]? = some xs[0]:=Array.getElem?_eq_getElem (by omega)
  have:=h2 0 _ e z
  omega
section
variable {M:Model} {A:Around} {E:Value→Shared→Prop}
theorem nG {src:Source} {n:Nat} {s:Shared} {Q:Nat→Shared→Prop} (hn:n≠0) (h:∀ i d,i < n→Q i { s with drawn:=d }):wpAny M A (choose src n) Q E s:=fun Γ p _=>by
 show Sem.wp M Γ (.choose src n .pure) _ _ p s
 rw [Sem.wp_choose]
 exact ⟨hn,h _ _ (Nat.mod_lt _ (Nat.pos_of_ne_zero hn))⟩
theorem ng {α : Type}:∀ (n:Nat) (xs:List α) (s:Shared) (Q:List α→Shared→Prop),xs.length≤n→(∀ ys d,ys.Perm xs→Q ys { s with drawn:=d })→wpAny M A (drawOrder n xs) Q E s
 | 0,xs,s,Q,h,q=>by
  have:xs = []:=List.length_eq_zero_iff.mp (by omega)
  subst this
  unfold drawOrder
  exact wpAny_pure (q [] s.drawn (.refl _))
 | n + 1,[],s,Q,h,q=>by
  unfold drawOrder
  exact wpAny_pure (q [] s.drawn (.refl _))
 | n + 1,x :: xs,s,Q,h,q=>by
  unfold drawOrder
  refine wpAny_bind (nG (by simp) fun i d hi=>?_)
  have e:(x :: xs)[i]? = some (x :: xs)[i]:=List.getElem?_eq_getElem hi
  rw [e]
  dsimp only
  refine wpAny_bind (ng n ((x :: xs).eraseIdx i) _ _ (by rw [List.length_eraseIdx_of_lt hi]; simp at h ⊢; omega) fun ys d' p=>?_)
  exact wpAny_pure (q _ d' ((p.cons _).trans (jJ e)))
end
end i8
end
section
namespace i8
open PySem PySem.Spec
theorem slot_next:Slot "set_iterator" "__next__" "set_iterator.__next__" :=
 .of (owner:= "set_iterator") (n:= "__next__") (by rw [typeLookup_type,builtinLookup_eq_fast]; kernel_rfl) (by decide +kernel) (by decide +kernel) (by decide +kernel)
  (by first | exact .inl (by decide +kernel) | exact .inr (by decide +kernel)) (by rw [isSubtype_type]; kernel_rfl)
theorem entry_next:entryFor table "set_iterator.__next__" = some Builtin.«set_iterator.__next__»:=entryFor_of_tree (by kernel_rfl)
theorem pW:Manifest.owners.lookup (String.ofList ['r','o','t','a','r','e','t','i','_','t','e','s'].reverse) = some Manifest.sig_set_iterator:=by kernel_rfl
theorem args_next (a:Value):argsOk "set_iterator.__next__" ⟨[a],[]⟩:=by
 unfold argsOk; rw [signature?_of (id:= "set_iterator.__next__") (n:=['_','_','t','x','e','n','_','_']) (o:=['r','o','t','a','r','e','t','i','_','t','e','s']) (by kernel_rfl) pW]; kernel_rfl
theorem sG:entryFor table "set.__iter__" = some Builtin.«frozenset.__iter__»:=
 entryFor_alias (id':= "frozenset.__iter__") (by kernel_rfl) rfl (by decide +kernel) (by kernel_rfl)
end i8
end
section
namespace i8
open PySem PySem.Spec PyProof.Rows
section
variable {prog:Program} {w:World} {A:Around} {E:Value→Shared→Prop} {s:Shared} {a:Addr} {o:Obj} {es:Array (Int×Value)} {ep:Nat} {t:SetTable}
theorem iH {Q:Bool→Shared→Prop} (q:Q (!cO w) s):wpAny (model prog w) A setsByText Q E s:=by
 unfold setsByText
 refine wpAny_bind (wpAny_askSetting (wpAny_pure ?_))
 unfold cO at q
 rw [Bool.not_not] at q
 exact q
def At (t:SetTable) (i slot:Nat):Prop:=(i = 0∧slot = 0)∨∃ k j,i = k + 1∧t.place[k]? = some j∧slot = j + 1
theorem At.below {t:SetTable} {i slot:Nat} (h:At t i slot) (hr:gY t.place):SetTable.below t.place slot = i:=by
 rcases h with ⟨h1,h2⟩ | ⟨k,j,h1,h2,h3⟩
 ·subst h1; subst h2; exact sL hr
 ·subst h1; subst h3; exact sM hr h2
theorem ji {Q:Option (Value×Nat)→Shared→Prop} (ho:s.heap.get? a = some o) (hd:o.data = .set es ep t) (hf:t.fits es.size = true) (tb:Tb (cO w) t) (led:cO w = true) (pl:¬ (t.plain = false∧1 < es.size)) {i slot given:Nat} (h:At t i slot)
  (q1:∀ (hi:i < es.size) (j:Nat),At t (i + 1) (j + 1)→Q (some (es[i].2,j + 1)) s) (q2:es.size≤i→Q none s):wpAny (model prog w) A (setNext a slot given ep) Q E s:=by
 have ps:t.place.size = es.size:=by
  unfold SetTable.fits at hf
  simp at hf
  exact hf.1
 unfold setNext
 refine wpAny_bind (wpAny_setState_of ho hd hf ?_)
 dsimp only
 refine wpAny_bind (iH ?_)
 rw [led,if_neg (by decide)]
 split
 ·rename_i Dv
  have Dv:(!t.plain && decide (es.size > 1)) = true:=Dv
  refine absurd ?_ pl
  simp at Dv
  exact Dv
 ·refine wpAny_bind ?_
  show wpAny _ A (if (!t.led && !es.isEmpty) = true then unsupported "set:maker-not-led" else pure ()) _ E s
  rw [tb.ld,led,if_neg (by simp)]
  refine wpAny_pure ?_
  rw [h.below tb.rise]
  refine wpAny_pure ?_
  by_cases hi:i < es.size
  ·have e1:es[i]? = some es[i]:=Array.getElem?_eq_getElem hi
   have e2:t.place[i]? = some t.place[i]:=Array.getElem?_eq_getElem (by omega)
   rw [e1,e2]
   exact q1 hi _ (.inr ⟨i,_,rfl,e2,rfl⟩)
  ·have e1:es[i]? = none:=Array.getElem?_eq_none (by omega)
   rw [e1]
   exact q2 (by omega)
theorem mS {Q:Option (Value×Nat)→Shared→Prop} (ho:s.heap.get? a = some o) (hd:o.data = .set es ep t) (hf:t.fits es.size = true) (led:cO w = false) {slot given:Nat}
  (q:Q (((pickOrder (w.params.setOrder a ep) es)[given]?).map fun e=>(e.2,slot)) s):wpAny (model prog w) A (setNext a slot given ep) Q E s:=by
 unfold setNext
 refine wpAny_bind (wpAny_setState_of ho hd hf ?_)
 dsimp only
 refine wpAny_bind (iH ?_)
 rw [led,if_pos (by decide),if_neg (by simp)]
 refine wpAny_bind ?_
 unfold setWalk
 refine wpAny_bind (wpAny_setState_of ho hd hf ?_)
 dsimp only
 refine wpAny_bind (iH ?_)
 rw [led,if_pos (by decide)]
 exact wpAny_bind (wpAny_askSetting (wpAny_pure (wpAny_pure q)))
theorem rT {Q:Value→Shared→Prop} (ho:s.heap.get? a = some o) (hd:o.data = .set es ep t) (hf:t.fits es.size = true) {i:Nat} (hi:i < es.size) (q:Q es[i].2 s):wpAny (model prog w) A (setNextDrawn a i ep) Q E s:=by
 unfold setNextDrawn
 refine wpAny_bind (wpAny_setState_of ho hd hf ?_)
 dsimp only
 rw [if_neg (by simp),Array.getElem?_eq_getElem hi]
 exact wpAny_pure q
end
end i8
end
section
namespace i8
open PySem PySem.Spec PyProof.Rows PySem.Calls
def gB (h:Heap) (ik a:Addr) (first:Value) (i size ep:Nat):Prop:=∃ oi,h.get? ik = some oi∧oi.cls = .type "set_iterator"∧oi.data = .fields #[first,.int i 0,.ref a,.int size 0,.int ep 0]
section
variable {prog:Program} {w:World} {ar:Around} {E:Value→Shared→Prop} {s:Shared} {a ik:Addr} {o:Obj} {es:Array (Int×Value)} {ep:Nat} {t:SetTable}
theorem gB.ty {first:Value} {i n ep:Nat} (h:gB s.heap ik a first i n ep):s.TypeIs (.ref ik) "set_iterator":=by
 obtain ⟨oi,h1,h2,_⟩:=h
 exact ⟨oi,h1,h2⟩
theorem ui {slot i nx:Nat} {x:Value} (hit:gB s.heap ik a (.int slot 0) i es.size ep) (ho:s.heap.get? a = some o) (hd:o.data = .set es ep t) (hf:t.fits es.size = true)
  (hn:∀ (A':Around) (Q':Option (Value×Nat)→Shared→Prop) (E':Value→Shared→Prop),Q' (some (x,nx)) s→wpAny (model prog w) A' (setNext a slot i ep) Q' E' s) {Q:Option Value→Shared→Prop}
  (q:∀ h',gB h' ik a (.int nx 0) (i + 1) es.size ep→Heap.SameBut ik s.heap h'→Q (some x) { s with heap:=h' }):wpAny (model prog w) ar (pyNext (.ref ik)) Q E s:=by
 obtain ⟨oi,gi,ci,di⟩:=id hit
 unfold pyNext
 refine wpAny_bind (wpAny_attempt (wpAny_callSpecial?_slot (name:=Str.ofString "__next__") hit.ty slot_next (wpAny_call_entry slot_next hit.ty entry_next ?_ (args_next _))))
 unfold Builtin.«set_iterator.__next__»
 refine wpAny_bind (wpAny_pure (wpAny_bind (wpAny_fieldsOf gi di ?_)))
 dsimp only
 refine wpAny_bind (wpAny_setEntries_of ho hd hf ?_)
 rw [if_neg (by simp)]
 refine wpAny_bind ?_
 simp only [Int.toNat_natCast]
 refine hn _ _ _ ?_
 dsimp only
 refine wpAny_bind (wpAny_setField gi di (by simp) ?_)
 have g1:=Heap.get?_update_self (Obj.mapFields (·.setIfInBounds 0 (rawInt (nx:Int)))) gi (Obj.isFreed_of_fields (Obj.data_mapFields di _))
 have d1:=Obj.data_mapFields di (·.setIfInBounds 0 (rawInt (nx:Int)))
 refine wpAny_bind (wpAny_setField g1 d1 (by simp) ?_)
 have g2:=Heap.get?_update_self (Obj.mapFields (·.setIfInBounds 1 (rawInt ((i:Int) + 1)))) g1 (Obj.isFreed_of_fields (Obj.data_mapFields d1 _))
 have d2:=Obj.data_mapFields d1 (·.setIfInBounds 1 (rawInt ((i:Int) + 1)))
 refine wpAny_pure ⟨_,rfl,wpAny_pure (q _ ⟨_,g2,(Obj.cls_mapFields ..).trans ((Obj.cls_mapFields ..).trans ci),?_⟩ ((Heap.SameBut.update ..).trans (Heap.SameBut.update ..)))⟩
 rw [d2]
 simp [rawInt]
theorem uh {slot i:Nat} (hh:ar.handled = none) (hit:gB s.heap ik a (.int slot 0) i es.size ep) (ho:s.heap.get? a = some o) (hd:o.data = .set es ep t) (hf:t.fits es.size = true)
  (hn:∀ (A':Around) (Q':Option (Value×Nat)→Shared→Prop) (E':Value→Shared→Prop),Q' none s→wpAny (model prog w) A' (setNext a slot i ep) Q' E' s) {Q:Option Value→Shared→Prop}
  (q:∀ h',Heap.ExtBut ik s.heap h'→Q none { s with heap:=h' }):wpAny (model prog w) ar (pyNext (.ref ik)) Q E s:=by
 obtain ⟨oi,gi,ci,di⟩:=id hit
 unfold pyNext
 refine wpAny_bind (wpAny_attempt (wpAny_callSpecial?_slot (name:=Str.ofString "__next__") hit.ty slot_next (wpAny_call_entry slot_next hit.ty entry_next ?_ (args_next _))))
 unfold Builtin.«set_iterator.__next__»
 refine wpAny_bind (wpAny_pure (wpAny_bind (wpAny_fieldsOf gi di ?_)))
 dsimp only
 refine wpAny_bind (wpAny_setEntries_of ho hd hf ?_)
 rw [if_neg (by simp)]
 refine wpAny_bind ?_
 simp only [Int.toNat_natCast]
 refine hn _ _ _ ?_
 dsimp only
 refine wpAny_bind (wpAny_setField gi di (by simp) (show wpAny _ _ (newExc (.type "StopIteration") [] >>= _) _ _ _ from wpAny_bind ?_))
 simp only [newExc,newTuple]
 refine wpAny_bind (wpAny_newObj_type (wpAny_bind (m:=firstArgMember _ _) (wpAny_of_eq (a:=Value.none) (by first | rfl | (simp only [firstArgMember]; rfl)) (wpAny_newObj_type ?_ (by size_fits)))) (by size_fits))
 simp only [raiseNew]
 refine wpAny_bind (wpAny_handled ?_)
 rw [show ar.in1.handled = none from hh]
 refine wpAny_bind (wpAny_pure (wpAny_throw ?_))
 refine wpAny_bind (wpAny_isInstance (b:=true) (T:= "StopIteration") ⟨_,Heap.get?_push_size _ rfl,rfl⟩ isSubtype_stop ?_)
 exact wpAny_pure (q _ (((Heap.SameBut.update ..).extBut.push _).push _))
theorem Al {i m:Nat} {tp:Addr} {ot:Obj} {ps:Array Value} {np:Nat} {tk:Tok} (hit:gB s.heap ik a (.ref tp) i es.size ep) (ho:s.heap.get? a = some o) (hd:o.data = .set es ep t) (hf:t.fits es.size = true)
  (hp:s.heap.get? tp = some ot) (dp:ot.data = .seq ps np) (hm:ps[i]? = some (.int (m:Int) tk)) (hi:m < es.size) {Q:Option Value→Shared→Prop}
  (q:∀ h',gB h' ik a (.ref tp) (i + 1) es.size ep→Heap.SameBut ik s.heap h'→Q (some es[m].2) { s with heap:=h' }):wpAny (model prog w) ar (pyNext (.ref ik)) Q E s:=by
 obtain ⟨oi,gi,ci,di⟩:=id hit
 unfold pyNext
 refine wpAny_bind (wpAny_attempt (wpAny_callSpecial?_slot (name:=Str.ofString "__next__") hit.ty slot_next (wpAny_call_entry slot_next hit.ty entry_next ?_ (args_next _))))
 unfold Builtin.«set_iterator.__next__»
 refine wpAny_bind (wpAny_pure (wpAny_bind (wpAny_fieldsOf gi di ?_)))
 dsimp only
 refine wpAny_bind (wpAny_setEntries_of ho hd hf ?_)
 rw [if_neg (by simp)]
 refine wpAny_bind ?_
 unfold seqItems?
 dsimp only
 refine wpAny_bind (wpAny_load hp ?_)
 rw [dp]
 dsimp only
 refine wpAny_pure ?_
 dsimp only
 rw [Int.toNat_natCast,hm]
 dsimp only
 rw [Int.toNat_natCast,Int.toNat_natCast]
 refine wpAny_bind (rT ho hd hf hi ?_)
 refine wpAny_bind (wpAny_setField gi di (by simp) ?_)
 have g1:=Heap.get?_update_self (Obj.mapFields (·.setIfInBounds 1 (rawInt ((i:Int) + 1)))) gi (Obj.isFreed_of_fields (Obj.data_mapFields di _))
 have d1:=Obj.data_mapFields di (·.setIfInBounds 1 (rawInt ((i:Int) + 1)))
 refine wpAny_pure ⟨_,rfl,wpAny_pure (q _ ⟨_,g1,(Obj.cls_mapFields ..).trans ci,?_⟩ (Heap.SameBut.update ..))⟩
 rw [d1]
 simp [rawInt]
theorem Ak {i:Nat} {tp:Addr} {ot:Obj} {ps:Array Value} {np:Nat} (hh:ar.handled = none) (hit:gB s.heap ik a (.ref tp) i es.size ep) (ho:s.heap.get? a = some o) (hd:o.data = .set es ep t) (hf:t.fits es.size = true)
  (hp:s.heap.get? tp = some ot) (dp:ot.data = .seq ps np) (hm:ps[i]? = none) {Q:Option Value→Shared→Prop}
  (q:∀ h',Heap.ExtBut ik s.heap h'→Q none { s with heap:=h' }):wpAny (model prog w) ar (pyNext (.ref ik)) Q E s:=by
 obtain ⟨oi,gi,ci,di⟩:=id hit
 unfold pyNext
 refine wpAny_bind (wpAny_attempt (wpAny_callSpecial?_slot (name:=Str.ofString "__next__") hit.ty slot_next (wpAny_call_entry slot_next hit.ty entry_next ?_ (args_next _))))
 unfold Builtin.«set_iterator.__next__»
 refine wpAny_bind (wpAny_pure (wpAny_bind (wpAny_fieldsOf gi di ?_)))
 dsimp only
 refine wpAny_bind (wpAny_setEntries_of ho hd hf ?_)
 rw [if_neg (by simp)]
 refine wpAny_bind ?_
 unfold seqItems?
 dsimp only
 refine wpAny_bind (wpAny_load hp ?_)
 rw [dp]
 dsimp only
 refine wpAny_pure ?_
 dsimp only
 rw [Int.toNat_natCast,hm]
 dsimp only
 refine wpAny_bind (wpAny_setField gi di (by simp) ?_)
 have g1:=Heap.get?_update_self (Obj.mapFields (·.setIfInBounds 0 (rawInt 0))) gi (Obj.isFreed_of_fields (Obj.data_mapFields di _))
 have d1:=Obj.data_mapFields di (·.setIfInBounds 0 (rawInt 0))
 refine wpAny_bind (wpAny_setField g1 d1 (by simp) (show wpAny _ _ (newExc (.type "StopIteration") [] >>= _) _ _ _ from wpAny_bind ?_))
 simp only [newExc,newTuple]
 refine wpAny_bind (wpAny_newObj_type (wpAny_bind (m:=firstArgMember _ _) (wpAny_of_eq (a:=Value.none) (by first | rfl | (simp only [firstArgMember]; rfl)) (wpAny_newObj_type ?_ (by size_fits)))) (by size_fits))
 simp only [raiseNew]
 refine wpAny_bind (wpAny_handled ?_)
 rw [show ar.in1.handled = none from hh]
 refine wpAny_bind (wpAny_pure (wpAny_throw ?_))
 refine wpAny_bind (wpAny_isInstance (b:=true) (T:= "StopIteration") ⟨_,Heap.get?_push_size _ rfl,rfl⟩ isSubtype_stop ?_)
 exact wpAny_pure (q _ ((((Heap.SameBut.update ..).trans (Heap.SameBut.update ..)).extBut.push _).push _))
end
end i8
end
section
namespace i8
open PySem PySem.Spec PyProof.Rows PySem.Calls
section
variable {prog:Program} {w:World} {ar:Around} {E:Value→Shared→Prop} {s:Shared} {a ik:Addr} {o:Obj} {es:Array (Int×Value)} {ep:Nat} {t:SetTable}
theorem Aj {Q:Bool→Shared→Prop} (ho:s.heap.get? a = some o) (hd:o.data = .set es ep t) (hf:t.fits es.size = true) (q:Q (cO w && (!t.plain && decide (es.size > 1))) s):wpAny (model prog w) ar (setDrawn a) Q E s:=by
 unfold setDrawn
 refine wpAny_bind (wpAny_setState_of ho hd hf ?_)
 dsimp only
 refine wpAny_bind (iH ?_)
 refine wpAny_pure ?_
 rw [Bool.not_not]
 exact q
theorem Cs {Q:Value→Shared→Prop} (ho:s.heap.get? a = some o) (hex:o.ExactSet) (hd:o.data = .set es ep t) (hf:t.fits es.size = true) (hb:es.size≤4000)
  (q1:(cO w && (!t.plain && decide (es.size > 1))) = false→Q (.ref s.heap.objs.size) { s with heap:=s.heap.push { cls:=.type "set_iterator",data:=.fields #[.int 0 0,.int 0 0,.ref a,.int es.size 0,.int ep 0] } })
  (q2:∀ (d':_) (ps:List Nat),(cO w && (!t.plain && decide (es.size > 1))) = true→ps.Perm (List.range es.size)→Q (.ref (s.heap.objs.size + 1)) { s with heap:=(s.heap.push { cls:=.type "tuple",data:=.seq (ps.map fun i:Nat=>rawInt i).toArray }).push { cls:=.type "set_iterator",data:=.fields #[.ref s.heap.objs.size,.int 0 0,.ref a,.int es.size 0,.int ep 0] },drawn:=d' }) :
  wpAny (model prog w) ar (pyIter (.ref a)) Q E s:=by
 have ty:s.TypeIs (.ref a) "set":=⟨o,ho,hex.1⟩
 refine wpAny_pyIter_slot ty F.slot_set_iter (wpAny_call_entry F.slot_set_iter ty sG ?_ (F.args_set_iter_1 _))
 unfold Builtin.«frozenset.__iter__»
 refine wpAny_bind (m:=Builtin.Frozenset.slot0 _ _) (show wpAny _ _ (pure a) _ _ s from wpAny_pure ?_)
 unfold Builtin.Frozenset.sizeOf
 refine wpAny_bind (wpAny_bind (wpAny_setEntries_of ho hd hf (wpAny_pure ?_)))
 refine wpAny_bind (Aj ho hd hf ?_)
 dsimp only
 split
 ·rename_i KR
  refine wpAny_bind (ng _ _ _ _ (by simp) fun ps d' hp=>?_)
  unfold newTuple
  refine wpAny_bind (wpAny_newObj_type ?_ (by
   show (List.map (fun i:Nat=>rawInt (i:Int)) ps).toArray.size≤sizeLine
   rw [List.size_toArray,List.length_map,hp.length_eq,List.length_range]
   exact Nat.le_trans hb (by rw [PySem.sizeLine_eq]; decide)))
  refine wpAny_bind (wpAny_setEpoch_of (s:={ s with heap:=s.heap.push _,drawn:=d' }) (Heap.get?_push_of_some _ ho) hd hf ?_)
  unfold newFields
  refine wpAny_bind (wpAny_newObj_type ?_ (by size_fits))
  refine wpAny_pure ⟨_,rfl, "set_iterator",_,⟨_,Heap.get?_push_size _ rfl,rfl⟩,slot_next.lookup,?_⟩
  have:=q2 d' ps KR hp
  simpa [rawInt,Heap.size_push] using this
 ·rename_i KR
  refine wpAny_bind (wpAny_pure ?_)
  refine wpAny_bind (wpAny_setEpoch_of ho hd hf ?_)
  unfold newFields
  refine wpAny_bind (wpAny_newObj_type ?_ (by size_fits))
  refine wpAny_pure ⟨_,rfl, "set_iterator",_,⟨_,Heap.get?_push_size _ rfl,rfl⟩,slot_next.lookup,?_⟩
  have:=q1 (by simpa using KR)
  simpa [rawInt] using this
end
end i8
end
section
namespace i8
open PySem PySem.Spec PyProof.Rows PySem.Calls
theorem slot_self:Slot "set_iterator" "__iter__" "set_iterator.__iter__" :=
 .of (owner:= "set_iterator") (n:= "__iter__") (by rw [typeLookup_type,builtinLookup_eq_fast]; kernel_rfl) (by decide +kernel) (by decide +kernel) (by decide +kernel)
  (by first | exact .inl (by decide +kernel) | exact .inr (by decide +kernel)) (by rw [isSubtype_type]; kernel_rfl)
theorem entry_self:entryFor table "set_iterator.__iter__" = some Builtin.«dict_keyiterator.__iter__»:=
 entryFor_alias (id':= "dict_keyiterator.__iter__") (by kernel_rfl) rfl (by decide +kernel) (by kernel_rfl)
theorem args_self (a:Value):argsOk "set_iterator.__iter__" ⟨[a],[]⟩:=by
 unfold argsOk; rw [signature?_of (id:= "set_iterator.__iter__") (n:=['_','_','r','e','t','i','_','_']) (o:=['r','o','t','a','r','e','t','i','_','t','e','s']) (by kernel_rfl) pW]; kernel_rfl
section
variable {prog:Program} {w:World} {A:Around} {E:Value→Shared→Prop} {s:Shared} {a ik:Addr} {o:Obj} {es:Array (Int×Value)} {ep:Nat} {t:SetTable}
theorem rm {first:Value} {i n:Nat} {Q:Value→Shared→Prop} (hit:gB s.heap ik a first i n ep) (q:Q (.ref ik) s):wpAny (model prog w) A (pyIter (.ref ik)) Q E s:=by
 refine wpAny_pyIter_slot hit.ty slot_self (wpAny_call_entry slot_self hit.ty entry_self ?_ (args_self _))
 show wpAny _ _ (ret (.ref ik)) _ _ s
 exact wpAny_pure ⟨_,rfl, "set_iterator",_,hit.ty,slot_next.lookup,q⟩
theorem gB.at {h h':Heap} {first:Value} {i n:Nat} (x:gB h ik a first i n ep) (e:∀ o,h.get? ik = some o→h'.get? ik = some o):gB h' ik a first i n ep:=let ⟨o,ho,r⟩:=x; ⟨o,e _ ho,r⟩
theorem ph (hh:A.handled = none) (gM:a≠ik) (hd:o.data = .set es ep t) (hf:t.fits es.size = true) (tb:Tb (cO w) t) (led:cO w = true) (pl:¬ (t.plain = false∧1 < es.size)) :
  Walks prog w A ik [ik,a] [ik] es.size (fun i v=>es[i]?.map (·.2) = some v) (fun i h=>(∃ slot:Nat,At t i slot∧gB h ik a (.int slot 0) i es.size ep)∧h.get? a = some o) where
 sub:=fun b hb=>by simp at hb; simp [hb]
 frame:=fun _ _ _ st hk=>⟨let ⟨sl,h1,h2⟩:=st.1; ⟨sl,h1,h2.at fun o e=>hk ik (by simp) o e⟩,hk a (by simp) _ st.2⟩
 item:=fun i s Q E hi st hQ=>by
  obtain ⟨⟨slot,h1,h2⟩,h3⟩:=st
  have bl:=h1.below tb.rise
  have ps:t.place.size = es.size:=by
   unfold SetTable.fits at hf
   simp at hf
   exact hf.1
  have e2:t.place[i]? = some (t.place[i]'(by omega)):=Array.getElem?_eq_getElem (by omega)
  refine ui (x:=es[i].2) (nx:=t.place[i]'(by omega) + 1) h2 h3 hd hf (fun A' Q' E' q'=>ji h3 hd hf tb led pl h1 (fun qU j hj=>?_) (fun h=>absurd hi (by omega))) fun h' sj sb=>?_
  ·have:=hj.below tb.rise
   rcases hj with ⟨z,_⟩ | ⟨k,j',z1,z2,z3⟩
   ·omega
   ·have:k = i:=by omega
    subst this
    rw [e2] at z2
    injection z2 with z2
    have:j = t.place[k]'(by omega):=by omega
    rw [this]
    exact q'
  ·exact hQ _ h' s.toks (by simp [hi]) ⟨⟨_,.inr ⟨i,_,rfl,e2,rfl⟩,sj⟩,sb.extBut a _ gM h3⟩ fun b o hb e=>sb.extBut b o (fun h=>hb (by simp [h])) e
 done:=fun s Q E st hQ=>by
  obtain ⟨⟨slot,h1,h2⟩,h3⟩:=st
  exact uh hh h2 h3 hd hf (fun A' Q' E' q'=>ji h3 hd hf tb led pl h1 (fun qU=>absurd qU (Nat.lt_irrefl _)) (fun _=>q')) fun h' he=>hQ h' s.toks fun b o hb e=>he b o (fun h=>hb (by simp [h])) e
 self:=fun _ _ _ _ st hQ=>let ⟨_,_,h2⟩:=st.1; rm h2 hQ
theorem uH (hh:A.handled = none) (gM:a≠ik) (hd:o.data = .set es ep t) (hf:t.fits es.size = true) (led:cO w = false) :
  Walks prog w A ik [ik,a] [ik] es.size (fun i v=>(pickOrder (w.params.setOrder a ep) es)[i]?.map (·.2) = some v) (fun i h=>gB h ik a (.int (0:Nat) 0) i es.size ep∧h.get? a = some o) where
 sub:=fun b hb=>by simp at hb; simp [hb]
 frame:=fun _ _ _ st hk=>⟨st.1.at fun o e=>hk ik (by simp) o e,hk a (by simp) _ st.2⟩
 item:=fun i s Q E hi st hQ=>by
  obtain ⟨h2,h3⟩:=st
  have sz:(pickOrder (w.params.setOrder a ep) es).size = es.size:=by
   have:=(dz (w.params.setOrder a ep) es).length_eq
   simpa using this
  have e1:(pickOrder (w.params.setOrder a ep) es)[i]? = some ((pickOrder (w.params.setOrder a ep) es)[i]'(by omega)):=Array.getElem?_eq_getElem (by omega)
  refine ui (x:=((pickOrder (w.params.setOrder a ep) es)[i]'(by omega)).2) (nx:=0) h2 h3 hd hf (fun A' Q' E' q'=>mS h3 hd hf led (by rw [e1]; exact q')) fun h' sj sb=>?_
  exact hQ _ h' s.toks (by rw [e1]; rfl) ⟨sj,sb.extBut a _ gM h3⟩ fun b o hb e=>sb.extBut b o (fun h=>hb (by simp [h])) e
 done:=fun s Q E st hQ=>by
  obtain ⟨h2,h3⟩:=st
  have sz:(pickOrder (w.params.setOrder a ep) es).size = es.size:=by
   have:=(dz (w.params.setOrder a ep) es).length_eq
   simpa using this
  have e1:(pickOrder (w.params.setOrder a ep) es)[es.size]? = none:=Array.getElem?_eq_none (by omega)
  exact uh hh h2 h3 hd hf (fun A' Q' E' q'=>mS h3 hd hf led (by rw [e1]; exact q')) fun h' he=>hQ h' s.toks fun b o hb e=>he b o (fun h=>hb (by simp [h])) e
 self:=fun _ _ _ _ st hQ=>rm st.1 hQ
theorem qZ {tp:Addr} {ot:Obj} {np:Nat} {ps:List Nat} (hh:A.handled = none) (gM:a≠ik) (RX:tp≠ik) (hd:o.data = .set es ep t) (hf:t.fits es.size = true) (dp:ot.data = .seq (ps.map fun i:Nat=>rawInt i).toArray np) (hp:ps.Perm (List.range es.size)) :
  Walks prog w A ik [ik,a,tp] [ik] es.size (fun i v=>∃ m,ps[i]? = some m∧es[m]?.map (·.2) = some v) (fun i h=>gB h ik a (.ref tp) i es.size ep∧h.get? a = some o∧h.get? tp = some ot) where
 sub:=fun b hb=>by simp at hb; simp [hb]
 frame:=fun _ _ _ st hk=>⟨st.1.at fun o e=>hk ik (by simp) o e,hk a (by simp) _ st.2.1,hk tp (by simp) _ st.2.2⟩
 item:=fun i s Q E hi st hQ=>by
  obtain ⟨h2,h3,h4⟩:=st
  have sz:ps.length = es.size:=by rw [hp.length_eq,List.length_range]
  have e1:ps[i]? = some (ps[i]'(by omega)):=List.getElem?_eq_getElem (by omega)
  have ml:ps[i]'(by omega) < es.size:=List.mem_range.mp (hp.mem_iff.mp (List.mem_of_getElem? e1))
  refine Al (m:=ps[i]'(by omega)) (tk:=0) h2 h3 hd hf h4 dp (by rw [List.getElem?_toArray,List.getElem?_map,e1]; rfl) ml fun h' sj sb=>?_
  exact hQ _ h' s.toks ⟨_,e1,by rw [Array.getElem?_eq_getElem ml]; rfl⟩ ⟨sj,sb.extBut a _ gM h3,sb.extBut tp _ RX h4⟩ fun b o hb e=>sb.extBut b o (fun h=>hb (by simp [h])) e
 done:=fun s Q E st hQ=>by
  obtain ⟨h2,h3,h4⟩:=st
  have sz:ps.length = es.size:=by rw [hp.length_eq,List.length_range]
  exact Ak hh h2 h3 hd hf h4 dp (by rw [List.getElem?_toArray,List.getElem?_map,List.getElem?_eq_none (by omega)]; rfl) fun h' he=>hQ h' s.toks fun b o hb e=>he b o (fun h=>hb (by simp [h])) e
 self:=fun _ _ _ _ st hQ=>rm st.1 hQ
end
end i8
end
section
namespace i8
open PySem PySem.Spec PyProof.Rows PySem.Calls
theorem oy {α : Type} [DecidableEq α]:∀ {l m:List α},l.Nodup→(∀ x∈l,x∈m)→m.length≤l.length→l.Perm m
 | [],m,_,_,h=>by
  have:m = []:=List.length_eq_zero_iff.mp (by simpa using h)
  rw [this]
 | x :: l,m,hn,hs,h=>by
  have hx:x∈m:=hs x List.mem_cons_self
  have zU:=List.nodup_cons.mp hn
  have p:=List.perm_cons_erase hx
  have pl:=p.length_eq
  rw [List.length_cons] at pl h
  refine (List.Perm.cons x (oy zU.2 (fun y hy=>?_) (by omega))).trans p.symm
  have gM:y≠x:=fun e=>zU.1 (e▸hy)
  exact (List.mem_erase_of_ne gM).mpr (hs y (List.mem_cons_of_mem _ hy))
def vInt:Value→Int
 | .int k _=>k
 | _=>0
theorem ints_of:∀ (vs:List Value),(∀ v∈vs,∃ k t,v = .int k t)→IntsAre vs (vs.map vInt)
 | [],_=>.nil
 | v :: vs,h=>by
  obtain ⟨k,t,rfl⟩:=h v List.mem_cons_self
  exact .cons k t (ints_of vs fun u hu=>h u (List.mem_cons_of_mem _ hu))
section
variable {prog:Program} {w:World} {A:Around} {E:Value→Shared→Prop} {s:Shared} {a:Addr}
theorem CM {Q:Bool→Shared→Prop} (hT:s.TypeIs (.ref a) "set") (q:Q false s):wpAny (model prog w) A (Builtin.List.listLengthHint (.ref a)) Q E s:=by
 unfold Builtin.List.listLengthHint
 refine wpAny_bind (wpAny_specialOf hT PySem.F.slot_set_len.lookup ?_)
 generalize N4:("set.__len__" : String) = nm
 wp_delta
 rw [show splitId nm = some ("set", "__len__") from by subst N4; decide +kernel]
 subst N4
 refine wpAny_bind (wpAny_isInstance (T:= "set") (b:=true) hT (by rw [isSubtype_type]; kernel_rfl) ?_)
 refine wpAny_ite_split (fun z=>absurd z (by decide)) (fun _=>?_)
 refine wpAny_ite_split (fun _=>?_) (fun z=>absurd (by decide +kernel) z)
 exact wpAny_bind (wpAny_typeOf hT (wpAny_pure q))
def Met (S:Int→Bool) (n:Nat) (vs:List Value):Prop:=∃ ns:List Int,IntsAre vs ns∧ns.length = n∧∀ k,S k = true↔k∈ns
theorem kn {S:Int→Bool} {es:Array (Int×Value)} {vs:List Value} (ql:ElemsOf (intKind prog w) es.toList) (hm:∀ k,S k = true↔∃ e∈es.toList,(intKind prog w).is k e.2 = true) (p:vs.Perm (es.toList.map (·.2))):Met S es.size vs:=by
 have sh:∀ v∈vs,∃ k t,v = .int k t:=fun v hv=>by
  obtain ⟨e,he,rfl⟩:=List.mem_map.mp (p.mem_iff.mp hv)
  obtain ⟨⟨k,hk,_⟩,_⟩:=ql e he
  obtain ⟨t,ht⟩:=Value.isInt_shape hk
  exact ⟨k,t,ht⟩
 refine ⟨vs.map vInt,ints_of vs sh,?_,fun k=>?_⟩
 ·rw [List.length_map,p.length_eq,List.length_map,Array.length_toList]
 ·rw [hm,List.mem_map]
  constructor
  ·rintro ⟨e,he,hk⟩
   obtain ⟨t,ht⟩:=Value.isInt_shape hk
   exact ⟨e.2,p.mem_iff.mpr (List.mem_map.mpr ⟨e,he,rfl⟩),by rw [ht]; rfl⟩
  ·rintro ⟨v,hv,rfl⟩
   obtain ⟨e,he,rfl⟩:=List.mem_map.mp (p.mem_iff.mp hv)
   obtain ⟨⟨k,hk,_⟩,_⟩:=ql e he
   refine ⟨e,he,?_⟩
   obtain ⟨t,ht⟩:=Value.isInt_shape hk
   rw [ht]
   rw [ht] at hk
   exact hk
theorem ly {acc:Array Value} {n:Nat} {P:Nat→Value→Prop} {L:List Value} (h:ItemsOf P acc n) (hl:L.length = n) (hP:∀ i v,i < n→P i v→L[i]? = some v):acc.toList = L:=by
 obtain ⟨h1,h2⟩:=h
 apply List.ext_getElem?
 intro i
 by_cases hi:i < n
 ·have e:acc[i]? = some (acc[i]'(by omega)):=Array.getElem?_eq_getElem (by omega)
  rw [Array.getElem?_toList,e,hP i _ hi (h2 i _ e)]
 ·rw [List.getElem?_eq_none (by rw [Array.length_toList]; omega),List.getElem?_eq_none (by omega)]
theorem xO {S:Int→Bool} {n:Nat} (hh:A.handled = none) (hS:dY prog w (cO w) s.heap a S n) (hn:n≤4000) :
  wpAny (model prog w) A (pyIter (.ref a)) (fun it s1=>∃ I d' h1 fp P St,it = .ref I∧s1 = { s with heap:=h1,drawn:=d' }∧(∀ b o,s.heap.get? b = some o→h1.get? b = some o)∧s.heap.objs.size≤I∧
   Walks prog w A I fp [I] n P St∧St 0 h1∧(∀ b∈fp,s.heap.objs.size≤b∨b = a)∧(∀ acc,ItemsOf P acc n→Met S n acc.toList)) E s:=by
 obtain ⟨o,es,ep,t,ho,hex,hd,ql,gc,hb,hf,rfl,tb⟩:=hS
 have lt:=Heap.lt_size ho
 refine Cs ho hex hd hf hn (fun q=>?_) (fun d' ps q hp=>?_)
 ·have keep:∀ (x:Obj) b o,s.heap.get? b = some o→(s.heap.push x).get? b = some o:=fun x b o e=>Heap.get?_push_of_some _ e
  have hit:gB (s.heap.push { cls:=.type "set_iterator",data:=.fields #[.int 0 0,.int 0 0,.ref a,.int es.size 0,.int ep 0] }) s.heap.objs.size a (.int (0:Nat) 0) 0 es.size ep:=⟨_,Heap.get?_push_size _ rfl,rfl,rfl⟩
  by_cases led:cO w = true
  ·have pl:¬ (t.plain = false∧1 < es.size):=fun ⟨z1,z2⟩=>by
    rw [led,z1] at q
    simp at q
    omega
   refine ⟨_,s.drawn,_,_,_,_,rfl,rfl,keep _,Nat.le_refl _,ph hh (Nat.ne_of_lt lt) hd hf tb led pl,⟨⟨0,.inl ⟨rfl,rfl⟩,hit⟩,keep _ _ _ ho⟩,fun b hb=>?_,fun acc ha=>?_⟩
   ·rcases List.mem_cons.mp hb with rfl | hb
    ·exact .inl (Nat.le_refl _)
    ·exact .inr (by simpa using hb)
   ·refine kn ql gc ?_
    rw [ly (L:=es.toList.map (·.2)) ha (by simp) fun i v hi hv=>by simpa using hv]
  ·have JI:cO w = false:=by simpa using led
   refine ⟨_,s.drawn,_,_,_,_,rfl,rfl,keep _,Nat.le_refl _,uH hh (Nat.ne_of_lt lt) hd hf JI,⟨hit,keep _ _ _ ho⟩,fun b hb=>?_,fun acc ha=>?_⟩
   ·rcases List.mem_cons.mp hb with rfl | hb
    ·exact .inl (Nat.le_refl _)
    ·exact .inr (by simpa using hb)
   ·refine kn ql gc ?_
    have pp:=dz (w.params.setOrder a ep) es
    rw [ly (L:=(pickOrder (w.params.setOrder a ep) es).toList.map (·.2)) ha (by rw [List.length_map,pp.length_eq,Array.length_toList]) fun i v hi hv=>by simpa using hv]
    exact pp.map _
 ·have sz:ps.length = es.size:=by rw [hp.length_eq,List.length_range]
  have n1:a≠s.heap.objs.size + 1:=Nat.ne_of_lt (Nat.lt_succ_of_lt lt)
  refine ⟨s.heap.objs.size + 1,d',_,_,_,_,rfl,rfl,fun b o e=>Heap.get?_push_of_some _ (Heap.get?_push_of_some _ e),Nat.le_succ _,qZ (tp:=s.heap.objs.size) (ot:={ cls:=.type "tuple",data:=.seq (ps.map fun i:Nat=>rawInt i).toArray }) hh n1 (Nat.ne_of_lt (Nat.lt_succ_self _)) hd hf rfl hp,⟨⟨{ cls:=.type "set_iterator",data:=.fields #[.ref s.heap.objs.size,.int 0 0,.ref a,.int es.size 0,.int ep 0] },?_,rfl,rfl⟩,Heap.get?_push_of_some _ (Heap.get?_push_of_some _ ho),?_⟩,fun b hb=>?_,fun acc ha=>?_⟩
  ·refine Eq.trans (congrArg _ (size_push' s.heap _).symm) (Heap.get?_push_size _ rfl)
  ·exact Heap.get?_push_of_some _ (Heap.get?_push_size _ rfl)
  ·rcases List.mem_cons.mp hb with rfl | hb
   ·exact .inl (Nat.le_succ _)
   ·rcases List.mem_cons.mp hb with rfl | hb
    ·exact .inr rfl
    ·exact .inl (Nat.le_of_eq (List.mem_singleton.mp hb).symm)
  ·refine kn ql gc ?_
   have e:acc.toList = ps.map fun m=>((es[m]?).map (·.2)).getD Value.none:=ly ha (by rw [List.length_map,sz]) fun i v hi hv=>by
    obtain ⟨m,e1,e2⟩:=hv
    rw [List.getElem?_map,e1,Option.map_some,e2]
    rfl
   rw [e]
   refine (hp.map _).trans (.of_eq ?_)
   apply List.ext_getElem?
   intro i
   by_cases hi:i < es.size
   ·simp [hi]
   ·simp [hi]
theorem vw {S:Int→Bool} {n:Nat} {Q:List Value→Shared→Prop} (hh:A.handled = none) (hS:dY prog w (cO w) s.heap a S n) (hn:n≤4000)
  (hQ:∀ h' tk d' vs,(∀ b o,s.heap.get? b = some o→h'.get? b = some o)→s.heap.objs.size≤h'.objs.size→Met S n vs→Q vs { s with heap:=h',toks:=tk,drawn:=d' }):wpAny (model prog w) A (collect (.ref a)) Q E s:=by
 have hT:∀ h',(∀ b o,s.heap.get? b = some o→h'.get? b = some o)→∀ s':Shared,s'.heap = h'→s'.TypeIs (.ref a) "set":=fun h' hk s' e=>by
  obtain ⟨o,es,ep,t,ho,hex,_⟩:=hS
  exact ⟨o,by rw [e]; exact hk _ _ ho,hex.1⟩
 have lt:a < s.heap.objs.size:=by
  obtain ⟨o,es,ep,t,ho,hex,_⟩:=hS
  exact Heap.lt_size ho
 have hl:n≤sizeLine:=by rw [sizeLine_eq]; omega
 have k1:∀ b o,s.heap.get? b = some o→(s.heap.push { cls:=.type "list",data:=.seq ([]:List Value).toArray }).get? b = some o:=fun b o e=>Heap.get?_push_of_some _ e
 have Dw:dY prog w (cO w) (s.heap.push { cls:=.type "list",data:=.seq ([]:List Value).toArray }) a S n:=by
  obtain ⟨o,es,ep,t,ho,r⟩:=hS
  exact ⟨o,es,ep,t,k1 _ _ ho,r⟩
 unfold collect
 refine wpAny_bind (wpAny_runValue (codeAny_builtin F.entry_proto_collect ?_))
 rw [Around.under_plainId F.plain_proto_collect _]
 refine wpAny_bind (m:=newList []) (wpAny_newObj_type ?_)
 refine wpAny_pure ⟨plainId_quiet F.plain_list_iadd _,codeAny_builtin F.entry_list_iadd ?_⟩
 rw [Around.under_plainId F.plain_list_iadd _]
 show wpAny _ A.in1 (Builtin.List.listExtendWith (.ref s.heap.objs.size) (.ref a) (.ref s.heap.objs.size)) _ _ _
 unfold Builtin.List.listExtendWith
 refine wpAny_bind (wpAny_typeOf (T:= "set") (hT _ k1 _ rfl) ?_)
 have e1:Builtin.List.listSameRef (.ref s.heap.objs.size) (.ref a) = false:=by simp [Builtin.List.listSameRef,Nat.ne_of_gt lt]
 have e2:(Value.type "set" == Value.type "list") = false:=by decide
 have e3:(Value.type "set" == Value.type "tuple") = false:=by decide
 simp only [e1,e2,e3,Bool.or_false,Bool.false_eq_true,if_false]
 refine wpAny_bind (wpAny_mono (xO (A:=A.in1) (by simp [hh]) Dw hn) (fun it s1 m=>?_) (fun _ _ e=>e))
 obtain ⟨I,d',h1,fp,P,St,rfl,rfl,hk,hI,W,st,N6,met⟩:=m
 rw [Heap.size_push] at hI N6
 have k2:∀ b o,s.heap.get? b = some o→h1.get? b = some o:=fun b o e=>hk _ _ (k1 _ _ e)
 have o1:h1.get? s.heap.objs.size = some { cls:=.type "list",data:=.seq ([]:List Value).toArray }:=hk _ _ (Heap.get?_push_size _ rfl)
 have Od:s.heap.objs.size∉fp:=fun z=>by
  rcases N6 _ z with z | z
  ·exact absurd z (Nat.not_succ_le_self _)
  ·exact Nat.ne_of_gt lt z
 refine wpAny_bind (wpAny_holding (CM (hT _ k2 _ rfl) ?_))
 refine wpAny_ite_split (fun _=>?_) (fun z=>absurd (by decide +kernel) z)
 refine wpAny_bind (wpAny_rule ?_)
 refine wpAny_bind ?_
 show wpAny _ _ (updateSeq s.heap.objs.size (·.push .none) >>= fun _=>updateSeq s.heap.objs.size (·.pop)) _ _ _
 refine wpAny_bind (wpAny_updateSeq o1 rfl ?_)
 have o2:=Heap.get?_update_self (Obj.mapSeq (·.push Value.none)) o1 rfl
 refine wpAny_updateSeq (hz:=by seq_fits) o2 rfl ?_
 have o3:=Heap.get?_update_self (Obj.mapSeq (·.pop)) o2 rfl
 have xk:∀ b o,b≠s.heap.objs.size→h1.get? b = some o→((h1.update s.heap.objs.size (Obj.mapSeq (·.push Value.none))).update s.heap.objs.size (Obj.mapSeq (·.pop))).get? b = some o:=
  fun b o hb e=>(Heap.get?_update_other _ _ (Ne.symm hb)).trans ((Heap.get?_update_other _ _ (Ne.symm hb)).trans e)
 refine wpAny_pure ⟨plainId_quiet F.plain_extend_loop _,codeAny_extend_loopS W.toS hl s.heap.objs.size Od _ n 0 _ _ _ rfl (Nat.zero_le _) (W.frame 0 _ _ st fun b hb o e=>xk b o (fun z=>Od (z▸hb)) e) o3 (ItemsOf.nil _) fun s' Mg c' hm m7 bT=>?_⟩
 show wpAny _ A (load s.heap.objs.size >>= _) _ _ s'
 refine wpAny_bind (wpAny_load m7 (wpAny_pure ?_))
 rw [Moved.eq_with hm]
 refine hQ s'.heap s'.toks d' Mg.toList (fun b o e=>?_) (Nat.le_of_lt (Heap.lt_size m7)) (met _ bT)
 have lb:=Heap.lt_size e
 refine hm.heap b o (fun z=>?_) (xk b o (Nat.ne_of_lt lb) (k2 _ _ e))
 rcases List.mem_cons.mp z with z | z
 ·exact absurd z (Nat.ne_of_lt lb)
 ·have:=List.mem_singleton.mp z
  rw [this] at lb
  exact absurd (Nat.lt_of_lt_of_le (Nat.lt_succ_self _) hI) (Nat.not_lt_of_lt lb)
end
end i8
end
section
namespace i8
open PySem PySem.Spec PyProof.Rows PySem.Calls
section
variable {prog:Program} {w:World} {A:Around} {E:Value→Shared→Prop} {s:Shared} {a:Addr}
theorem wo {S:Int→Bool} {n:Nat} {Q:Value→Shared→Prop} (hh:A.handled = none) (hS:dY prog w (cO w) s.heap a S n) (hn:n < 64)
  (q:∀ h' tk d' p ep (vs:List Value) (ns:List Int),(∀ b o,s.heap.get? b = some o→h'.get? b = some o)→s.heap.objs.size≤p→IntsAre vs ns→ns.length = n→(∀ k,S k = true↔k∈ns)→ns.Pairwise (·≤·)→
   h'.get? p = some (seqObj "list" vs.toArray ep)→Q (.ref p) { s with heap:=h',toks:=tk,drawn:=d' }) :
  wpAny (model prog w) A (call (.builtin "sorted") [.ref a]) Q E s:=by
 refine Calls.call_function_entry kind_sorted plain_sorted entry_sorted (args_sorted1 _) ?_
 unfold Builtin.«sorted»
 refine wpAny_bind (m:=checkCount "sorted" 1 1 _) (wpAny_pure (wpAny_bind (vw (by simp [hh]) hS (by omega) fun h1 tk d' vs k sz met=>?_)))
 obtain ⟨ns,hI,hl,hm⟩:=met
 have UZ:vs.length = n:=by rw [hI.length,hl]
 refine wpAny_bind (wpAny_newList ?_ (by rw [sizeLine_eq]; omega))
 have o1:(h1.push (seqObj "list" vs.toArray 0)).get? h1.objs.size = some (seqObj "list" vs.toArray 0):=Heap.get?_push_size _ rfl
 show wpAny _ _ _ _ _ { s with heap:=h1.push (seqObj "list" vs.toArray 0),toks:=tk,drawn:=d' }
 refine wpAny_bind (wpAny_holding (wpAny_call_entry slot_list_sort ⟨_,o1,rfl⟩ entry_list_sort (list_sort_tree o1 hI (by omega) fun out lU a1 a2 a3=>⟨_,rfl,?_⟩) (args_list_sort _)))
 obtain ⟨ep,RW⟩:=sortedHeap_at (out:=out) o1
 refine wpAny_pure ⟨_,rfl,q _ tk d' h1.objs.size ep out.toList lU (fun b o e=>?_) sz a1 (by rw [a2.length_eq,hl]) (fun k'=>by rw [hm,a2.mem_iff]) a3 RW⟩
 have lt:=Heap.lt_size (k _ _ e)
 rw [sortedHeap_old (Nat.ne_of_lt lt) (by rw [size_push']; exact Nat.lt_succ_of_lt lt),Heap.get?_push_ne _ _ _ (Nat.ne_of_lt lt)]
 exact k _ _ e
end
end i8
namespace L2
open PySem PySem.Spec PySem.W PySem.Calls PyProof.Rows
theorem jM:∀ (ns σ : List Int),σ.Nodup→(ns.foldl step_dedup σ).Nodup∧∀ k,k∈ns.foldl step_dedup σ↔k∈σ∨k∈ns
 | [],σ,h=>⟨h,fun k=>by simp⟩
 | x :: ns,σ,h=>by
  rw [List.foldl_cons]
  by_cases e:x∈σ
  ·have e1:step_dedup σ x = σ:=by unfold step_dedup; rw [if_pos (by simpa using e)]
   rw [e1]
   obtain ⟨h1,h2⟩:=jM ns σ h
   refine ⟨h1,fun k=>?_⟩
   rw [h2,List.mem_cons]
   constructor
   ·rintro (z | z)
    ·exact .inl z
    ·exact .inr (.inr z)
   ·rintro (z | z | z)
    ·exact .inl z
    ·exact .inl (z▸e)
    ·exact .inr z
  ·have e1:step_dedup σ x = σ ++ [x]:=by unfold step_dedup; rw [if_neg (by simpa using e)]
   rw [e1]
   obtain ⟨h1,h2⟩:=jM ns (σ ++ [x]) ((List.perm_append_singleton x σ).nodup_iff.mpr (List.nodup_cons.mpr ⟨e,h⟩))
   refine ⟨h1,fun k=>?_⟩
   rw [h2]
   simp only [List.mem_append,List.mem_singleton,List.mem_cons,or_assoc,List.not_mem_nil,false_or]
theorem gO (ns:List Int):(dW ns).Nodup:=(jM ns [] .nil).1
theorem xy {ns:List Int} {k:Int}:k∈dW ns↔k∈ns:=by
 have:=(jM ns [] .nil).2 k
 simpa [dW] using this
theorem Inv.dr {X:Cx} {pins:List (Addr×Obj)} {σ : St} {H:Hp} {s:Shared} (I:Inv X pins σ H s) (d':Drawn):Inv X pins σ H { s with drawn:=d' }:=
 ⟨I.ok,I.os,I.bare,I.base,I.loc,I.cell,I.free,I.d4,I.pin,I.bA,I.len⟩
def pz (K:Frag) (te:TE):TE:=fun σ H Q=>te σ H fun x H1=>∃ (a:Addr) (ns:List Int),x = .ref a∧ay K H1 a (ns.map V.int)∧ns.length < 64∧
 ∀ (lU:List Int) (p:Addr),lU.Perm (dW ns)→lU.Pairwise (·≤·)→H1 p = none→Q (.ref p) (upd H1 p (.lst (lU.map V.int)))
theorem uR {K:Frag} {te:TE} {σ : St} {H:Hp} {Q:VK} (h:te σ H fun x H1=>∃ (a:Addr) (ns:List Int),x = .ref a∧ay K H1 a (ns.map V.int)∧ns.length < 64∧
 ∀ (lU:List Int) (p:Addr),lU.Perm (dW ns)→lU.Pairwise (·≤·)→H1 p = none→Q (.ref p) (upd H1 p (.lst (lU.map V.int)))):pz K te σ H Q:=h
theorem oQ:bootBuiltins "sorted" = some (.builtin "sorted"):=by decide +kernel
theorem vE:bootBuiltins "set" = some (.type "set"):=by decide +kernel
theorem rP {X:Cx} {l:Expr} {tl:TE} {p p2 pos nY:Pos} (hc:X.calm = true) (hm:X.mg "set" = none) (CK:X.mg "sorted" = none) (ha:PE X l tl) (hg:Gl X "set":=by rfl) (EY:Gl X "sorted":=by rfl)
  (he:starEach [l] X.env = (false,eval l X.env) :: starEach [] X.env:=by rfl)
  (vN:starEach [.Call (.Name "set" p) [l] [] pos] X.env = (false,eval (.Call (.Name "set" p) [l] [] pos) X.env) :: starEach [] X.env:=by rfl) :
  PE X (.Call (.Name "sorted" p2) [.Call (.Name "set" p) [l] [] pos] [] nY) (pz X.K tl):=by
 intro pins s σ H Q I h
 refine Call_ (dU I EY CK oQ (PyProof.Rows.callWith_builtin1 ?_ vN rfl))
 rw [vN]
 show wpAny _ _ (spliced ((false,eval (.Call (.Name "set" p) [l] [] pos) X.env) :: backTo nY (starEach [] X.env))) _ _ s
 refine Calls.spliced_cons ?_
 refine Call_ (dU I hg hm vE (PyProof.Rows.callWith_type1 ?_ he rfl))
 rw [he]
 show wpAny _ _ (spliced ((false,eval l X.env) :: backTo pos (starEach [] X.env))) _ _ s
 refine Calls.spliced_cons (cS (ha pins s σ H _ I h) fun u1 s1 ⟨x,H1,I1,r1,q1⟩=>?_)
 refine Calls.spliced_nil ?_
 obtain ⟨a,ns,rfl,hs,hl,q⟩:=q1
 cases r1
 obtain ⟨aO,rv,pl,hz⟩:=I1.list hs
 have hi:IntsAre aO ns:=intsAre_of rv
 have zl:=hi.length
 have ez:aO.toArray.size = ns.length:=by rw [List.size_toArray]; exact zl
 refine i8.C5 (I1.ok.hd hc) pl.isList (by simpa using hi) (by rw [ez]; exact Nat.lt_of_le_of_lt (Nat.succ_le_of_lt hl) (by decide)) fun h' tk hS kk=>?_
 rw [ez,kW] at hS
 have dl:(dW ns).length≤ns.length:=by
  have:=foldl_step_dedup_length_le [] ns
  simpa [dW] using this
 refine Calls.spliced_nil ?_
 have I2:Inv X pins σ H1 { s1 with heap:=h',toks:=tk }:=I1.kept fun b o e=>kk b o (Heap.lt_size e) e
 refine i8.wo (s:={ s1 with heap:=h',toks:=tk }) (I2.ok.hd hc) hS (by omega) fun h3 MD d3 p3 ep vs lU k3 GC Ds U5 R5 RN o3=>?_
 have pp:lU.Perm (dW ns):=by
  refine (i8.oy (gO ns) (fun k hk=>(R5 k).mp ?_) (by omega)).symm
  simpa using hk
 have I3:Inv X pins σ (upd H1 p3 (.lst (lU.map V.int))) { s1 with heap:=h3,toks:=MD }:=by
  refine I2.laid (t':=MD) k3 GC ⟨?_,vs,ep,iO Ds,by simpa [seqObj] using o3⟩
  rw [List.length_map,PySem.sizeLine_eq,pp.length_eq]
  omega
 exact ⟨.ref p3,_,I3.dr d3,rfl,q lU p3 pp RN (I2.bA.fresh GC)⟩
end L2
end
section
namespace Gm
open PySem L2
theorem kT:∀ {R:List (List au)} {c:List au},(∀ c∈R,2≤c.length)→c∈R→c.length + 2 * R.length≤R.flatten.length + 2
 | [],_,_,h=>by cases h
 | e :: R,c,h,hc=>by
  have t:∀ {R:List (List au)},(∀ c∈R,2≤c.length)→2 * R.length≤R.flatten.length:=fun {R}=>by
   induction R with
   | nil=>intro _; exact Nat.le_refl _
   | cons a R ih=>
    intro h
    have:=ih fun x hx=>h x (List.mem_cons_of_mem _ hx)
    have:=h a List.mem_cons_self
    rw [List.flatten_cons,List.length_append,List.length_cons]
    omega
  rw [List.flatten_cons,List.length_append,List.length_cons]
  have hR:∀ x∈R,2≤x.length:=fun x hx=>h x (List.mem_cons_of_mem _ hx)
  rcases List.mem_cons.mp hc with rfl | hc
  ·have:=t hR
   omega
  ·have:=kT hR hc
   have:=h e List.mem_cons_self
   omega
theorem dw.two {L R:List (List Int)} (h:dw L R):∀ c∈R.map (sh 0),2≤c.length:=fun c hc=>by
 obtain ⟨r,hr,rfl⟩:=List.mem_map.mp hc
 rw [cW]
 exact (h.good r hr).two
theorem cG.ring {L R:List (List Int)} {r:List Int} (s:cG L) (h:dw L R) (hr:r∈R):r.length + 2≤2 * L.length:=by
 obtain ⟨R0,D0,ch⟩:=s.Fv
 have c:=D0.count h.dec
 have f:=kT h.two (List.mem_map.mpr ⟨r,hr,rfl⟩)
 rw [h.dec.len s.map,cW,List.length_map] at f
 rw [List.length_map] at c
 have i:=s.Cu
 have d:=fw s.map
 omega
theorem aH.ring {L R:List (List Int)} {r:List Int} (m:aH L) (h:dw L R) (hr:r∈R):r.length≤L.length * (L.length - 1):=by
 have f:=kT h.two (List.mem_map.mpr ⟨r,hr,rfl⟩)
 rw [h.dec.len m,cW,List.length_map] at f
 have:=sH m (Nat.le_refl L.length)
 have:1≤R.length:=List.length_pos_of_mem hr
 omega
def j9 (L:List (List Int)) (r:List Int) (c:Nat):List Int:=put (rowOf L (cy r c)) ((rowOf L (cy r c)).idxOf (cy r (c + (r.length - 1)))) L.length
def gD (L:List (List Int)) (r:List Int) (cs:List Nat):List (List Int):=cs.foldl (fun M c=>M.set (cy r c).toNat (j9 L r c)) L
def uW (L:List (List Int)) (r:List Int) (cs:List Nat):List (List Int):=gD L r cs ++ [cs.map (cy r)]
def vF (r:List Int) (cs:List Nat):Prop:=cs≠[]∧cs.Pairwise (· < ·)∧(cs.map (cy r)).Nodup
section
variable {L:List (List Int)} {r:List Int}
theorem j7 (cs:List Nat) (c:Nat):gD L r (cs ++ [c]) = (gD L r cs).set (cy r c).toNat (j9 L r c):=by
 unfold gD
 rw [List.foldl_append]
 rfl
theorem mM:∀ (cs:List Nat) {M:List (List Int)},(cs.foldl (fun M c=>M.set (cy r c).toNat (j9 L r c)) M).length = M.length
 | [],_=>rfl
 | c :: cs,M=>by rw [List.foldl_cons,mM cs,List.length_set]
theorem cJ (cs:List Nat):(gD L r cs).length = L.length:=mM cs
theorem j8:∀ (cs:List Nat) {M:List (List Int)} {k:Nat} {l:List Int},(cs.foldl (fun M c=>M.set (cy r c).toNat (j9 L r c)) M)[k]? = some l→(M[k]? = some l∧∀ c∈cs,(cy r c).toNat≠k)∨∃ c∈cs,k = (cy r c).toNat∧l = j9 L r c
 | [],M,k,l,h=>.inl ⟨h,by simp⟩
 | c :: cs,M,k,l,h=>by
  rw [List.foldl_cons] at h
  rcases j8 cs h with ⟨z,n⟩ | ⟨e,he,h1,h2⟩
  ·by_cases q:(cy r c).toNat = k
   ·subst q
    have lt:(cy r c).toNat < M.length:=by
     have:=(List.getElem?_eq_some_iff.mp z).1
     rwa [List.length_set] at this
    rw [List.getElem?_set_self lt] at z
    exact .inr ⟨c,List.mem_cons_self,rfl,(Option.some.inj z).symm⟩
   ·rw [List.getElem?_set_ne q] at z
    exact .inl ⟨z,fun e he=>by rcases List.mem_cons.mp he with rfl | he; exact q; exact n e he⟩
  ·exact .inr ⟨e,List.mem_cons_of_mem _ he,h1,h2⟩
theorem rN (cs:List Nat) {k:Nat} (h:∀ c∈cs,(cy r c).toNat≠k) (hk:k < L.length):(gD L r cs)[k]? = L[k]?:=by
 have e:(gD L r cs)[k]? = some ((gD L r cs)[k]'(by rw [cJ]; exact hk)):=List.getElem?_eq_getElem _
 rcases j8 cs e with ⟨z,_⟩ | ⟨c,hc,h1,_⟩
 ·rw [e,z]
 ·exact absurd h1.symm (h c hc)
theorem pR (cs:List Nat):(uW L r cs).length = L.length + 1:=by unfold uW; rw [List.length_append,cJ]; rfl
theorem eN (im:aH L) (gd:Good L r) (c:Nat):0≤cy r c∧cy r c < L.length∧L[(cy r c).toNat]? = some (rowOf L (cy r c))∧cy r (c + (r.length - 1))∈rowOf L (cy r c)∧(rowOf L (cy r c)).length≤L.length:=by
 obtain ⟨zm,x0,x1,ed⟩:=eE gd im (c:=c)
 have hl:=aE x0 x1
 exact ⟨x0,x1,hl,zm,cZ (im.nd _ _ hl) fun y hy=>⟨(im.rg _ _ hl y hy).1,(im.rg _ _ hl y hy).2.1⟩⟩
theorem zu (im:aH L) (gd:Good L r) {cs:List Nat} (nd:(cs.map (cy r)).Nodup):∀ l∈uW L r cs,l.Nodup∧l.length≤L.length + 1:=by
 intro l hl
 rcases List.mem_append.mp hl with hl | hl
 ·obtain ⟨k,hk⟩:=List.mem_iff_getElem?.mp hl
  rcases j8 cs hk with ⟨z,_⟩ | ⟨c,_,rfl,rfl⟩
  ·have:=cZ (im.nd _ _ z) (n:=L.length) fun y hy=>⟨(im.rg _ _ z y hy).1,(im.rg _ _ z y hy).2.1⟩
   exact ⟨im.nd _ _ z,by omega⟩
  ·obtain ⟨x0,x1,hr,zm,sm⟩:=eN im gd c
   unfold j9
   have p:=eG (rowOf L (cy r c)) ((rowOf L (cy r c)).idxOf (cy r (c + (r.length - 1)))) (L.length:Int)
   refine ⟨p.nodup_iff.mpr (List.nodup_cons.mpr ⟨fun z=>?_,im.nd _ _ hr⟩),?_⟩
   ·have:=(im.rg _ _ hr _ z).2.1
    omega
   ·rw [p.length_eq,List.length_cons]
    omega
 ·rw [List.mem_singleton.mp hl]
  refine ⟨nd,?_⟩
  have:=cZ nd (n:=L.length) fun y hy=>by
   obtain ⟨c,_,rfl⟩:=List.mem_map.mp hy
   obtain ⟨x0,x1,_⟩:=eN im gd c
   exact ⟨x0,x1⟩
  omega
theorem aN.yt {H:Hp} {t acc j:Addr} {bs:List Addr} {M:List (List Int)} {l:List Int} (g:aN H acc bs M) (ht:H t = some (.lst (bs.map V.ref ++ [V.ref j]))) (hj:H j = some (.lst (l.map V.int))):aN H t (bs ++ [j]) (M ++ [l]):=by
 refine ⟨by rw [ht,List.map_append]; rfl,by rw [List.length_append,List.length_append,g.len]; rfl,fun i a m ha hm=>?_⟩
 rw [List.getElem?_append] at ha hm
 by_cases hi:i < bs.length
 ·rw [if_pos hi] at ha
  rw [if_pos (by rw [← g.len]; exact hi)] at hm
  exact g.row i a m ha hm
 ·rw [if_neg hi] at ha
  rw [if_neg (by rw [← g.len]; exact hi)] at hm
  have h1:=List.mem_singleton.mp (List.mem_of_getElem? ha)
  have h2:=List.mem_singleton.mp (List.mem_of_getElem? hm)
  rw [h1,h2]
  exact hj
end
theorem tJ:∀ {a b:List Int},a.Perm b→a.Pairwise (·≤·)→b.Pairwise (·≤·)→a = b
 | [],b,p,_,_=>by rw [p.nil_eq]
 | x :: a,[],p,_,_=>by have:=p.length_eq; simp at this
 | x :: a,y :: b,p,h1,h2=>by
  have vi:=List.pairwise_cons.mp h1
  have qw:=List.pairwise_cons.mp h2
  have e:x = y:=by
   have hx:x∈y :: b:=p.mem_iff.mp List.mem_cons_self
   have hy:y∈x :: a:=p.mem_iff.mpr List.mem_cons_self
   rcases List.mem_cons.mp hx with z | z
   ·exact z
   ·rcases List.mem_cons.mp hy with w | w
    ·exact w.symm
    ·exact Int.le_antisymm (vi.1 y w) (qw.1 x z)
  subst e
  rw [tJ (List.perm_cons x |>.mp p) vi.2 qw.2]
end Gm
end
section
namespace L2
open PySem
theorem A2 {t:TT} {ta tb:TS} {D:Ends} {σ : St} {H:Hp} (Y N:Hp→Prop) (hy:∀ H',Y H'→ta D σ H') (hn:∀ H',N H'→tb D σ H')
  (h:∀ R:Bool→Hp→Prop,(∀ H',Y H'→R true H')→(∀ H',N H'→R false H')→t σ H R):BD t ta tb D σ H:=
 tQ (h _ (fun H' y=>EG (hy H' y)) fun H' y=>Gy (hn H' y))
end L2
namespace Gm
open PySem L2
theorem jZ:∀ (cs:List Nat),cs.Pairwise (· < ·)↔∀ (j:Nat) (x y:Nat),cs[j]? = some x→cs[j + 1]? = some y→x < y
 | []=>by simp
 | [a]=>by simp
 | a :: b :: cs=>by
  rw [List.pairwise_cons,jZ (b :: cs)]
  constructor
  ·rintro ⟨h1,h2⟩ j x y hx hy
   cases j with
   | zero=>
    have e1:a = x:=by simpa using hx
    have e2:b = y:=by simpa using hy
    subst e1 e2
    exact h1 b List.mem_cons_self
   | succ j=>exact h2 j x y (by simpa using hx) (by simpa using hy)
  ·intro h
   have h2:∀ (j:Nat) (x y:Nat),(b :: cs)[j]? = some x→(b :: cs)[j + 1]? = some y→x < y:=fun j x y hx hy=>h (j + 1) x y (by simpa using hx) (by simpa using hy)
   refine ⟨fun z hz=>?_,h2⟩
   have ab:a < b:=h 0 a b rfl rfl
   have p:=(jZ (b :: cs)).mpr h2
   rcases List.mem_cons.mp hz with rfl | hz
   ·exact ab
   ·exact Nat.lt_trans ab ((List.pairwise_cons.mp p).1 z hz)
def aT (cs:List Nat):List Int:=cs.map fun c:Nat=>(c:Int)
theorem uc {cs:List Nat}:(aT cs).Pairwise (· < ·)↔cs.Pairwise (· < ·):=by
 unfold aT
 rw [List.pairwise_map]
 constructor
 ·exact List.Pairwise.imp fun h=>by omega
 ·exact List.Pairwise.imp fun h=>by omega
theorem xt {ns:List Int} (h1:ns.Nodup) (h2:ns.Pairwise (·≤·)):ns.Pairwise (· < ·):=
 List.Pairwise.imp (fun ⟨a,b⟩=>by omega) (List.Pairwise.and h1 h2)
theorem rh {ns s:List Int} (p:s.Perm (dW ns)) (h:s.Pairwise (·≤·)):ns = s↔ns.Pairwise (· < ·):=by
 constructor
 ·intro e
  rw [e]
  exact xt (p.nodup_iff.mpr (gO ns)) h
 ·intro q
  have nd:ns.Nodup:=List.Pairwise.imp (fun h=>by omega) q
  refine tJ (List.Perm.symm ?_) (List.Pairwise.imp (fun h=>by omega) q) h
  exact p.trans (i8.oy (gO ns) (fun x hx=>xy.mp hx) (by rw [(iC ns).mpr nd]; exact Nat.le_refl _))
end Gm
end
section
namespace Dd
open PySem L2 Fr Gm
local macro_rules | `(tactic| walk_at "rd1")=>`(tactic| first
 | with_reducible refine r_seq ?_ | with_reducible refine r_asg ?_ | with_reducible refine r_gname ?_ | with_reducible refine r_op ?_ | with_reducible refine r_c ?_
 | ((with_reducible refine' r_var ?hv ?_); case' hv=>exact rfl)
 | with_reducible refine wH ?_ | with_reducible refine Ea ?_ | with_reducible refine Eb ?_ | with_reducible refine wO ?_ | with_reducible refine wM ?_
 | with_reducible refine wG ?_ | with_reducible refine wF ?_ | with_reducible refine nT ?_ | with_reducible refine tQ ?_ | with_reducible refine rD ?_ | with_reducible refine Ie ?_ | with_reducible refine BW ?_
 | with_reducible refine wL ?_ | with_reducible refine wV ?_ | with_reducible refine BU ?_ | with_reducible refine rL ?_ | with_reducible refine AY ?_ | with_reducible refine rE ?_ | with_reducible refine A3 ?_
 | with_reducible refine gC ?_ | with_reducible refine dy ?_ | with_reducible refine nU ?_ | with_reducible refine uU ?_ | with_reducible refine wD ?_ | with_reducible refine wN ?_ | with_reducible refine rF ?_
 | with_reducible refine nR ?_ | with_reducible refine rG ?_ | with_reducible refine wJ ?_ | with_reducible refine EG ?_ | with_reducible refine Gy ?_ | with_reducible refine Cy ?_ | with_reducible refine Cz ?_
 | ((with_reducible refine wI ?hc ?_); case' hc=>walk_at "side")
 | ((with_reducible refine' AZ ?hp ?hi ?_); (case' hp=>walk_at "seq"); (case' hi=>exact rfl))
 | ((with_reducible refine' aS ?hp ?hi ?_); (case' hp=>walk_at "seq"); (case' hi=>exact rfl))
 | ((with_reducible refine' iT ?hp ?hi ?_); (case' hp=>walk_at "seq"); (case' hi=>exact rfl))
 | ((with_reducible refine And.intro ?hl ?_); case' hl=>(first | exact AS | exact DR))
 | with_reducible refine zp ?_ | with_reducible refine wU ?_ | with_reducible refine nO ?_ | with_reducible refine A1 ?_ | with_reducible refine wK ?_ | with_reducible refine nP ?_ | with_reducible refine nN ?_ | with_reducible refine j4 ?_ | with_reducible refine A4 ?_ | with_reducible refine rJ ?_
 | dsimp only)
local macro_rules | `(tactic| walk_at "rd")=>`(tactic| repeat walk_at "rd1")
local macro_rules | `(tactic| walk_at "blk_vis")=>`(tactic| first | exact Or.inl rfl | exact Or.inr (Or.inl rfl) | exact Or.inr (Or.inr rfl))
local macro_rules | `(tactic| walk_at "blk_ok")=>`(tactic| exact ⟨rfl,by decide +kernel,by decide +kernel,rfl,by (first | exact trivial | exact ⟨rfl,trivial⟩ | exact ⟨rfl,rfl,trivial⟩ | exact ⟨rfl,rfl,rfl,trivial⟩ | exact ⟨rfl,rfl,rfl,rfl,trivial⟩ | exact ⟨rfl,rfl,rfl,rfl,rfl,trivial⟩),rfl,
 by (first | exact aC | exact ai ⟨rfl,by walk_at "blk_vis",rfl,rfl⟩ aC | exact ai ⟨rfl,by walk_at "blk_vis",rfl,rfl⟩ (ai ⟨rfl,by walk_at "blk_vis",rfl,rfl⟩ aC) | exact ai ⟨rfl,by walk_at "blk_vis",rfl,rfl⟩ (ai ⟨rfl,by walk_at "blk_vis",rfl,rfl⟩ (ai ⟨rfl,by walk_at "blk_vis",rfl,rfl⟩ aC)) | exact ai ⟨rfl,by walk_at "blk_vis",rfl,rfl⟩ (ai ⟨rfl,by walk_at "blk_vis",rfl,rfl⟩ (ai ⟨rfl,by walk_at "blk_vis",rfl,rfl⟩ (ai ⟨rfl,by walk_at "blk_vis",rfl,rfl⟩ aC)))),
 by (first | exact ai rfl (ai rfl (ai rfl (ai rfl aC))) | exact aC | exact ai rfl aC | exact ai rfl (ai rfl aC) | exact ai rfl (ai rfl (ai rfl aC)))⟩)
local macro_rules | `(tactic| walk_at "blk_ok1")=>`(tactic| exact ⟨rfl,fun _=>rfl,fun _=>rfl,by decide +kernel,rfl,by (first | exact trivial | exact ⟨rfl,trivial⟩ | exact ⟨rfl,rfl,trivial⟩ | exact ⟨rfl,rfl,rfl,trivial⟩ | exact ⟨rfl,rfl,rfl,rfl,trivial⟩),rfl,
 by (first | exact aC | exact ai ⟨rfl,by walk_at "blk_vis",⟨rfl,rfl⟩,rfl⟩ aC | exact ai ⟨rfl,by walk_at "blk_vis",⟨rfl,rfl⟩,rfl⟩ (ai ⟨rfl,by walk_at "blk_vis",⟨rfl,rfl⟩,rfl⟩ aC) | exact ai ⟨rfl,by walk_at "blk_vis",⟨rfl,rfl⟩,rfl⟩ (ai ⟨rfl,by walk_at "blk_vis",⟨rfl,rfl⟩,rfl⟩ (ai ⟨rfl,by walk_at "blk_vis",⟨rfl,rfl⟩,rfl⟩ aC))),
 by (first | exact aC | exact ai rfl aC | exact ai rfl (ai rfl aC) | exact ai rfl (ai rfl (ai rfl aC)))⟩)
local macro_rules | `(tactic| walk_at "side")=>`(tactic| first | assumption | exact (show (0:Int) < _ by decide) | exact oN (by decide) (by decide) | exact oO (by decide) (by decide) | exact mulL (by decide) (by decide))
local macro_rules | `(tactic| walk_at "seq")=>`(tactic| first | assumption | exact SqT.of (by assumption))
def top (i:Nat):Stmt:=PySem.Challenge.pw_standup_k23_a_place_put_in.main.body.getD i (.Pass ⟨0,0,0,0⟩)
abbrev dI:Stmt:=top 18
abbrev bW:Stmt:=top 19
abbrev bB:Stmt:=top 20
abbrev eR:Stmt:=top 21
abbrev eU:Stmt:=top 22
abbrev bX:Stmt:=top 24
abbrev eT:Stmt:=top 25
abbrev dH:Stmt:=top 26
abbrev wy:Stmt:=top 28
abbrev bL:Stmt:=top 29
abbrev bQ:Stmt:=top 30
abbrev bN:Stmt:=top 31
abbrev cF:Stmt:=top 32
abbrev bM:Stmt:=top 33
abbrev bp:Stmt:=top 34
abbrev aY:Stmt:=top 35
abbrev bP:Stmt:=top 36
abbrev cD:Stmt:=top 37
abbrev bO:Stmt:=top 38
abbrev bC:Stmt:=top 39
abbrev bY:Stmt:=top 40
abbrev bo:Stmt:=top 41
abbrev bq:Stmt:=top 42
abbrev bD:Stmt:=top 43
abbrev cE:Stmt:=top 44
abbrev bZ:Stmt:=top 45
abbrev hZ:Stmt:=top 46
structure OT where
 qM:Addr
 gm:Addr
 yF:Addr
 dQ:Addr
 oU:Addr
 iK:Addr
 lB:Addr
 iL:Addr
 oS:Addr
 Flat:Addr
 i9:Addr
 sS:Addr
 sR:Addr
 qL:Addr
 oT:Addr
 sQ:Addr
structure Txt (K:PySem.W.Frag) (mg:Str→Option Value) (Z:OT):Prop where
 len:mg "len" = none
 isinstance:mg "isinstance" = none
 int:mg "int" = none
 bool:mg "bool" = none
 enumerate:mg "enumerate" = none
 range:mg "range" = none
 min:mg "min" = none
 max:mg "max" = none
 sorted:mg "sorted" = none
 set:mg "set" = none
 list:mg "list" = none
 zip:mg "zip" = none
 all:mg "all" = none
 ValueError:mg "ValueError" = none
 sJ:mg "MapError" = some (.ref Z.qM)
 sI:mg "NoNumber" = some (.ref Z.gm)
 Ar:mg "NoOne" = some (.ref Z.yF)
 oP:mg "NoTie" = some (.ref Z.dQ)
 vB:mg "NoOther" = some (.ref Z.oU)
 vC:mg "NoNames" = some (.ref Z.iK)
 yz:mg "NoLand" = some (.ref Z.lB)
 vD:mg "NoFrame" = some (.ref Z.iL)
 vz:mg "NoThree" = some (.ref Z.oS)
 C6:mg "Flat" = some (.ref Z.Flat)
 qH:mg "NotInside" = some (.ref Z.i9)
 yy:mg "NoStep" = some (.ref Z.sS)
 yx:mg "NoText" = some (.ref Z.sR)
 As:mg "NoMap" = some (.ref Z.qL)
 vA:mg "NoSheet" = some (.ref Z.oT)
 yw:mg "Parted" = some (.ref Z.sQ)
 x_NoTie:PySem.W.excIn K Z.dQ [.type "ValueError",.type "Exception",.type "BaseException",.type "object"] "ValueError.__new__" = true
 jC:ju K Z.dQ
 m1:PySem.W.exmOne K (.ref Z.dQ) (.ref Z.qM) = some true
 m2:PySem.W.kitOne K (.ref Z.dQ) (.ref Z.dQ) = some true
 m3:PySem.W.kitAny K (.ref Z.dQ) [.ref Z.Flat,.ref Z.iL,.ref Z.lB,.ref Z.qL,.ref Z.iK,.ref Z.gm] = some false
 m4:PySem.W.kitAny K (.ref Z.dQ) [.ref Z.yF,.ref Z.oU,.ref Z.oT,.ref Z.oS,.ref Z.i9,.ref Z.sQ,.ref Z.sS,.ref Z.sR] = some false
 m5:PySem.W.kitOne K (.ref Z.dQ) (.type "ValueError") = some true
def Gb (K:PySem.W.Frag):Sp:=fun vs H Q _=>∃ (a:Addr) (ns:List Int) (k:Int),vs = [.ref a,.int k]∧ay K H a (ns.map V.int)∧0≤k∧∀ n,Q (.int n) H
def pE:Sp:=fun vs H Q _=>∃ n:Int,vs = [.int n]∧Q (.bl true) H
def eF (K:PySem.W.Frag):Sp:=fun vs H Q _=>∃ (a:Addr) (ns:List Int) (k:Int),vs = [.ref a,.int k]∧ay K H a (ns.map V.int)∧0≤k∧k≤100000∧∀ n,0≤n→n < 2147483587→Q (.int n) H
def wm (K:PySem.W.Frag):Sp:=fun vs H Q _=>∃ (a:Addr) (ns:List Int) (st n:Int),vs = [.ref a,.int st,.int n]∧ay K H a (ns.map V.int)∧0≤st∧st≤1000∧0≤n∧n≤60∧
 ∀ p as L H',ah H H'→aN H' p as L→(p :: as).Nodup→(∀ b∈p :: as,H b = none)→(L.length:Int) = n→aH L→Q (.ref p) H'
def mH:Sp:=fun vs H Q _=>∃ (p:Addr) (as:List Addr) (L:List (List Int)) (d:au),vs = [.ref p,.int d.1,.int d.2]∧aN H p as L∧aH L∧Dt L d∧Q (.int (nx L d).2) H
def tG:Sp:=fun vs H Q _=>∃ (p:Addr) (as:List Addr) (L:List (List Int)) (d:au),vs = [.ref p,.int d.1,.int d.2]∧aN H p as L∧aH L∧Dt L d∧(eL L L.length).length < 128∧
 ∀ (r:Addr) (k:Nat) H',ah H H'→H r = none→H' r = some (.lst ((az L d k).map V.int))→0 < k→it L d k = d→gk L d k→Q (.ref r) H'
def pH:Sp:=fun vs H Q _=>∃ (a:Addr) (r:List Int),vs = [.ref a]∧H a = some (.lst (r.map V.int))∧0 < r.length∧r.length≤1000∧
 ∀ (b:Addr) (c:Nat) H',ah H H'→H b = none→H' b = some (.lst ((cz r c).map V.int))→c < r.length→(∀ j,j < r.length→Le (cz r c) (cz r j))→Q (.ref b) H'
def pF:Sp:=fun vs H Q _=>∃ (a:Addr) (r:List Int),vs = [.ref a]∧H a = some (.lst (r.map V.int))∧0 < r.length∧r.length≤1000∧
 ∀ (t:Addr) (ps:List Addr) H',ah H H'→H t = none→H' t = some (.lst (ps.map V.ref))→PR H' ps (sh 0 r)→Q (.ref t) H'
def hW:Sp:=fun vs H Q _=>∃ (p:Addr) (as:List Addr) (L:List (List Int)),vs = [.ref p]∧aN H p as L∧aH L∧L.length≤60∧(eL L L.length).length < 128∧
 ∀ (t:Addr) (bs:List Addr) (R:List (List Int)) H',ah H H'→aN H' t bs R→(t :: bs).Nodup→(∀ b∈t :: bs,H b = none)→dw L R→Q (.ref t) H'
def jf:Sp:=fun vs H Q _=>∃ (a:Addr) (l:List Int) (x y:Int),vs = [.ref a,.int x,.int y]∧H a = some (.lst (l.map V.int))∧y∈l∧l.length≤1000∧
 ∀ (b:Addr) H',ah H H'→H b = none→H' b = some (.lst ((put l (l.idxOf y) x).map V.int))→Q (.ref b) H'
def jV:Sp:=fun vs H Q _=>∃ (p:Addr) (as:List Addr) (L:List (List Int)),vs = [.ref p]∧aN H p as L∧aH L∧L.length≤60∧(eL L L.length).length < 1000∧
 ∀ (t:Addr) (bs:List Addr) (R:List (List au)) H',ah H H'→aN H' t bs (R.map fun c=>c.map (·.1))→(t :: bs).Nodup→(∀ b∈t :: bs,H b = none)→Dec L R→Q (.ref t) H'
def mG:Sp:=fun vs H Q _=>∃ (p ra:Addr) (as:List Addr) (L:List (List Int)) (r:List Int) (i j:Nat),vs = [.ref p,.ref ra,.int (i:Int),.int (j:Int)]∧aN H p as L∧(p :: as).Nodup∧H ra = some (.lst (r.map V.int))∧ra∉as∧cG L∧Good L r∧i < r.length∧j < r.length∧L.length≤60∧
 ∀ H' L',(∀ b o,b∉as→H b = some o→H' b = some o)→aN H' p as L'→cG L'→L'.length = L.length→Q .cX H'
def je:Sp:=fun vs H Q _=>∃ (p ra rc:Addr) (as:List Addr) (L:List (List Int)) (r:List Int) (cs:List Nat),vs = [.ref p,.ref ra,.ref rc]∧aN H p as L∧(p :: as).Nodup∧H ra = some (.lst (r.map V.int))∧ra∉as∧H rc = some (.lst ((cs.map fun c:Nat=>(c:Int)).map V.int))∧rc∉as∧ra≠p∧rc≠p∧cG L∧Good L r∧(sh 0 r).Nodup∧cs≠[]∧cs.Pairwise (· < ·)∧(∀ c∈cs,c < r.length)∧(cs.map (cy r)).Nodup∧cs.length≤200∧L.length≤60∧
 ∀ H' L' c,(∀ b o,b∉p :: as→H b = some o→H' b = some o)→H c = none→aN H' p (as ++ [c]) L'→(p :: (as ++ [c])).Nodup→cG L'→L'.length = L.length + 1→Q .cX H'
def pJ (K:PySem.W.Frag):Sp:=fun vs H Q _=>∃ (a:Addr) (ns:List Int) (st:Int) (n:Nat),vs = [.ref a,.int st,.int (n:Int)]∧ay K H a (ns.map V.int)∧0≤st∧st≤1000∧n≤16∧
 ∀ p as L H',ah H H'→aN H' p as L→(p :: as).Nodup→(∀ b∈p :: as,H b = none)→cG L→L.length≤2 + n→Q (.ref p) H'
def wg (K:PySem.W.Frag):Sp:=fun vs H Q _=>∃ (a:Addr) (ns:List Int),vs = [.ref a]∧ay K H a (ns.map V.int)∧
 ∀ p as L H',ah H H'→aN H' p as L→(p :: as).Nodup→(∀ b∈p :: as,H b = none)→aH L→2≤L.length→L.length≤13→(eL L L.length).length < 128→(∀ R,dw L R→∀ r∈R,r.length≤42)→Q (.ref p) H'
def pI:Sp:=fun vs H Q _=>∃ (p:Addr) (as:List Addr) (L:List (List Int)),vs = [.ref p]∧aN H p as L∧∀ H',ah H H'→Q (.bl true) H'
def tF:Sp:=fun vs H Q _=>∃ (p t:Addr) (as bs:List Addr) (L M:List (List Int)),vs = [.ref p,.ref t]∧aN H p as L∧aN H t bs M∧L.length = M.length∧(∀ (i:Nat) (l m:List Int),L[i]? = some l→M[i]? = some m→fR l m∧m.Nodup∧m.length≤1000)∧L.length≤1000∧∀ H',ah H H'→Q (.bl true) H'
def pG:Sp:=fun vs H Q _=>∃ (a:Addr) (cs:List Nat),vs = [.ref a]∧H a = some (.lst ((aT cs).map V.int))∧cs≠[]∧cs.length≤1000∧∀ H' b,ah H H'→(b = true↔cs.Pairwise (· < ·))→Q (.bl b) H'
def iR (N:Addr):Sp:=fun vs H Q E=>∃ (p rc:Addr) (as:List Addr) (L R:List (List Int)) (r:List Int) (m:Nat) (cs:List Nat),vs = [.ref p,.int (m:Int),.ref rc]∧aN H p as L∧aH L∧L.length≤20∧(eL L L.length).length < 128∧dw L R∧R[m]? = some r∧H rc = some (.lst ((aT cs).map V.int))∧(∀ c∈cs,c < r.length)∧cs.length≤60∧
 (vF r cs→∀ t bs H',ah H H'→aN H' t bs (uW L r cs)→(t :: bs).Nodup→(∀ b∈t :: bs,H b = none)→Q (.ref t) H')∧(¬ vF r cs→∀ H',ah H H'→E (.ref N) none H')
def jW:Sp:=fun vs H Q _=>∃ (ra:Addr) (r:List Int) (n:Int),vs = [.ref ra,.int n]∧H ra = some (.lst (r.map V.int))∧0≤n∧n < 2147483587∧r.length≤42∧∀ b cs H',ah H H'→H b = none→H' b = some (.lst ((aT cs).map V.int))→(∀ c∈cs,c < r.length)→cs.length≤r.length + 1→Q (.ref b) H'
def wj:Sp:=fun vs H Q _=>∃ (p ra rc:Addr) (as:List Addr) (L:List (List Int)) (r:List Int) (cs:List Nat),vs = [.ref p,.ref ra,.ref rc]∧aN H p as L∧aH L∧L.length≤20∧Good L r∧H ra = some (.lst (r.map V.int))∧H rc = some (.lst ((aT cs).map V.int))∧(∀ c∈cs,c < r.length)∧(cs.map (cy r)).Nodup∧cs.length≤60∧∀ t bs H',ah H H'→aN H' t bs (uW L r cs)→Q (.ref t) H'
def jU (N:Addr):Sp:=fun vs H Q _=>∃ a:Addr,vs = [.ref a]∧H a = some (sE N a)∧∀ H',ah H H'→Q (.bl false) H'
def mI (N:Addr):Sp:=fun vs H Q _=>∃ (p rc:Addr) (as:List Addr) (L R:List (List Int)) (r:List Int) (m:Nat) (cs:List Nat),vs = [.ref p,.int (m:Int),.ref rc]∧aN H p as L∧aH L∧L.length≤20∧(eL L L.length).length < 128∧dw L R∧R[m]? = some r∧H rc = some (.lst ((aT cs).map V.int))∧(∀ c∈cs,c < r.length)∧cs.length≤60∧¬ vF r cs∧
 ∀ a H',ah H H'→H' a = some (sE N a)→Q (.ref a) H'
def tI:Sp:=fun vs H Q _=>∃ (p ra rc:Addr) (as:List Addr) (L R:List (List Int)) (r:List Int) (m:Nat) (cs:List Nat),vs = [.ref p,.int (m:Int),.ref ra,.ref rc]∧aN H p as L∧aH L∧L.length≤20∧(eL L L.length).length < 128∧dw L R∧R[m]? = some r∧H ra = some (.lst (r.map V.int))∧H rc = some (.lst ((aT cs).map V.int))∧(∀ c∈cs,c < r.length)∧cs.length≤60∧∀ H',ah H H'→Q (.bl true) H'
def nJ (K:PySem.W.Frag):Sp:=fun vs H Q _=>∃ (a:Addr) (ns:List Int),vs = [.ref a]∧ay K H a (ns.map V.int)∧ns.length≤63∧∀ H',Q (.bl true) H'
end Dd
end
section
namespace Dd
open PySem L2 Fr Gm
local macro_rules | `(tactic| walk_at "rd1")=>`(tactic| first
 | with_reducible refine r_seq ?_ | with_reducible refine r_asg ?_ | with_reducible refine r_gname ?_ | with_reducible refine r_op ?_ | with_reducible refine r_c ?_
 | ((with_reducible refine' r_var ?hv ?_); case' hv=>exact rfl)
 | with_reducible refine wH ?_ | with_reducible refine Ea ?_ | with_reducible refine Eb ?_ | with_reducible refine wO ?_ | with_reducible refine wM ?_
 | with_reducible refine wG ?_ | with_reducible refine wF ?_ | with_reducible refine nT ?_ | with_reducible refine tQ ?_ | with_reducible refine rD ?_ | with_reducible refine Ie ?_ | with_reducible refine BW ?_
 | with_reducible refine wL ?_ | with_reducible refine wV ?_ | with_reducible refine BU ?_ | with_reducible refine rL ?_ | with_reducible refine AY ?_ | with_reducible refine rE ?_ | with_reducible refine A3 ?_
 | with_reducible refine gC ?_ | with_reducible refine dy ?_ | with_reducible refine nU ?_ | with_reducible refine uU ?_ | with_reducible refine wD ?_ | with_reducible refine wN ?_ | with_reducible refine rF ?_
 | with_reducible refine nR ?_ | with_reducible refine rG ?_ | with_reducible refine wJ ?_ | with_reducible refine EG ?_ | with_reducible refine Gy ?_ | with_reducible refine Cy ?_ | with_reducible refine Cz ?_
 | ((with_reducible refine wI ?hc ?_); case' hc=>walk_at "side")
 | ((with_reducible refine' AZ ?hp ?hi ?_); (case' hp=>walk_at "seq"); (case' hi=>exact rfl))
 | ((with_reducible refine' aS ?hp ?hi ?_); (case' hp=>walk_at "seq"); (case' hi=>exact rfl))
 | ((with_reducible refine' iT ?hp ?hi ?_); (case' hp=>walk_at "seq"); (case' hi=>exact rfl))
 | ((with_reducible refine And.intro ?hl ?_); case' hl=>(first | exact AS | exact DR))
 | with_reducible refine zp ?_ | with_reducible refine wU ?_ | with_reducible refine nO ?_ | with_reducible refine A1 ?_ | with_reducible refine wK ?_ | with_reducible refine nP ?_ | with_reducible refine nN ?_ | with_reducible refine j4 ?_ | with_reducible refine A4 ?_ | with_reducible refine rJ ?_
 | dsimp only)
local macro_rules | `(tactic| walk_at "rd")=>`(tactic| repeat walk_at "rd1")
local macro_rules | `(tactic| walk_at "blk_vis")=>`(tactic| first | exact Or.inl rfl | exact Or.inr (Or.inl rfl) | exact Or.inr (Or.inr rfl))
local macro_rules | `(tactic| walk_at "blk_ok")=>`(tactic| exact ⟨rfl,by decide +kernel,by decide +kernel,rfl,by (first | exact trivial | exact ⟨rfl,trivial⟩ | exact ⟨rfl,rfl,trivial⟩ | exact ⟨rfl,rfl,rfl,trivial⟩ | exact ⟨rfl,rfl,rfl,rfl,trivial⟩ | exact ⟨rfl,rfl,rfl,rfl,rfl,trivial⟩),rfl,
 by (first | exact aC | exact ai ⟨rfl,by walk_at "blk_vis",rfl,rfl⟩ aC | exact ai ⟨rfl,by walk_at "blk_vis",rfl,rfl⟩ (ai ⟨rfl,by walk_at "blk_vis",rfl,rfl⟩ aC) | exact ai ⟨rfl,by walk_at "blk_vis",rfl,rfl⟩ (ai ⟨rfl,by walk_at "blk_vis",rfl,rfl⟩ (ai ⟨rfl,by walk_at "blk_vis",rfl,rfl⟩ aC)) | exact ai ⟨rfl,by walk_at "blk_vis",rfl,rfl⟩ (ai ⟨rfl,by walk_at "blk_vis",rfl,rfl⟩ (ai ⟨rfl,by walk_at "blk_vis",rfl,rfl⟩ (ai ⟨rfl,by walk_at "blk_vis",rfl,rfl⟩ aC)))),
 by (first | exact ai rfl (ai rfl (ai rfl (ai rfl aC))) | exact aC | exact ai rfl aC | exact ai rfl (ai rfl aC) | exact ai rfl (ai rfl (ai rfl aC)))⟩)
local macro_rules | `(tactic| walk_at "blk_ok1")=>`(tactic| exact ⟨rfl,fun _=>rfl,fun _=>rfl,by decide +kernel,rfl,by (first | exact trivial | exact ⟨rfl,trivial⟩ | exact ⟨rfl,rfl,trivial⟩ | exact ⟨rfl,rfl,rfl,trivial⟩ | exact ⟨rfl,rfl,rfl,rfl,trivial⟩),rfl,
 by (first | exact aC | exact ai ⟨rfl,by walk_at "blk_vis",⟨rfl,rfl⟩,rfl⟩ aC | exact ai ⟨rfl,by walk_at "blk_vis",⟨rfl,rfl⟩,rfl⟩ (ai ⟨rfl,by walk_at "blk_vis",⟨rfl,rfl⟩,rfl⟩ aC) | exact ai ⟨rfl,by walk_at "blk_vis",⟨rfl,rfl⟩,rfl⟩ (ai ⟨rfl,by walk_at "blk_vis",⟨rfl,rfl⟩,rfl⟩ (ai ⟨rfl,by walk_at "blk_vis",⟨rfl,rfl⟩,rfl⟩ aC))),
 by (first | exact aC | exact ai rfl aC | exact ai rfl (ai rfl aC) | exact ai rfl (ai rfl (ai rfl aC)))⟩)
local macro_rules | `(tactic| walk_at "side")=>`(tactic| first | assumption | exact (show (0:Int) < _ by decide) | exact oN (by decide) (by decide) | exact oO (by decide) (by decide) | exact mulL (by decide) (by decide))
local macro_rules | `(tactic| walk_at "seq")=>`(tactic| first | assumption | exact SqT.of (by assumption))
section
variable {P:Program} {w:World} {K:PySem.W.Frag} {mg:Str→Option Value} {base:Heap} {Z:OT}
theorem lK:aQ ["_law_found"] ["_law_found"] (aj bL):=⟨rfl,rfl,rfl,by decide +kernel,rfl,by decide +kernel,by decide +kernel⟩
theorem lN (D:Def K mg "_law_whole" bL ["_law_found"]) (T:Txt K mg Z):df P w K mg base (cA P w) "_law_whole" 1 ["_law_found"] pE:=by
 refine D.ef lK (fun vs H Q E h=>?_) (fun f de A outer s H vs Q E hr h=>?_)
 ·obtain ⟨n,rfl,_⟩:=h; rfl
 ·obtain ⟨n,rfl,q⟩:=h
  refine ⟨_,(ak (aU (xj (av gs (by rfl) T.isinstance bE (aa (pv 0) (aa (ic (v:=.ty "int") rfl T.int C8 rfl) af))) (xi (B5 (av gs (by rfl) T.isinstance bE (aa (pv 0) (aa (ic (v:=.ty "bool") rfl T.bool Au rfl) af)))))))),?_⟩
  try dsimp only [dX]
  walk_at "rd"
  refine nQ (.int n) (.ty _) zK ?_
  walk_at "rd"
  refine nQ (.int n) (.ty _) Ck ?_
  walk_at "rd"
  exact q
theorem cT:aQ ["_law_script", "_law_k", "_law_cell", "_law_j"] ["_law_script", "_law_k"] (aj bQ):=⟨rfl,rfl,rfl,by decide +kernel,rfl,by decide +kernel,by decide +kernel⟩
theorem lT (D:Def K mg "_law_block" bQ ["_law_script", "_law_k"]) (T:Txt K mg Z):df P w K mg base (cA P w) "_law_block" 1 ["_law_script", "_law_k"] (eF K):=by
 refine D.ef cT (fun vs H Q E h=>?_) (fun f de A outer s H vs Q E hr h=>?_)
 ·obtain ⟨a,ns,k,rfl,_⟩:=h; rfl
 ·obtain ⟨a,ns,k,rfl,hS,N0,NZ,q⟩:=h
  refine ⟨_,(ag (aB (i:=2) cT.nd rfl (by first | exact Or.inl rfl | exact Or.inr rfl) ao)
   (ag (bF (aK xl (aA cR ao (aA bw (aA cQ (pv 1) ao) ao)) (av aM (by rfl) T.len aZ (aa (pv 0) af)) (aW _)) (ak (aB (i:=2) cT.nd rfl (by first | exact Or.inl rfl | exact Or.inr rfl) (aA cQ (aV aD (pv 0) (aA cR ao (aA bw (aA cQ (pv 1) ao) ao)) (fun _ _=>rfl)) (oh (v:=10000000000000000000000000000000000000000000000000000000000000000) rR ao ao ⟨by decide,by decide,by decide⟩ (by decide +kernel))))) aR)
   (ag (b9 PassesOwn.never rfl (bV rfl T.range (aa (aA bw (pv 1) ao) af)) (aJ (i:=3) cT.nd rfl (by first | exact Or.inl rfl | exact Or.inr rfl))
   (ak (aB (i:=2) cT.nd rfl (by first | exact Or.inl rfl | exact Or.inr rfl) (aA cQ (pv 2) ao))))
   (ak (aU (aA bw (pv 2) ao)))))),?_⟩
  dsimp only [dX]
  walk_at "rd"
  refine ⟨_,_,rfl,.inl ⟨_,hS,rfl⟩,?_⟩
  walk_at "rd"
  refine if2 (fun eV=>?_) (fun eV=>?_)
  ·walk_at "rd"
   rw [List.length_map] at eV
   obtain ⟨n0,EO⟩:=ox (ns:=ns) (k:=1 + k / 8 % 62) (by omega) eV
   refine aS hS EO ?_
   walk_at "rd"
   refine dq ?_
   refine ⟨_,rfl,_,_,rfl,rfl,(show (0:Int) < 8 by decide),k % 8,rfl,by omega,by omega,dc (fun i σ H1=>∃ (c:Int) (v:Option V),σ = [some (.ref a),some (.int k),some (.int c),v]∧H1 = H) ⟨_,_,rfl,rfl⟩ ?_ ?_⟩
   ·rintro i σ H1 hi ⟨c,v,rfl,rfl⟩
    walk_at "rd"
    exact ⟨_,_,rfl,rfl⟩
   ·rintro σ H1 ⟨c,v,rfl,rfl⟩
    walk_at "rd"
    exact q _ (Int.emod_nonneg _ (by decide)) (Int.emod_lt_of_pos _ (by decide))
  ·walk_at "rd"
   refine dq ?_
   refine ⟨_,rfl,_,_,rfl,rfl,(show (0:Int) < 8 by decide),k % 8,rfl,by omega,by omega,dc (fun i σ H1=>∃ (c:Int) (v:Option V),σ = [some (.ref a),some (.int k),some (.int c),v]∧H1 = H) ⟨_,_,rfl,rfl⟩ ?_ ?_⟩
   ·rintro i σ H1 hi ⟨c,v,rfl,rfl⟩
    walk_at "rd"
    exact ⟨_,_,rfl,rfl⟩
   ·rintro σ H1 ⟨c,v,rfl,rfl⟩
    walk_at "rd"
    exact q _ (Int.emod_nonneg _ (by decide)) (Int.emod_lt_of_pos _ (by decide))
theorem b8:aQ ["_law_script", "_law_k", "_law_cell", "_law_number"] ["_law_script", "_law_k"] (aj bN):=⟨rfl,rfl,rfl,by decide +kernel,rfl,by decide +kernel,by decide +kernel⟩
theorem lP (D:Def K mg "_law_mixed" bN ["_law_script", "_law_k"]) (T:Txt K mg Z) (oI:df P w K mg base (cA P w) "_law_block" 1 ["_law_script", "_law_k"] (eF K)):df P w K mg base (cA P w) "_law_mixed" 2 ["_law_script", "_law_k"] (eF K):=by
 refine D.ef b8 (fun vs H Q E h=>?_) (fun f de A outer s H vs Q E hr h=>?_)
 ·obtain ⟨a,ns,k,rfl,_⟩:=h; rfl
 ·obtain ⟨a,ns,k,rfl,hS,N0,NZ,q⟩:=h
  refine ⟨_,(ag (aB (i:=2) b8.nd rfl (by first | exact Or.inl rfl | exact Or.inr rfl) ao)
   (ag (bF (aK xo (av aM (by rfl) T.len aZ (aa (pv 0) af)) ao (aW _)) (ak (aB (i:=2) b8.nd rfl (by first | exact Or.inl rfl | exact Or.inr rfl) (aV aD (pv 0) ao (fun _ _=>rfl)))) aR)
   (ag (bF (aK gE (aA bw (aA cQ (pv 2) (oh (v:=1000000) rR ao ao ⟨by decide,by decide,by decide⟩ (by decide +kernel))) ao) ao (aW _)) (ak (aU (aG oI hr bx (aa (pv 0) (aa (pv 1) af))))) aR)
   (ag (bF (aK xo (av aM (by rfl) T.len aZ (aa (pv 0) af)) ao (aW _)) (ak (aB (i:=2) b8.nd rfl (by first | exact Or.inl rfl | exact Or.inr rfl) (aV aD (pv 0) (aA bw (pv 1) (av (nk rfl) (by rfl) T.min lr (aa ao (aa (av aM (by rfl) T.len aZ (aa (pv 0) af)) af)))) (fun _ _=>rfl)))) aR)
   (ag (aB (i:=3) b8.nd rfl (by first | exact Or.inl rfl | exact Or.inr rfl) (aA cR (aA bw (pv 2) (oh (v:=1000000000000000000) rR ao ao ⟨by decide,by decide,by decide⟩ (by decide +kernel))) (aA fH ao (aA cR (pv 1) ao))))
   (ag (aB (i:=3) b8.nd rfl (by first | exact Or.inl rfl | exact Or.inr rfl) (aA cR (aA bw (aA fH (pv 3) (pv 3)) ao) (aA fH ao (pv 1))))
   (ak (aU (aA bw (aA fH (pv 3) (pv 3)) ao))))))))),?_⟩
  dsimp only [dX]
  walk_at "rd"
  refine ⟨_,_,rfl,.inl ⟨_,hS,rfl⟩,?_⟩
  walk_at "rd"
  refine if2 (fun qi=>?_) (fun qi=>?_)
  ·walk_at "rd"
   rw [List.length_map] at qi
   obtain ⟨n0,EO⟩:=ox (ns:=ns) (k:=0) (by omega) qi
   refine aS hS EO ?_
   walk_at "rd"
   refine if2 (fun _=>?_) (fun _=>?_)
   ·walk_at "rd"
    exact ⟨a,ns,k,rfl,hS,N0,NZ,q⟩
   ·walk_at "rd"
    refine ⟨_,_,rfl,.inl ⟨_,hS,rfl⟩,?_⟩
    walk_at "rd"
    rw [List.length_map]
    refine if2 (fun _=>?_) (fun h=>absurd qi h)
    walk_at "rd"
    refine ⟨_,_,rfl,.inl ⟨_,hS,rfl⟩,?_⟩
    walk_at "rd"
    rw [List.length_map]
    refine ⟨_,_,rfl,?_⟩
    have mp:0 < (if (ns.length:Int) < 63 then (ns.length:Int) else 63):=by split <;> omega
    have ml:(if (ns.length:Int) < 63 then (ns.length:Int) else 63)≤ns.length:=by split <;> omega
    generalize (if (ns.length:Int) < 63 then (ns.length:Int) else 63) = mm at mp ml ⊢
    walk_at "rd"
    have i0:=Int.emod_nonneg k (show mm≠0 by omega)
    have i1:=Int.emod_lt_of_pos k mp
    obtain ⟨n1,NU⟩:=ox (ns:=ns) (k:=k % mm) i0 (by omega)
    refine aS hS NU ?_
    walk_at "rd"
    generalize n1 = cc
    have c0:=Int.emod_nonneg cc (show (1000000000000000000:Int)≠0 by decide)
    have c1:=Int.emod_lt_of_pos cc (show (0:Int) < 1000000000000000000 by decide)
    generalize cc % 1000000000000000000 = r at c0 c1 ⊢
    have hm:IntMulOk (r + 48271 * (k + 1)) (r + 48271 * (k + 1)):=mulL (by omega) (by omega)
    walk_at "rd"
    generalize (r + 48271 * (k + 1)) * (r + 48271 * (k + 1)) = zz
    have z0:=Int.emod_nonneg zz (show (2147483629:Int)≠0 by decide)
    have z1:=Int.emod_lt_of_pos zz (show (0:Int) < 2147483629 by decide)
    generalize zz % 2147483629 = r2 at z0 z1 ⊢
    have CK:IntMulOk (r2 + 69621 * k) (r2 + 69621 * k):=mulL (by omega) (by omega)
    walk_at "rd"
    exact q _ (Int.emod_nonneg _ (by decide)) (Int.emod_lt_of_pos _ (by decide))
  ·walk_at "rd"
   rw [List.length_map] at qi
   refine if2 (fun z=>absurd z (by decide)) (fun _=>?_)
   walk_at "rd"
   refine ⟨_,_,rfl,.inl ⟨_,hS,rfl⟩,?_⟩
   walk_at "rd"
   rw [List.length_map]
   refine if2 (fun h=>absurd h qi) (fun _=>?_)
   walk_at "rd"
   generalize yI:(0:Int) % 1000000000000000000 = r
   have c0:0≤r:=by omega
   have c1:r < 1000000000000000000:=by omega
   have hm:IntMulOk (r + 48271 * (k + 1)) (r + 48271 * (k + 1)):=mulL (by omega) (by omega)
   walk_at "rd"
   generalize (r + 48271 * (k + 1)) * (r + 48271 * (k + 1)) = zz
   have z0:=Int.emod_nonneg zz (show (2147483629:Int)≠0 by decide)
   have z1:=Int.emod_lt_of_pos zz (show (0:Int) < 2147483629 by decide)
   generalize zz % 2147483629 = r2 at z0 z1 ⊢
   have CK:IntMulOk (r2 + 69621 * k) (r2 + 69621 * k):=mulL (by omega) (by omega)
   walk_at "rd"
   exact q _ (Int.emod_nonneg _ (by decide)) (Int.emod_lt_of_pos _ (by decide))
theorem cY:aQ ["_law_script", "_law_start", "_law_many", "_law_orders", "_law_thick", "_law_one", "_law_other", "_law_number"] ["_law_script", "_law_start", "_law_many"] (aj cF):=⟨rfl,rfl,rfl,by decide +kernel,rfl,by decide +kernel,by decide +kernel⟩
theorem p5 (D:Def K mg "_law_any" cF ["_law_script", "_law_start", "_law_many"]) (T:Txt K mg Z) (bj:df P w K mg base (cA P w) "_law_mixed" 2 ["_law_script", "_law_k"] (eF K)):df P w K mg base (cA P w) "_law_any" 3 ["_law_script", "_law_start", "_law_many"] (wm K):=by
 refine D.ef cY (fun vs H Q E h=>?_) (fun f de A outer s H vs Q E hr h=>?_)
 ·obtain ⟨a,ns,st,n,rfl,_⟩:=h; rfl
 ·obtain ⟨a,ns,st,n,rfl,hS,U1,U0,EO,NU,q⟩:=h
  refine ⟨_,(ag (fF (i:=3) cY.nd rfl (by first | exact Or.inl rfl | exact Or.inr rfl) (tg:=["_law_k"]) (fr:=[]) (by walk_at "blk_ok") rfl (bV rfl T.range (aa (pv 2) af)) (fun _ _ _ _ _=>(aJ (i:=0) (show [("_law_k" : Str)].Nodup by decide +kernel) rfl (by first | exact Or.inl rfl | exact Or.inr rfl))) (fun _ _ _ _ _=>cU) (fun _ _ _ _ _=>(bz af)))
   (ag (aB (i:=4) cY.nd rfl (by first | exact Or.inl rfl | exact Or.inr rfl) (aA cR ao (aA bw (aG bj hr bx (aa (pv 0) (aa (pv 1) af))) ao)))
   (ag (b9 PassesOwn.never rfl (bV rfl T.range (aa (pv 2) af)) (aJ (i:=5) cY.nd rfl (by first | exact Or.inl rfl | exact Or.inr rfl))
   (ak (b9 PassesOwn.never rfl (bV rfl T.range (aa (pv 5) af)) (aJ (i:=6) cY.nd rfl (by first | exact Or.inl rfl | exact Or.inr rfl))
   (ag (aB (i:=7) cY.nd rfl (by first | exact Or.inl rfl | exact Or.inr rfl) (aG bj hr bx (aa (pv 0) (aa (aA cR (aA cR (aA cR (pv 1) ao) (aA fH ao (pv 5))) (pv 6)) af))))
   (ak (bF (aK mQ (aA bw (pv 7) (pv 4)) ao (aW _)) (ag (bR (cN PySem.F.plainAttrs_list PySem.F.slot_list_insert PySem.F.type_list_insert eD (aV aD (pv 3) (pv 5) (fun _ _=>rfl)) (aa (aA bw (aA cQ (pv 7) ao) (aA cR (av aM (by rfl) T.len aZ (aa (aV aD (pv 3) (pv 5) (fun _ _=>rfl)) af)) ao)) (aa (pv 6) af))))
   (ak (bR (cN PySem.F.plainAttrs_list PySem.F.slot_list_insert PySem.F.type_list_insert eD (aV aD (pv 3) (pv 6) (fun _ _=>rfl)) (aa (aA bw (aA cQ (pv 7) ao) (aA cR (av aM (by rfl) T.len aZ (aa (aV aD (pv 3) (pv 6) (fun _ _=>rfl)) af)) ao)) (aa (pv 5) af)))))) aR))))))
   (ak (aU (pv 3)))))),?_⟩
  dsimp only [dX]
  walk_at "rd"
  refine dS ?_
  refine ⟨_,rfl,n,rfl,by omega,by omega,fun acc bT=>fO (fun i σ' ys H1=>∃ (as:List Addr) (v:Option V),σ' = [v]∧ys = as.map V.ref∧as.length = i∧ah H H1∧H1 acc = some (.lst ys)∧(acc :: as).Nodup∧(∀ b∈acc :: as,H b = none)∧∀ b∈as,H1 b = some (.lst [])) ⟨[],none,rfl,rfl,rfl,ah.upd bT,ae,by simp,by simpa using bT,by simp⟩ ?_ ?_⟩
  ·rintro i σ' ys H1 hi ⟨as,v,rfl,rfl,rfl,e1,h1,nd,fr,hb⟩
   walk_at "rd"
   refine ⟨Nat.zero_le _,fun p hp=>⟨by rw [aq (aw h1 hp)]; exact h1,by rw [List.length_map]; exact ax (by omega),eW hi ⟨as ++ [p],_,rfl,by simp,by simp,ah.fresh (ah.fresh e1 (e1.free hp)) bT,ae,?_,?_,?_⟩⟩⟩
   ·have np:p∉acc :: as:=fun z=>by
     rcases List.mem_cons.mp z with z | z
     ·rw [z,h1] at hp; cases hp
     ·rw [hb p z] at hp; cases hp
    have:=List.nodup_cons.mpr ⟨np,nd⟩
    have pm:(acc :: (as ++ [p])).Perm (p :: acc :: as):=by
     have:acc :: (as ++ [p]) = (acc :: as) ++ [p]:=rfl
     rw [this]
     exact List.perm_append_singleton _ _
    exact pm.nodup_iff.mpr this
   ·intro b o6
    rcases List.mem_cons.mp o6 with z | z
    ·rw [z]; exact bT
    ·rcases List.mem_append.mp z with z | z
     ·exact fr b (List.mem_cons_of_mem _ z)
     ·rw [List.mem_singleton.mp z]; exact e1.free hp
   ·intro b o6
    have ba:b≠acc:=fun z=>by
     subst z
     rcases List.mem_append.mp o6 with z | z
     ·exact (List.nodup_cons.mp nd).1 z
     ·exact aw h1 hp (List.mem_singleton.mp z)
    rw [aq ba]
    rcases List.mem_append.mp o6 with z | z
    ·rw [aq (aw (hb b z) hp)]; exact hb b z
    ·rw [List.mem_singleton.mp z]; exact ae
  ·rintro σ' ys H1 ⟨as,v,rfl,rfl,has,e1,h1,nd,fr,hb⟩
   walk_at "rd"
   refine ⟨a,ns,st,rfl,e1.seq hS,by omega,by omega,fun n1 a0 a1=>?_⟩
   have O2:(0:Int) < 2 + n1 % 3:=by omega
   walk_at "rd"
   generalize 2 + n1 % 3 = th at O2 ⊢
   refine dq ?_
   refine ⟨_,rfl,n,rfl,by omega,by omega,dc (fun i σ H1=>∃ (L:List (List Int)) (v5 v6 v7:Option V),σ = [some (.ref a),some (.int st),some (.int n),some (.ref acc),some (.int th),v5,v6,v7]∧ah H H1∧aN H1 acc as L∧Made n.toNat i 0 L) ⟨List.replicate n.toNat [],none,none,none,rfl,e1,⟨h1,by simp [has],fun i b l h2 h3=>?_⟩,Made.start (by simp) fun i l h=>?_⟩ ?_ ?_⟩
   ·rw [List.getElem?_replicate] at h3
    split at h3
    ·cases h3; exact hb b (List.mem_of_getElem? h2)
    ·cases h3
   ·rw [List.getElem?_replicate] at h
    split at h
    ·cases h; rfl
    ·cases h
   ·rintro i σ H2 hi ⟨L,v5,v6,v7,rfl,e2,g2,m2⟩
    simp only [Int.zero_add]
    walk_at "rd"
    refine dq ?_
    refine ⟨_,rfl,(i:Int),rfl,by omega,by omega,?_⟩
    rw [Int.toNat_natCast]
    refine dc (fun j σ H1=>∃ (L:List (List Int)) (v6 v7:Option V),σ = [some (.ref a),some (.int st),some (.int n),some (.ref acc),some (.int th),some (.int (i:Int)),v6,v7]∧ah H H1∧aN H1 acc as L∧Made n.toNat i j L) ⟨L,v6,v7,rfl,e2,g2,m2⟩ ?_ ?_
    ·rintro j σ H3 hj ⟨L3,w6,w7,rfl,e3,g3,m3⟩
     simp only [Int.zero_add]
     walk_at "rd"
     refine ⟨a,ns,_,rfl,e3.seq hS,by omega,by omega,fun nb b0 b1=>?_⟩
     walk_at "rd"
     refine gL (fun _=>?_) (fun _=>?_)
     ·have hL:=m3.len
      obtain ⟨p1,l1,Bg,iz,CF⟩:=g3.at (i:=i) (by omega)
      obtain ⟨p2,l2,Bf,jq,RP⟩:=g3.at (i:=j) (by omega)
      have z1:=m3.small iz
      have z2:=m3.small jq
      have Qs:p2≠p1:=fun z=>by
       subst z
       obtain ⟨q1,w1⟩:=List.getElem?_eq_some_iff.mp Bg
       obtain ⟨q2,w2⟩:=List.getElem?_eq_some_iff.mp Bf
       exact Nat.ne_of_lt hj ((List.getElem_inj (List.nodup_cons.mp nd).2).mp (w2.trans w1.symm))
      walk_at "rd"
      refine aS (ay.of g3.top) (g3.ix Bg) ?_
      refine ⟨.inl ⟨rfl,_,ay.of CF⟩,?_⟩
      walk_at "rd"
      refine aS (ay.of g3.top) (g3.ix Bg) ?_
      walk_at "rd"
      refine ⟨_,_,rfl,.inl ⟨_,ay.of CF,rfl⟩,?_⟩
      rw [List.length_map]
      have qj:(0:Int) < (l1.length:Int) + 1:=by omega
      walk_at "rd"
      have d0:=Int.emod_nonneg (nb / 12) (show (l1.length:Int) + 1≠0 by omega)
      have d1:=Int.emod_lt_of_pos (nb / 12) qj
      generalize nb / 12 % ((l1.length:Int) + 1) = k1 at d0 d1 ⊢
      refine fi (k:=k1.toNat) (by omega) CF (by rw [List.length_map]; omega) (by rw [List.length_map]; exact ax (by omega)) ?_
      rw [map_put]
      have g4:=g3.set (l':=put l1 k1.toNat (j:Int)) nd Bg
      have kS:H p1 = none:=fr p1 (List.mem_cons_of_mem _ (List.mem_of_getElem? Bg))
      have vk:H p2 = none:=fr p2 (List.mem_cons_of_mem _ (List.mem_of_getElem? Bf))
      have CD:upd H3 p1 (.lst ((put l1 k1.toNat (j:Int)).map V.int)) p2 = some (.lst (l2.map V.int)):=by rw [aq Qs]; exact RP
      have e4:ah H (upd H3 p1 (.lst ((put l1 k1.toNat (j:Int)).map V.int))):=ah.fresh e3 kS
      walk_at "rd"
      refine aS (ay.of g4.top) (g4.ix Bf) ?_
      refine ⟨.inl ⟨rfl,_,ay.of CD⟩,?_⟩
      walk_at "rd"
      refine aS (ay.of g4.top) (g4.ix Bf) ?_
      walk_at "rd"
      refine ⟨_,_,rfl,.inl ⟨_,ay.of CD,rfl⟩,?_⟩
      rw [List.length_map]
      have oD:(0:Int) < (l2.length:Int) + 1:=by omega
      walk_at "rd"
      have c0:=Int.emod_nonneg (nb / 128) (show (l2.length:Int) + 1≠0 by omega)
      have c1:=Int.emod_lt_of_pos (nb / 128) oD
      generalize nb / 128 % ((l2.length:Int) + 1) = k2 at c0 c1 ⊢
      refine fi (k:=k2.toNat) (by omega) CD (by rw [List.length_map]; omega) (by rw [List.length_map]; exact ax (by omega)) ?_
      rw [map_put]
      exact ⟨_,_,_,rfl,ah.fresh e4 vk,g4.set nd Bf,m3.step hj (by omega) iz jq⟩
     ·walk_at "rd"
      exact ⟨L3,_,_,rfl,e3,g3,m3.skip⟩
    ·rintro σ H3 ⟨L3,w6,w7,rfl,e3,g3,m3⟩
     exact ⟨L3,_,_,_,rfl,e3,g3,m3.next⟩
   ·rintro σ H2 ⟨L,v5,v6,v7,rfl,e2,g2,m2⟩
    walk_at "rd"
    exact q acc as L H2 e2 g2 nd fr (by have:=m2.len; omega) m2.map
theorem bc:aQ ["_law_orders", "_law_gone", "_law_found", "_law_one", "_law_other", "_law_ring", "_law_here", "_law_there", "_law_order"] ["_law_orders"] (aj bM):=⟨rfl,rfl,rfl,by decide +kernel,rfl,by decide +kernel,by decide +kernel⟩
theorem lO (D:Def K mg "_law_rings" bM ["_law_orders"]) (T:Txt K mg Z):df P w K mg base (cA P w) "_law_rings" 1 ["_law_orders"] jV:=by
 refine D.ef bc (fun vs H Q E h=>?_) (fun f de A outer s H vs Q E hr h=>?_)
 ·obtain ⟨p,as,L,rfl,_⟩:=h; rfl
 ·obtain ⟨p,as,L,rfl,g,im,hn,hd,q⟩:=h
  refine ⟨_,(ag (aB (i:=1) bc.nd rfl (by first | exact Or.inl rfl | exact Or.inr rfl) pV)
   (ag (aB (i:=2) bc.nd rfl (by first | exact Or.inl rfl | exact Or.inr rfl) (bz af))
   (ag (b9 PassesOwn.never rfl (bV rfl T.range (aa (av aM (by rfl) T.len aZ (aa (pv 0) af)) af)) (aJ (i:=3) bc.nd rfl (by first | exact Or.inl rfl | exact Or.inr rfl))
   (ak (b9 PassesOwn.never rfl (bK (aV aD (pv 0) (pv 3) (fun _ _=>rfl))) (aJ (i:=4) bc.nd rfl (by first | exact Or.inl rfl | exact Or.inr rfl))
   (ak (bF (rM (iU (qh hr) (fY (aa (pv 3) (aa (pv 4) af))) (pv 1))) (ag (aB (i:=5) bc.nd rfl (by first | exact Or.inl rfl | exact Or.inr rfl) (bz af))
   (ag (aB (i:=6) bc.nd rfl (by first | exact Or.inl rfl | exact Or.inr rfl) (pv 3))
   (ag (aB (i:=7) bc.nd rfl (by first | exact Or.inl rfl | exact Or.inr rfl) (pv 4))
   (ag (pP PassesOwn.never (rM (iU (qh hr) (fY (aa (pv 6) (aa (pv 7) af))) (pv 1))) (ag (tT (qh hr) (pv 1) (fY (aa (pv 6) (aa (pv 7) af))) fo rfl)
   (ag (bR (cN PySem.F.plainAttrs_list PySem.F.slot_list_append PySem.F.type_list_append cK (pv 5) (aa (pv 6) af)))
   (ag (aB (i:=8) bc.nd rfl (by first | exact Or.inl rfl | exact Or.inr rfl) (aV aD (pv 0) (pv 7) (fun _ _=>rfl)))
   (ak (B1 (i:=6) (j:=7) rfl bc.nd rfl rfl (by decide) rfl rfl (aa (pv 7) (aa (aV aD (pv 8) (aA gJ (cN PySem.F.plainAttrs_list PySem.F.slot_list_index PySem.F.type_list_index dM (pv 8) (aa (pv 6) af)) ao) (fun _ _=>rfl)) af)) rfl))))))
   (ak (bR (cN PySem.F.plainAttrs_list PySem.F.slot_list_append PySem.F.type_list_append cK (pv 2) (aa (pv 5) af)))))))) aR)))))
   (ak (aU (pv 2)))))),?_⟩
  dsimp only [dX]
  walk_at "rd"
  intro gd CO
  walk_at "rd"
  refine ⟨Nat.zero_le _,fun t ht=>?_⟩
  have tH:H t = none:=(ah.upd CO).free ht
  have e0:ah H (upd (upd H gd (.dT [])) t (.lst [])):=(ah.upd CO).trans (ah.upd ht)
  have g0:upd (upd H gd (.dT [])) t (.lst []) gd = some (.dT (kD [])):=by rw [aq (aw ae ht)]; exact ae
  have t0:aN (upd (upd H gd (.dT [])) t (.lst [])) t [] []:=⟨ae,rfl,fun i a l z=>by simp at z⟩
  generalize upd (upd H gd (.dT [])) t (.lst []) = H0 at e0 g0 t0 ⊢
  walk_at "rd"
  refine dq ?_
  refine ⟨_,rfl,_,_,rfl,.inl ⟨_,ay.of (e0 _ _ g.top),rfl⟩,(L.length:Int),by rw [List.length_map,g.len],by omega,by omega,?_⟩
  rw [Int.toNat_natCast]
  refine dc (fun i σ H1=>∃ (bs:List Addr) (R:List (List au)) (v3 v4 v5 v6 v7 v8:Option V),σ = [some (.ref p),some (.ref gd),some (.ref t),v3,v4,v5,v6,v7,v8]∧ah H H1∧H1 gd = some (.dT (kD R.flatten))∧aN H1 t bs (R.map fun c=>c.map (·.1))∧(t :: bs).Nodup∧(∀ b∈t :: bs,H b = none)∧Dp L R∧∀ d,Dt L d→d.1 < i→d∈R.flatten)
   ⟨[],[],none,none,none,none,none,none,rfl,e0,g0,t0,by simp,by simpa using tH,Dp.start,fun d h1 h2=>by have:=h1.lo; omega⟩ ?_ ?_
  ·rintro i σ H1 hi ⟨bs,R,v3,v4,v5,v6,v7,v8,rfl,e1,g1,t1,mT,kS,xB,yO⟩
   obtain ⟨b,l,ha,hl,eP⟩:=g.at hi
   simp only [Int.zero_add]
   have el:rowOf L (i:Int) = l:=by
    have:=aE (L:=L) (a:=(i:Int)) (by omega) (by omega)
    rw [Int.toNat_natCast,hl] at this
    exact (Option.some.inj this).symm
   walk_at "rd"
   refine dq ?_
   refine ⟨_,rfl,_,rfl,aS (ay.of (e1 _ _ g.top)) (g.ix ha) ?_⟩
   refine ⟨b,rfl,⟨_,ay.of (e1 _ _ eP)⟩,du (K:=K) (a:=b) (xs:=l.map V.int) (fun k σ H3=>∃ (bs:List Addr) (R:List (List au)) (v4 v5 v6 v7 v8:Option V),σ = [some (.ref p),some (.ref gd),some (.ref t),some (.int (i:Int)),v4,v5,v6,v7,v8]∧ah H H3∧H3 gd = some (.dT (kD R.flatten))∧aN H3 t bs (R.map fun c=>c.map (·.1))∧(t :: bs).Nodup∧(∀ b∈t :: bs,H b = none)∧Dp L R∧∀ d,Dt L d→d.1 < i∨d.1 = i∧d.2∈l.take k→d∈R.flatten)
    ⟨bs,R,v4,v5,v6,v7,v8,rfl,e1,g1,t1,mT,kS,xB,fun d h1 h2=>yO d h1 (h2.elim id fun z=>by simp at z)⟩ (fun k σ H3 _ ⟨_,_,_,_,_,_,_,_,e,_⟩=>ay.of (e _ _ eP)) ?_ ?_⟩
   ·clear bs R v3 v4 v5 v6 v7 v8 e1 g1 t1 mT kS xB yO
    rintro k x σ H3 hx ⟨bs,R,v4,v5,v6,v7,v8,rfl,e3,g3,t3,xx,vO,vK,vt⟩
    obtain ⟨y,hy,rfl⟩:∃ y,l[k]? = some y∧x = V.int y:=by
     rw [List.getElem?_map] at hx
     cases e:l[k]? with
     | none=>rw [e] at hx; cases hx
     | some z=>rw [e] at hx; exact ⟨z,rfl,(Option.some.inj hx).symm⟩
    have dt:Dt L ((i:Int),y):=⟨by simp,by simpa using hi,by rw [el]; exact List.mem_of_getElem? hy⟩
    walk_at "rd"
    intro q1 Ko
    have e4:ah H3 (upd H3 q1 (.tup [.int i,.int y])):=ah.upd Ko
    have k4:upd H3 q1 (.tup [.int i,.int y]) q1 = some (.tup ((gz ((i:Int),y)).map kV)):=ae
    generalize upd H3 q1 (.tup [.int i,.int y]) = H4 at e4 k4 ⊢
    refine ⟨_,rfl,gd,_,rfl,jd.t (k:=gz ((i:Int),y)) (e4 _ _ g3) k4,?_⟩
    rw [fe]
    walk_at "rd"
    refine gL (fun GF=>?_) (fun Kc=>?_)
    ·obtain ⟨n,n0,ek,nr⟩:=kX im dt
     have dp:=vK.add im dt n0 ek nr GF
     have lb:=dp.len
     have lf:=Dp.uq fun c hc=>(vK.jt c hc).ne
     rw [List.flatten_append,List.flatten_singleton,List.length_append] at lb
     have tn:∀ j,(tr L ((i:Int),y) j).length = j:=fun j=>by unfold tr; simp
     rw [tn] at lb
     walk_at "rd"
     refine ⟨Nat.zero_le _,fun r yI=>?_⟩
     have g4:=e4 _ _ g3
     have t4:=t3.same e4
     have nc:=t4.ft yI
     have rH:H r = none:=(e3.trans e4).free yI
     have e5:ah H (upd H4 r (.lst [])):=(e3.trans e4).trans (ah.upd yI)
     have g5:upd H4 r (.lst []) gd = some (.dT (kD (R.flatten ++ tr L ((i:Int),y) 0))):=by
      rw [aq (aw g4 yI),show tr L ((i:Int),y) 0 = [] from rfl,List.append_nil]; exact g4
     have t5:=t4.same (ah.upd (o:=.lst []) yI)
     have r5:upd H4 r (.lst []) r = some (.lst ((az L ((i:Int),y) 0).map V.int)):=ae
     generalize upd H4 r (.lst []) = H5 at e5 g5 t5 r5 ⊢
     walk_at "rd"
     refine sZ (fun σ H6=>∃ (j:Nat) (v8:Option V),σ = [some (.ref p),some (.ref gd),some (.ref t),some (.int (i:Int)),some (.int y),some (.ref r),some (.int (it L ((i:Int),y) j).1),some (.int (it L ((i:Int),y) j).2),v8]∧j≤n∧ah H H6∧H6 gd = some (.dT (kD (R.flatten ++ tr L ((i:Int),y) j)))∧aN H6 t bs (R.map fun c=>c.map (·.1))∧H6 r = some (.lst ((az L ((i:Int),y) j).map V.int)))
      (fun _ H6=>match H6 r with | some (.lst xs)=>n - xs.length | _=>0) ⟨0,v8,rfl,Nat.zero_le _,e5,g5,t5,r5⟩ ?_
     rintro σ H6 ⟨j,w8,rfl,hj,e6,g6,t6,r6⟩
     walk_at "rd"
     intro q7 RS
     have e7:ah H6 (upd H6 q7 (.tup [.int (it L ((i:Int),y) j).1,.int (it L ((i:Int),y) j).2])):=ah.upd RS
     have k7:upd H6 q7 (.tup [.int (it L ((i:Int),y) j).1,.int (it L ((i:Int),y) j).2]) q7 = some (.tup ((gz (it L ((i:Int),y) j)).map kV)):=ae
     generalize upd H6 q7 (.tup [.int (it L ((i:Int),y) j).1,.int (it L ((i:Int),y) j).2]) = H7 at e7 k7 ⊢
     have g7:=e7 _ _ g6
     have t7:=t6.same e7
     have r7:=e7 _ _ r6
     refine ⟨_,rfl,gd,_,rfl,jd.t (k:=gz (it L ((i:Int),y) j)) g7 k7,?_⟩
     rw [fe]
     have rl:∀ j,((az L ((i:Int),y) j).map V.int).length = j:=fun j=>by unfold az; simp
     have ts:tr L ((i:Int),y) (j + 1) = tr L ((i:Int),y) j ++ [it L ((i:Int),y) j]:=by unfold tr; rw [List.range_succ,List.map_append]; rfl
     walk_at "rd"
     refine gL (fun xT=>?_) (fun hold=>?_)
     ·have jn:j < n:=by
       refine Nat.lt_of_le_of_ne hj fun z=>xT (List.mem_append_right _ ?_)
       rw [z,ek]
       exact List.mem_map.mpr ⟨0,List.mem_range.mpr n0,rfl⟩
      have SW:=jk im dt j
      obtain ⟨b0,b1,b2,b3⟩:=SW.back im
      obtain ⟨c2,l2,Tq,OA,LQ⟩:=g.at (i:=(it L ((i:Int),y) j).2.toNat) (by omega)
      have SM:l2 = rowOf L (it L ((i:Int),y) j).2:=by rw [aE b0 b1] at OA; exact (Option.some.inj OA).symm
      subst SM
      have i2:mh (as.map V.ref) (it L ((i:Int),y) j).2 = some (V.ref c2):=by
       have:=g.ix Tq
       rwa [Int.toNat_of_nonneg b0] at this
      refine w_turn ?_
      rw [r6]
      dsimp only
      walk_at "rd"
      intro q8 RQ
      have e8:ah H7 (upd H7 q8 (.tup [.int (it L ((i:Int),y) j).1,.int (it L ((i:Int),y) j).2])):=ah.upd RQ
      have k8:upd H7 q8 (.tup [.int (it L ((i:Int),y) j).1,.int (it L ((i:Int),y) j).2]) q8 = some (.tup ((gz (it L ((i:Int),y) j)).map kV)):=ae
      generalize upd H7 q8 (.tup [.int (it L ((i:Int),y) j).1,.int (it L ((i:Int),y) j).2]) = H8 at e8 k8 ⊢
      have g8:=e8 _ _ g7
      refine ⟨gd,_,rfl,qS.t (k:=gz (it L ((i:Int),y) j)) g8 k8 ?_,?_⟩
      ·rw [xN,List.length_append,tn]
       exact ax (by omega)
      ·rw [pO xT,List.append_assoc,← ts]
       have e9:ah H (upd H8 gd (.dT (kD (R.flatten ++ tr L ((i:Int),y) (j + 1))))):=ah.fresh ((e6.trans e7).trans e8) CO
       have g9:upd H8 gd (.dT (kD (R.flatten ++ tr L ((i:Int),y) (j + 1)))) gd = some (.dT (kD (R.flatten ++ tr L ((i:Int),y) (j + 1)))):=ae
       have t9:=(t7.same e8).other (o:=.dT (kD (R.flatten ++ tr L ((i:Int),y) (j + 1)))) g8
       have r8:=e8 _ _ r7
       have r9:upd H8 gd (.dT (kD (R.flatten ++ tr L ((i:Int),y) (j + 1)))) r = some (.lst ((az L ((i:Int),y) j).map V.int)):=by
        rw [aq (fun z=>by rw [z,g8] at r8; cases r8)]; exact r8
       generalize upd H8 gd (.dT (kD (R.flatten ++ tr L ((i:Int),y) (j + 1)))) = H9 at e9 g9 t9 r9 ⊢
       walk_at "rd"
       refine ⟨.inl ⟨rfl,_,ay.of r9⟩,?_⟩
       walk_at "rd"
       refine dJ r9 (by rw [rl]; exact ax (by omega)) ?_
       have er:(az L ((i:Int),y) j).map V.int ++ [V.int (it L ((i:Int),y) j).1] = (az L ((i:Int),y) (j + 1)).map V.int:=by
        unfold az
        rw [List.range_succ,List.map_append,List.map_append]
        rfl
       rw [er]
       have eA:ah H (upd H9 r (.lst ((az L ((i:Int),y) (j + 1)).map V.int))):=ah.fresh e9 rH
       have gA:upd H9 r (.lst ((az L ((i:Int),y) (j + 1)).map V.int)) gd = some (.dT (kD (R.flatten ++ tr L ((i:Int),y) (j + 1)))):=by
        rw [aq (fun z=>by rw [← z,g9] at r9; cases r9)]; exact g9
       have tA:aN (upd H9 r (.lst ((az L ((i:Int),y) (j + 1)).map V.int))) t bs (R.map fun c=>c.map (·.1)):=t9.away nc
       have rA:upd H9 r (.lst ((az L ((i:Int),y) (j + 1)).map V.int)) r = some (.lst ((az L ((i:Int),y) (j + 1)).map V.int)):=ae
       generalize upd H9 r (.lst ((az L ((i:Int),y) (j + 1)).map V.int)) = HA at eA gA tA rA ⊢
       walk_at "rd"
       refine aS (ay.of (eA _ _ g.top)) i2 ?_
       walk_at "rd"
       refine ⟨.inl ⟨rfl,_,ay.of (eA _ _ LQ)⟩,?_⟩
       walk_at "rd"
       refine ⟨c2,_,_,rfl,rfl,eA _ _ LQ,b3,?_⟩
       walk_at "rd"
       refine aS (ay.of (eA _ _ LQ)) (uC b3) ?_
       walk_at "rd"
       refine ⟨_,_,rfl,⟨j + 1,_,rfl,jn,eA,gA,tA,rA⟩,?_⟩
       rw [rA]
       dsimp only
       rw [rl,rl]
       omega
     ·have jn:j = n:=by
       refine Nat.le_antisymm hj (Nat.le_of_not_lt fun z=>?_)
       rcases List.mem_append.mp hold with w | w
       ·exact vK.new n0 ek GF j w
       ·have nd:=hV im dt nr
        have ej:(tr L ((i:Int),y) n)[j]? = some (it L ((i:Int),y) j):=by unfold tr; simp [z]
        have:=d9 (A:=[]) (by simpa using nd) ej
        refine this ?_
        have et:(tr L ((i:Int),y) n).take j = tr L ((i:Int),y) j:=by
         unfold tr
         rw [← List.map_take,List.take_range,Nat.min_eq_left (by omega)]
        rw [et]
        exact List.mem_append_right _ w
      subst jn
      have SU:=e6.trans e7
      walk_at "rd"
      refine ⟨.inl ⟨rfl,_,ay.of t7.top⟩,?_⟩
      walk_at "rd"
      have zb:=t7.len
      rw [List.length_map] at zb
      refine dJ t7.top (by rw [List.length_map]; exact ax (by omega)) ?_
      have EB:r≠t:=fun z=>nc (z▸List.mem_cons_self)
      have er:az L ((i:Int),y) j = (tr L ((i:Int),y) j).map (·.1):=by unfold az tr; rw [List.map_map]; rfl
      rw [er] at r7
      have t8:=t7.snoc (List.nodup_cons.mp xx).1 EB r7
      have g8:upd H7 t (.lst (bs.map V.ref ++ [.ref r])) gd = some (.dT (kD (R.flatten ++ tr L ((i:Int),y) j))):=by
       rw [aq (fun z=>by have:=t7.top; rw [← z,g7] at this; cases this)]; exact g7
      refine ⟨bs ++ [r],R ++ [tr L ((i:Int),y) j],_,_,_,_,_,rfl,ah.fresh SU tH,?_,?_,?_,fun b hb=>?_,dp,fun d h1 h2=>?_⟩
      ·rw [List.flatten_append,List.flatten_singleton]; exact g8
      ·rw [List.map_append]; exact t8
      ·obtain ⟨n1,n2⟩:=List.nodup_cons.mp xx
       refine List.nodup_cons.mpr ⟨fun z=>?_,fg.mpr ⟨fun z=>nc (List.mem_cons_of_mem _ z),n2⟩⟩
       rcases List.mem_append.mp z with z | z
       ·exact n1 z
       ·exact EB (List.mem_singleton.mp z).symm
      ·rcases List.mem_cons.mp hb with z | z
       ·rw [z]; exact tH
       ·rcases List.mem_append.mp z with z | z
        ·exact vO b (List.mem_cons_of_mem _ z)
        ·rw [List.mem_singleton.mp z]; exact rH
      ·rw [List.flatten_append,List.flatten_singleton]
       rw [take_snoc hy] at h2
       by_cases z:d = ((i:Int),y)
       ·rw [z]
        exact List.mem_append_right _ (List.mem_map.mpr ⟨0,List.mem_range.mpr n0,rfl⟩)
       ·refine List.mem_append_left _ (vt d h1 ?_)
        rcases h2 with h2 | ⟨h2,h3⟩
        ·exact .inl h2
        ·rcases List.mem_append.mp h3 with h3 | h3
         ·exact .inr ⟨h2,h3⟩
         ·exact absurd (Prod.ext h2 (List.mem_singleton.mp h3)) z
    ·refine ⟨bs,R,_,_,_,_,_,rfl,e3.trans e4,e4 _ _ g3,t3.same e4,xx,vO,vK,fun d h1 h2=>?_⟩
     rw [take_snoc hy] at h2
     rcases h2 with h2 | ⟨h2,h3⟩
     ·exact vt d h1 (.inl h2)
     ·rcases List.mem_append.mp h3 with h3 | h3
      ·exact vt d h1 (.inr ⟨h2,h3⟩)
      ·rw [show d = ((i:Int),y) from Prod.ext h2 (List.mem_singleton.mp h3)]; exact Kc
   ·rintro σ H3 ⟨bs,R,v4,v5,v6,v7,v8,rfl,e3,g3,t3,xx,vO,vK,vt⟩
    rw [List.length_map,List.take_length] at vt
    refine ⟨bs,R,_,_,_,_,_,_,rfl,e3,g3,t3,xx,vO,vK,fun d h1 h2=>vt d h1 ?_⟩
    by_cases z:d.1 = i
    ·refine .inr ⟨z,?_⟩
     have:=h1.mem
     rw [z,el] at this
     exact this
    ·exact .inl (by omega)
  ·rintro σ H1 ⟨bs,R,v3,v4,v5,v6,v7,v8,rfl,e1,g1,t1,mT,kS,xB,yO⟩
   walk_at "rd"
   exact q t bs R H1 e1 t1 mT kS (xB.dec fun d hd=>yO d hd hd.hi)
theorem dR:aQ ["_law_orders", "_law_ring", "_law_one", "_law_other", "_law_first", "_law_second"] ["_law_orders", "_law_ring", "_law_one", "_law_other"] (aj bp):=⟨rfl,rfl,rfl,by decide +kernel,rfl,by decide +kernel,by decide +kernel⟩
theorem jx (D:Def K mg "_law_put_tie" bp ["_law_orders", "_law_ring", "_law_one", "_law_other"]) (T:Txt K mg Z):df P w K mg base (cA P w) "_law_put_tie" 1 ["_law_orders", "_law_ring", "_law_one", "_law_other"] mG:=by
 refine D.ef dR (fun vs H Q E h=>?_) (fun f de A outer s H vs Q E hr h=>?_)
 ·obtain ⟨p,ra,as,L,r,i,j,rfl,_⟩:=h; rfl
 ·obtain ⟨p,ra,as,L,r,i,j,rfl,g,nd,mY,Gs,sh,gd,hi,hj,hn,q⟩:=h
  have im:=sh.map
  obtain ⟨F6,a0,a1,SO⟩:=eE gd im (c:=i)
  obtain ⟨F5,b0,b1,SN⟩:=eE gd im (c:=j)
  obtain ⟨ca,la,ha,uk,dO⟩:=g.at (i:=(cy r i).toNat) (by omega)
  obtain ⟨cb,lb,hb,Dq,NN⟩:=g.at (i:=(cy r j).toNat) (by omega)
  have SK:la = rowOf L (cy r i):=by rw [aE a0 a1] at uk; exact (Option.some.inj uk).symm
  have SJ:lb = rowOf L (cy r j):=by rw [aE b0 b1] at Dq; exact (Option.some.inj Dq).symm
  subst SK SJ
  have ia:mh (as.map V.ref) (cy r i) = some (V.ref ca):=by
   have:=g.ix ha
   rwa [Int.toNat_of_nonneg a0] at this
  have ib:mh (as.map V.ref) (cy r j) = some (V.ref cb):=by
   have:=g.ix hb
   rwa [Int.toNat_of_nonneg b0] at this
  have sa:(rowOf L (cy r i)).length≤L.length:=cZ (im.nd _ _ uk) fun y hy=>⟨(im.rg _ _ uk y hy).1,(im.rg _ _ uk y hy).2.1⟩
  have sb:(rowOf L (cy r j)).length≤L.length:=cZ (im.nd _ _ Dq) fun y hy=>⟨(im.rg _ _ Dq y hy).1,(im.rg _ _ Dq y hy).2.1⟩
  have ii:=List.idxOf_lt_length_of_mem F6
  have ij:=List.idxOf_lt_length_of_mem F5
  refine ⟨_,(ag (aB (i:=4) dR.nd rfl (by first | exact Or.inl rfl | exact Or.inr rfl) (aV aD (pv 1) (pv 2) (fun _ _=>rfl)))
   (ag (aB (i:=5) dR.nd rfl (by first | exact Or.inl rfl | exact Or.inr rfl) (aV aD (pv 1) (pv 3) (fun _ _=>rfl)))
   (ak (bF (PW.pt (pw_and (aK mQ (pv 4) (pv 5) (aW _)) (pw_and1 (aK d6 (pv 5) (aV aD (pv 0) (pv 4) (fun _ _=>rfl)) (by with_unfolding_all rfl))))) (ag (bR (cN PySem.F.plainAttrs_list PySem.F.slot_list_insert PySem.F.type_list_insert eD (aV aD (pv 0) (pv 4) (fun _ _=>rfl)) (aa (cN PySem.F.plainAttrs_list PySem.F.slot_list_index PySem.F.type_list_index dM (aV aD (pv 0) (pv 4) (fun _ _=>rfl)) (aa (aV aD (pv 1) (aA gJ (pv 2) ao) (fun _ _=>rfl)) af)) (aa (pv 5) af))))
   (ak (bR (cN PySem.F.plainAttrs_list PySem.F.slot_list_insert PySem.F.type_list_insert eD (aV aD (pv 0) (pv 5) (fun _ _=>rfl)) (aa (cN PySem.F.plainAttrs_list PySem.F.slot_list_index PySem.F.type_list_index dM (aV aD (pv 0) (pv 5) (fun _ _=>rfl)) (aa (aV aD (pv 1) (aA gJ (pv 3) ao) (fun _ _=>rfl)) af)) (aa (pv 4) af)))))) aR)))),?_⟩
  dsimp only [dX]
  walk_at "rd"
  refine aS (ay.of mY) (cg (j:=i) (by omega) (by omega) (.inl rfl)) ?_
  walk_at "rd"
  refine aS (ay.of mY) (cg (j:=j) (by omega) (by omega) (.inl rfl)) ?_
  walk_at "rd"
  refine gL (fun gM=>?_) (fun heq=>?_)
  ·walk_at "rd"
   refine aS (ay.of g.top) ia ?_
   refine zj (ay.of dO) ?_
   rw [if_pos rfl]
   walk_at "rd"
   refine gL (fun GG=>?_) (fun RB=>?_)
   ·have F:bJ L (cy r i) (cy r j) (put (rowOf L (cy r i)) ((rowOf L (cy r i)).idxOf (cy r (i + (r.length - 1)))) (cy r j)) (put (rowOf L (cy r j)) ((rowOf L (cy r j)).idxOf (cy r (j + (r.length - 1)))) (cy r i)):=by
     have Kx:cy r i∉rowOf L (cy r j):=fun z=>GG (Dt.back (d:=(cy r j,cy r i)) ⟨b0,b1,z⟩ im).2.2.2
     exact ⟨im,a0,a1,b0,b1,gM,GG,eG _ _ _,eG _ _ _,gq GG,gq Kx⟩
    have PB:=F.AU sh F6 F5 (jF F6 GG) (jF F5 F.Nd) (fun Pd h0 hs=>by
     rw [← SO] at h0
     rw [← SN]
     exact gd.on hs h0 _)
    walk_at "rd"
    refine aS (ay.of g.top) ia ?_
    refine ⟨.inl ⟨rfl,_,ay.of dO⟩,?_⟩
    walk_at "rd"
    refine aS (ay.of g.top) ia ?_
    refine ⟨.inl ⟨rfl,_,ay.of dO⟩,?_⟩
    walk_at "rd"
    refine aS (ay.of mY) (cg (j:=i + (r.length - 1)) (by omega) (by omega) (.inr (by omega))) ?_
    walk_at "rd"
    refine ⟨ca,_,_,rfl,rfl,dO,F6,?_⟩
    walk_at "rd"
    refine fi (k:=(rowOf L (cy r i)).idxOf (cy r (i + (r.length - 1)))) rfl dO (by rw [List.length_map]; omega) (by rw [List.length_map]; exact ax (by omega)) ?_
    rw [map_put]
    have FP:=List.mem_of_getElem? ha
    have Tp:=List.mem_of_getElem? hb
    have g1:=g.set nd (l':=put (rowOf L (cy r i)) ((rowOf L (cy r i)).idxOf (cy r (i + (r.length - 1)))) (cy r j)) ha
    have o1:∀ b o,b∉as→H b = some o→upd H ca (.lst ((put (rowOf L (cy r i)) ((rowOf L (cy r i)).idxOf (cy r (i + (r.length - 1)))) (cy r j)).map V.int)) b = some o:=fun b o o6 e=>by rw [jB FP o6]; exact e
    generalize upd H ca (.lst ((put (rowOf L (cy r i)) ((rowOf L (cy r i)).idxOf (cy r (i + (r.length - 1)))) (cy r j)).map V.int)) = H1 at g1 o1 ⊢
    have KH:(L.set (cy r i).toNat (put (rowOf L (cy r i)) ((rowOf L (cy r i)).idxOf (cy r (i + (r.length - 1)))) (cy r j)))[(cy r j).toNat]? = some (rowOf L (cy r j)):=by rw [List.getElem?_set_ne (by omega)]; exact Dq
    have oC:=g1.row _ _ _ hb KH
    have vc:=o1 _ _ Gs mY
    walk_at "rd"
    refine aS (ay.of g1.top) ib ?_
    refine ⟨.inl ⟨rfl,_,ay.of oC⟩,?_⟩
    walk_at "rd"
    refine aS (ay.of g1.top) ib ?_
    refine ⟨.inl ⟨rfl,_,ay.of oC⟩,?_⟩
    walk_at "rd"
    refine aS (ay.of vc) (cg (j:=j + (r.length - 1)) (by omega) (by omega) (.inr (by omega))) ?_
    walk_at "rd"
    refine ⟨cb,_,_,rfl,rfl,oC,F5,?_⟩
    walk_at "rd"
    refine fi (k:=(rowOf L (cy r j)).idxOf (cy r (j + (r.length - 1)))) rfl oC (by rw [List.length_map]; omega) (by rw [List.length_map]; exact ax (by omega)) ?_
    rw [map_put]
    have g2:=g1.set nd (l':=put (rowOf L (cy r j)) ((rowOf L (cy r j)).idxOf (cy r (j + (r.length - 1)))) (cy r i)) hb
    refine q _ _ (fun b o o6 e=>?_) g2 PB (by rw [List.length_set,List.length_set])
    rw [jB Tp o6]
    exact o1 b o o6 e
   ·exact q _ L (fun b o _ e=>e) g sh rfl
  ·walk_at "rd"
   exact q _ L (fun b o _ e=>e) g sh rfl
theorem ck:aQ ["_law_orders", "_law_ring", "_law_corners_here", "_law_many", "_law_at", "_law_order"] ["_law_orders", "_law_ring", "_law_corners_here"] (aj aY):=⟨rfl,rfl,rfl,by decide +kernel,rfl,by decide +kernel,by decide +kernel⟩
theorem ie (D:Def K mg "_law_put_place" aY ["_law_orders", "_law_ring", "_law_corners_here"]) (T:Txt K mg Z):df P w K mg base (cA P w) "_law_put_place" 1 ["_law_orders", "_law_ring", "_law_corners_here"] je:=by
 refine D.ef ck (fun vs H Q E h=>?_) (fun f de A outer s H vs Q E hr h=>?_)
 ·obtain ⟨p,ra,rc,as,L,r,cs,rfl,_⟩:=h; rfl
 ·obtain ⟨p,ra,rc,as,L,r,cs,rfl,g,nd,mY,Gs,jm,M9,UE,UD,jX,gd,Nm,c0,yq,Oz,Dx,Aq,hn,q⟩:=h
  have im:=jX.map
  have two:=gd.two
  have two2:=jX.two
  obtain ⟨c1,ct,sq⟩:∃ c1 ct,cs = c1 :: ct:=by cases cs with | nil=>exact absurd rfl c0 | cons a b=>exact ⟨a,b,rfl⟩
  refine ⟨_,(ag (aB (i:=3) ck.nd rfl (by first | exact Or.inl rfl | exact Or.inr rfl) (av aM (by rfl) T.len aZ (aa (pv 0) af)))
   (ag (b9 PassesOwn.never rfl (bK (pv 2)) (aJ (i:=4) ck.nd rfl (by first | exact Or.inl rfl | exact Or.inr rfl))
   (ag (aB (i:=5) ck.nd rfl (by first | exact Or.inl rfl | exact Or.inr rfl) (aV aD (pv 0) (aV aD (pv 1) (pv 4) (fun _ _=>rfl)) (fun _ _=>rfl)))
   (ak (bR (cN PySem.F.plainAttrs_list PySem.F.slot_list_insert PySem.F.type_list_insert eD (pv 5) (aa (cN PySem.F.plainAttrs_list PySem.F.slot_list_index PySem.F.type_list_index dM (pv 5) (aa (aV aD (pv 1) (aA gJ (pv 4) ao) (fun _ _=>rfl)) af)) (aa (pv 3) af)))))))
   (ak (bR (cN PySem.F.plainAttrs_list PySem.F.slot_list_append PySem.F.type_list_append cK (pv 0) (aa (fG (tg:=["_law_at"]) (fr:=[("_law_ring",1)]) (by walk_at "blk_ok") rfl (bK (pv 2)) (fun _ _ _ _ _=>(aJ (i:=0) (show [("_law_at" : Str),("_law_ring" : Str)].Nodup by decide +kernel) rfl (by first | exact Or.inl rfl | exact Or.inr rfl))) (fun _ _ _ _ _=>cU) (fun _ _ _ _ _=>(aV (fv (K:=K) rfl) (pv 1) (pv 0) (fun _ _=>rfl)))) af)))))),?_⟩
  dsimp only [dX]
  walk_at "rd"
  refine ⟨_,_,rfl,.inl ⟨_,ay.of g.top,rfl⟩,?_⟩
  rw [List.length_map,g.len]
  walk_at "rd"
  refine dq ?_
  refine ⟨_,rfl,rc,rfl,⟨_,ay.of jm⟩,du (K:=K) (a:=rc) (xs:=(cs.map fun c:Nat=>(c:Int)).map V.int) (fun k σ H1=>∃ (G:List (List Int)) (v4 v5:Option V),σ = [some (.ref p),some (.ref ra),some (.ref rc),some (.int (L.length:Int)),v4,v5]∧(∀ b o,b∉as→H b = some o→H1 b = some o)∧aN H1 p as G∧((k = 0∧G = L)∨(∃ M cj,Pl L r c1 cj (cs.take k) M∧G = M.take L.length∧0 < k∧cs[k - 1]? = some cj)))
   ⟨L,none,none,rfl,fun _ _ _ e=>e,g,.inl ⟨rfl,rfl⟩⟩ (fun k σ H1 _ ⟨_,_,_,_,o,_⟩=>ay.of (o _ _ M9 jm)) ?_ ?_⟩
  ·rintro k x σ H1 hx ⟨G,v4,v5,rfl,o1,g1,st⟩
   obtain ⟨c,hc,rfl⟩:∃ c:Nat,cs[k]? = some c∧x = V.int (c:Int):=by
    rw [List.getElem?_map,List.getElem?_map] at hx
    cases e:cs[k]? with
    | none=>rw [e] at hx; cases hx
    | some z=>rw [e] at hx; exact ⟨z,rfl,(Option.some.inj hx).symm⟩
   have qo:=Oz c (List.mem_of_getElem? hc)
   obtain ⟨zm,x0,x1,ed⟩:=eE gd im (c:=c)
   have vc:=o1 _ _ Gs mY
   have un:∀ e∈cs.take k,cy r e≠cy r c:=fun e he z=>by
    have:=d9 (A:=[]) (B:=cs.map (cy r)) (j:=k) (x:=cy r c) (by simpa using Dx) (by rw [List.getElem?_map,hc]; rfl)
    refine this ?_
    rw [List.nil_append,← List.map_take,← z]
    exact List.mem_map.mpr ⟨e,he,rfl⟩
   have step:G[(cy r c).toNat]? = some (rowOf L (cy r c))∧∃ M,Pl L r c1 c (cs.take (k + 1)) M∧G.set (cy r c).toNat (put (rowOf L (cy r c)) ((rowOf L (cy r c)).idxOf (cy r (c + (r.length - 1)))) L.length) = M.take L.length:=by
    rcases st with ⟨rfl,rfl⟩ | ⟨M,cj,pl,rfl,k0,Oa⟩
    ·obtain ⟨F,pl⟩:=Pl.first jX gd Nm qo
     have ec:c1 = c:=by rw [sq] at hc; simpa using hc
     have e1:cs.take (0 + 1) = [c]:=by rw [sq,ec]; rfl
     rw [e1,ec]
     refine ⟨aE x0 x1,_,pl,?_⟩
     rw [mD (by rw [gb]) (by omega)]
     unfold eO
     rw [List.take_left]
    ·have lt:cj < c:=by
      obtain ⟨q1,w1⟩:=List.getElem?_eq_some_iff.mp Oa
      obtain ⟨q2,w2⟩:=List.getElem?_eq_some_iff.mp hc
      have:=List.pairwise_iff_getElem.mp yq (k - 1) k q1 q2 (by omega)
      rw [w1,w2] at this
      exact this
     obtain ⟨F,Gn⟩:=pl.next jX gd Nm lt qo un
     rw [take_snoc hc]
     refine ⟨?_,_,Gn,?_⟩
     ·rw [List.getElem?_take,if_pos (by omega),← pl.keep _ x0 x1 un]
      exact aE x0 (by rw [pl.len]; omega)
     ·rw [mD pl.len (by omega)]
   obtain ⟨gx,M,Qo,eM⟩:=step
   obtain ⟨ca,la,ha,uk,dO⟩:=g1.at (i:=(cy r c).toNat) (List.getElem?_eq_some_iff.mp gx).1
   rw [gx] at uk
   cases uk
   have ia:mh (as.map V.ref) (cy r c) = some (V.ref ca):=by
    have:=g1.ix ha
    rwa [Int.toNat_of_nonneg x0] at this
   have KI:=aE x0 x1
   have sa:(rowOf L (cy r c)).length≤L.length:=cZ (im.nd _ _ KI) fun y hy=>⟨(im.rg _ _ KI y hy).1,(im.rg _ _ KI y hy).2.1⟩
   have ii:=List.idxOf_lt_length_of_mem zm
   walk_at "rd"
   refine aS (ay.of vc) (cg (j:=c) (by omega) (by omega) (.inl rfl)) ?_
   refine aS (ay.of g1.top) ia ?_
   walk_at "rd"
   refine ⟨.inl ⟨rfl,_,ay.of dO⟩,?_⟩
   walk_at "rd"
   refine ⟨.inl ⟨rfl,_,ay.of dO⟩,?_⟩
   walk_at "rd"
   refine aS (ay.of vc) (cg (j:=c + (r.length - 1)) (by omega) (by omega) (.inr (by omega))) ?_
   walk_at "rd"
   refine ⟨ca,_,_,rfl,rfl,dO,zm,?_⟩
   walk_at "rd"
   refine fi (k:=(rowOf L (cy r c)).idxOf (cy r (c + (r.length - 1)))) rfl dO (by rw [List.length_map]; omega) (by rw [List.length_map]; exact ax (by omega)) ?_
   rw [map_put]
   have FP:=List.mem_of_getElem? ha
   have g2:=g1.set nd (l':=put (rowOf L (cy r c)) ((rowOf L (cy r c)).idxOf (cy r (c + (r.length - 1)))) L.length) ha
   rw [eM] at g2
   refine ⟨_,_,_,rfl,fun b o o6 e=>?_,g2,.inr ⟨M,c,Qo,rfl,by omega,by rw [Nat.add_sub_cancel]; exact hc⟩⟩
   rw [jB FP o6]
   exact o1 b o o6 e
  ·rintro σ H1 ⟨G,v4,v5,rfl,o1,g1,st⟩
   rw [List.length_map,List.length_map,List.take_length] at st
   rcases st with ⟨z,_⟩ | ⟨M,cj,pl,rfl,k0,Oa⟩
   ·exact absurd (List.length_eq_zero_iff.mp z) c0
   have vc:=o1 _ _ Gs mY
   have EM:=o1 _ _ M9 jm
   walk_at "rd"
   refine ⟨.inl ⟨rfl,_,ay.of g1.top⟩,?_⟩
   walk_at "rd"
   refine dS ?_
   refine ⟨_,rfl,rc,rfl,⟨_,ay.of EM⟩,fun acc bT=>?_⟩
   refine dC (K:=K) (a:=rc) (xs:=(cs.map fun c:Nat=>(c:Int)).map V.int) (fun i σ' ys H2=>∃ v:Option V,σ' = [v,some (.ref ra)]∧ah H1 H2∧H2 acc = some (.lst ys)∧ys = ((cs.take i).map (cy r)).map V.int)
    ⟨none,rfl,ah.upd bT,ae,rfl⟩ (fun i σ' ys H2 _ ⟨_,_,e,_⟩=>ay.of (e _ _ EM)) ?_ ?_
   ·rintro i x σ' ys H2 hx hi ⟨v,rfl,e2,a2,rfl⟩
    obtain ⟨c,hc,rfl⟩:∃ c:Nat,cs[i]? = some c∧x = V.int (c:Int):=by
     rw [List.getElem?_map,List.getElem?_map] at hx
     cases e:cs[i]? with
     | none=>rw [e] at hx; cases hx
     | some z=>rw [e] at hx; exact ⟨z,rfl,(Option.some.inj hx).symm⟩
    have qo:=Oz c (List.mem_of_getElem? hc)
    walk_at "rd"
    refine aS (ay.of (e2 _ _ vc)) (cg (j:=c) (by omega) (by omega) (.inl rfl)) ?_
    refine ⟨a2,by rw [List.length_map,List.length_map,List.length_take]; exact ax (by omega),eW hi ⟨_,rfl,ah.fresh e2 bT,ae,?_⟩⟩
    rw [take_snoc hc,List.map_append,List.map_append]
    rfl
   ·rintro σ' ys H2 ⟨v,rfl,e2,a2,rfl⟩
    rw [List.length_map,List.length_map,List.take_length] at a2
    have g2:=g1.same e2
    have Cd:=g1.ft bT
    have OM:acc≠p:=fun z=>Cd (z▸List.mem_cons_self)
    walk_at "rd"
    refine dJ g2.top (by rw [List.length_map,g.len]; exact ax (by omega)) ?_
    have g3:=g2.snoc (List.nodup_cons.mp nd).1 OM a2
    rw [← pl.new,uL pl.len] at g3
    have Mf:H acc = none:=by
     cases e:H acc with
     | none=>rfl
     | some o=>
      have:=o1 acc o (fun z=>Cd (List.mem_cons_of_mem _ z)) e
      rw [bT] at this
      cases this
    refine q _ M acc (fun b o hb e=>?_) Mf g3 ?_ pl.sh pl.len
    ·rw [jB (as:=p :: as) List.mem_cons_self hb]
     exact e2 _ _ (o1 b o (fun z=>hb (List.mem_cons_of_mem _ z)) e)
    ·obtain ⟨n1,n2⟩:=List.nodup_cons.mp nd
     refine List.nodup_cons.mpr ⟨fun z=>?_,fg.mpr ⟨fun z=>Cd (List.mem_cons_of_mem _ z),n2⟩⟩
     rcases List.mem_append.mp z with z | z
     ·exact n1 z
     ·exact OM (List.mem_singleton.mp z).symm
theorem bh:aQ ["_law_script", "_law_start", "_law_steps", "_law_orders", "_law_k", "_law_number", "_law_rings_here", "_law_ring", "_law_corners_here", "_law_at"] ["_law_script", "_law_start", "_law_steps"] (aj bP):=⟨rfl,rfl,rfl,by decide +kernel,rfl,by decide +kernel,by decide +kernel⟩
theorem lS (D:Def K mg "_law_grown" bP ["_law_script", "_law_start", "_law_steps"]) (T:Txt K mg Z) (bj:df P w K mg base (cA P w) "_law_mixed" 2 ["_law_script", "_law_k"] (eF K)) (fM:df P w K mg base (cA P w) "_law_rings" 1 ["_law_orders"] jV)
  (kP:df P w K mg base (cA P w) "_law_put_tie" 1 ["_law_orders", "_law_ring", "_law_one", "_law_other"] mG) (iW:df P w K mg base (cA P w) "_law_put_place" 1 ["_law_orders", "_law_ring", "_law_corners_here"] je):df P w K mg base (cA P w) "_law_grown" 3 ["_law_script", "_law_start", "_law_steps"] (pJ K):=by
 refine D.ef bh (fun vs H Q E h=>?_) (fun f de A outer s H vs Q E hr h=>?_)
 ·obtain ⟨a,ns,st,n,rfl,_⟩:=h; rfl
 ·obtain ⟨a,ns,st,n,rfl,hS,UB,UA,hn,q⟩:=h
  refine ⟨_,(ag (aB (i:=3) bh.nd rfl (by first | exact Or.inl rfl | exact Or.inr rfl) (bz (aa (bz (aa ao af)) (aa (bz (aa ao af)) af))))
   (ag (b9 PassesOwn.never rfl (bV rfl T.range (aa (pv 2) af)) (aJ (i:=4) bh.nd rfl (by first | exact Or.inl rfl | exact Or.inr rfl))
   (ag (aB (i:=5) bh.nd rfl (by first | exact Or.inl rfl | exact Or.inr rfl) (aG bj hr bx (aa (pv 0) (aa (aA cR (pv 1) (pv 4)) af))))
   (ag (aB (i:=6) bh.nd rfl (by first | exact Or.inl rfl | exact Or.inr rfl) (aG fM hr bx (aa (pv 3) af)))
   (ag (aB (i:=7) bh.nd rfl (by first | exact Or.inl rfl | exact Or.inr rfl) (aV aD (pv 6) (aA bw (pv 5) (av aM (by rfl) T.len aZ (aa (pv 6) af))) (fun _ _=>rfl)))
   (ak (bF (aK gE (aA bw (aA cQ (pv 5) ao) ao) ao (aW _)) (ak (bR (aG kP hr bx (aa (pv 3) (aa (pv 7) (aa (aA bw (aA cQ (pv 5) ao) (av aM (by rfl) T.len aZ (aa (pv 7) af))) (aa (aA bw (aA cQ (pv 5) ao) (av aM (by rfl) T.len aZ (aa (pv 7) af))) af))))))) (ag (aB (i:=8) bh.nd rfl (by first | exact Or.inl rfl | exact Or.inr rfl) (bz af))
   (ag (b9 PassesOwn.never rfl (bV rfl T.range (aa (av aM (by rfl) T.len aZ (aa (pv 7) af)) af)) (aJ (i:=9) bh.nd rfl (by first | exact Or.inl rfl | exact Or.inr rfl))
   (ak (bF (PW.pt (pw_and (aK d6 (aV aD (pv 7) (pv 9) (fun _ _=>rfl)) (bG dE (pv 7) bU (cu (pv 9))) (by with_unfolding_all rfl)) (pw_and1 (aK mQ (aA bw (aA cR (aA cQ (pv 5) ao) (aA fH (pv 9) (aA cQ (pv 5) ao))) ao) ao (aW _))))) (ak (bR (cN PySem.F.plainAttrs_list PySem.F.slot_list_append PySem.F.type_list_append cK (pv 8) (aa (pv 9) af)))) aR)))
   (ag (bF (aK (rS hr.units) (pv 8) (bz af) (aW _)) (ak (aB (i:=8) bh.nd rfl (by first | exact Or.inl rfl | exact Or.inr rfl) (bz (aa (aA bw (aA cQ (pv 5) ao) (av aM (by rfl) T.len aZ (aa (pv 7) af))) af)))) aR)
   (ak (bR (aG iW hr bx (aa (pv 3) (aa (pv 7) (aa (pv 8) af)))))))))))))))
   (ak (aU (pv 3))))),?_⟩
  dsimp only [dX]
  walk_at "rd"
  refine ⟨by rw [PySem.sizeLine_eq]; simp,fun b1 GP=>?_⟩
  walk_at "rd"
  refine ⟨by rw [PySem.sizeLine_eq]; simp,fun b2 sv=>?_⟩
  walk_at "rd"
  refine fun p hp=>?_
  have KU:H b2 = none:=(ah.upd GP).free sv
  have CH:H p = none:=((ah.upd GP).trans (ah.upd sv)).free hp
  have JC:b2≠b1:=fun z=>by rw [z,ae] at sv; cases sv
  have Nb:p≠b2:=fun z=>by rw [z,ae] at hp; cases hp
  have Nc:p≠b1:=fun z=>by rw [z,aq (fun w=>JC w.symm),ae] at hp; cases hp
  have e0:ah H (upd (upd (upd H b1 (.lst [.int 1])) b2 (.lst [.int 0])) p (.lst [.ref b1,.ref b2])):=((ah.upd GP).trans (ah.upd sv)).trans (ah.upd hp)
  have g0:aN (upd (upd (upd H b1 (.lst [.int 1])) b2 (.lst [.int 0])) p (.lst [.ref b1,.ref b2])) p [b1,b2] [[1],[0]]:=by
   refine ⟨ae,rfl,fun i c l h1 h2=>?_⟩
   have hi:i = 0∨i = 1:=by
    have:=(List.getElem?_eq_some_iff.mp h1).1
    simp at this
    omega
   rcases hi with rfl | rfl
   ·simp at h1 h2
    subst h1 h2
    rw [aq (fun z=>Nc z.symm),aq (fun z=>JC z.symm)]
    exact ae
   ·simp at h1 h2
    subst h1 h2
    rw [aq (fun z=>Nb z.symm)]
    exact ae
  have Nq:(p :: [b1,b2]).Nodup:=by
   simp [Nc,Nb]
   exact fun z=>JC z.symm
  have Om:∀ b∈p :: [b1,b2],H b = none:=by
   intro b hb
   simp at hb
   rcases hb with rfl | rfl | rfl
   ·exact CH
   ·exact GP
   ·exact KU
  generalize upd (upd (upd H b1 (.lst [.int 1])) b2 (.lst [.int 0])) p (.lst [.ref b1,.ref b2]) = H0 at e0 g0 ⊢
  walk_at "rd"
  refine dq ?_
  refine ⟨_,rfl,(n:Int),rfl,by omega,by omega,?_⟩
  rw [Int.toNat_natCast]
  refine dc (fun k σ H1=>∃ (as:List Addr) (L:List (List Int)) (v4 v5 v6 v7 v8 v9:Option V),σ = [some (.ref a),some (.int st),some (.int (n:Int)),some (.ref p),v4,v5,v6,v7,v8,v9]∧ah H H1∧aN H1 p as L∧(p :: as).Nodup∧(∀ b∈p :: as,H b = none)∧cG L∧L.length≤2 + k)
   ⟨[b1,b2],[[1],[0]],none,none,none,none,none,none,rfl,e0,g0,Nq,Om,sN,by simp⟩ ?_ ?_
  ·clear e0 g0 Nq Om
   rintro k σ H1 hk ⟨as,L,v4,v5,v6,v7,v8,v9,rfl,e1,g1,mT,kS,jX,hlen⟩
   simp only [Int.zero_add]
   have im:=jX.map
   have uq:=jX.uq (by omega)
   walk_at "rd"
   refine ⟨a,ns,st + k,rfl,e1.seq hS,by omega,by omega,fun num n0 n1=>?_⟩
   walk_at "rd"
   refine ⟨p,as,L,rfl,g1,im,by omega,by omega,fun t bs R H2 e2 t2 QW GU dec=>?_⟩
   have R0:=jX.pos dec
   have g2:=g1.same e2
   walk_at "rd"
   refine ⟨_,_,rfl,.inl ⟨_,ay.of t2.top,rfl⟩,?_⟩
   rw [List.length_map,t2.len,List.length_map]
   have hp:(0:Int) < (R.length:Int):=by omega
   walk_at "rd"
   have m0:=Int.emod_nonneg num (show (R.length:Int)≠0 by omega)
   have m1:=Int.emod_lt_of_pos num hp
   obtain ⟨mi,Kz⟩:=Int.eq_ofNat_of_zero_le m0
   rw [Kz] at m1 ⊢
   obtain ⟨rc,rl,jm,xR,eK⟩:=t2.at (i:=mi) (by rw [List.length_map]; omega)
   rw [List.getElem?_map] at xR
   obtain ⟨c,GK,rfl⟩:∃ c,R[mi]? = some c∧c.map (·.1) = rl:=by
    cases e:R[mi]? with
    | none=>rw [e] at xR; cases xR
    | some z=>rw [e] at xR; exact ⟨z,rfl,Option.some.inj xR⟩
   have E3:=List.mem_of_getElem? GK
   obtain ⟨gd,Gd,Dx⟩:=dec.good im E3
   have HZ:(sh 0 (c.map (·.1))).Nodup:=by rw [Gd]; exact Dx
   have Aq:(c.map (·.1)).length≤(eL L L.length).length:=by
    rw [List.length_map]
    exact eZ Dx fun d hd=>((dec.mem d).mp (List.mem_flatten.mpr ⟨c,E3,hd⟩)).all
   have PM:=List.mem_of_getElem? jm
   have DY:=g1.ft (GU rc (List.mem_cons_of_mem _ PM))
   have BO:rc∉as:=fun z=>DY (List.mem_cons_of_mem _ z)
   have MU:rc≠p:=fun z=>DY (by rw [z]; exact List.mem_cons_self)
   generalize c.map (·.1) = r at gd HZ Aq eK
   have two:=gd.two
   have BL:(0:Int) < (r.length:Int):=by omega
   refine aS (ay.of t2.top) (t2.ix jm) ?_
   walk_at "rd"
   refine if2 (fun N7=>?_) (fun RV=>?_)
   ·walk_at "rd"
    refine ⟨_,_,rfl,.inl ⟨_,ay.of eK,rfl⟩,?_⟩
    rw [List.length_map]
    walk_at "rd"
    refine ⟨_,_,rfl,.inl ⟨_,ay.of eK,rfl⟩,?_⟩
    rw [List.length_map]
    walk_at "rd"
    have i0:=Int.emod_nonneg (num / 128) (show (r.length:Int)≠0 by omega)
    have i1:=Int.emod_lt_of_pos (num / 128) BL
    have j0:=Int.emod_nonneg (num / 4096) (show (r.length:Int)≠0 by omega)
    have j1:=Int.emod_lt_of_pos (num / 4096) BL
    obtain ⟨i,hi⟩:=Int.eq_ofNat_of_zero_le i0
    obtain ⟨j,hj⟩:=Int.eq_ofNat_of_zero_le j0
    rw [hi,hj]
    refine ⟨p,rc,as,L,r,i,j,rfl,g2,mT,eK,BO,jX,gd,by omega,by omega,by omega,fun H3 L3 off g3 Pz l3=>?_⟩
    exact ⟨as,L3,_,_,_,_,_,_,rfl,ah.off (e1.trans e2) (fun b hb=>kS b (List.mem_cons_of_mem _ hb)) off,g3,mT,kS,Pz,by omega⟩
   ·walk_at "rd"
    refine ⟨Nat.zero_le _,fun qa vd=>?_⟩
    have e3:ah H2 (upd H2 qa (.lst [])):=ah.upd vd
    have q3:upd H2 qa (.lst []) qa = some (.lst ((([]:List Nat).map fun c:Nat=>(c:Int)).map V.int)):=ae
    generalize upd H2 qa (.lst []) = H3 at e3 q3 ⊢
    have Ej:=g2.ft vd
    walk_at "rd"
    refine dq ?_
    refine ⟨_,rfl,_,_,rfl,.inl ⟨_,ay.of (e3 _ _ eK),rfl⟩,(r.length:Int),by rw [List.length_map],by omega,by omega,?_⟩
    rw [Int.toNat_natCast]
    refine dc (fun i σ H4=>∃ (cs:List Nat) (v9:Option V),σ = [some (.ref a),some (.int st),some (.int (n:Int)),some (.ref p),some (.int (k:Int)),some (.int num),some (.ref t),some (.ref rc),some (.ref qa),v9]∧ah H2 H4∧H4 qa = some (.lst ((cs.map fun c:Nat=>(c:Int)).map V.int))∧cs.Pairwise (· < ·)∧(∀ c∈cs,c < i)∧(cs.map (cy r)).Nodup∧cs.length≤i)
     ⟨[],_,rfl,e3,q3,.nil,by simp,.nil,Nat.le_refl _⟩ ?_ ?_
    ·rintro i σ H4 hi ⟨cs,w9,rfl,e4,q4,c1,c2,c3,c4⟩
     simp only [Int.zero_add]
     have xS:=e4 _ _ eK
     walk_at "rd"
     refine aS (ay.of xS) (cg (j:=i) (by omega) (by omega) (.inl rfl)) ?_
     refine fD (a:=rc) (i:=7) (k:=9) (n:=i) (r:=r) rfl rfl (ay.of xS) (by omega) fun p1 qj=>?_
     have e5:ah H4 (upd H4 p1 (.lst ((r.take i).map V.int))):=ah.upd qj
     refine zj (ay.of ae) ?_
     rw [if_pos rfl]
     generalize upd H4 p1 (.lst ((r.take i).map V.int)) = H5 at e5 ⊢
     walk_at "rd"
     refine gL (fun xT=>?_) (fun hold=>?_)
     ·walk_at "rd"
      refine wI (Sz.A9 (m:=20) (n:=40) (by unfold Sz; omega) (by unfold Sz; omega)) ?_
      walk_at "rd"
      refine gL (fun h3=>?_) (fun h3=>?_)
      ·walk_at "rd"
       refine ⟨.inl ⟨rfl,_,ay.of (e5 _ _ q4)⟩,?_⟩
       walk_at "rd"
       refine dJ (e5 _ _ q4) (by rw [List.length_map,List.length_map]; exact ax (by omega)) ?_
       refine ⟨cs ++ [i],_,rfl,ah.fresh (e4.trans e5) vd,?_,?_,fun c hc=>?_,?_,by rw [List.length_append,List.length_singleton]; omega⟩
       ·rw [List.map_append,List.map_append]; exact ae
       ·rw [List.pairwise_append]
        refine ⟨c1,by simp,fun x hx y hy=>?_⟩
        rw [List.mem_singleton.mp hy]
        exact c2 x hx
       ·rcases List.mem_append.mp hc with z | z
        ·have:=c2 c z; omega
        ·rw [List.mem_singleton.mp z]; omega
       ·rw [List.map_append,List.map_singleton]
        refine y8.mpr ⟨fun z=>?_,c3⟩
        obtain ⟨c,hc,ec⟩:=List.mem_map.mp z
        refine xT ?_
        rw [← ec,iD (by have:=c2 c hc; omega)]
        refine List.mem_take_iff_getElem.mpr ⟨c,by have:=c2 c hc; omega,rfl⟩
      ·exact ⟨cs,_,rfl,e4.trans e5,e5 _ _ q4,c1,fun c hc=>by have:=c2 c hc; omega,c3,by omega⟩
     ·walk_at "rd"
      exact ⟨cs,_,rfl,e4.trans e5,e5 _ _ q4,c1,fun c hc=>by have:=c2 c hc; omega,c3,by omega⟩
    ·rintro σ H4 ⟨cs,w9,rfl,e4,q4,c1,c2,c3,c4⟩
     walk_at "rd"
     refine ⟨Nat.zero_le _,fun z hz=>?_⟩
     have e5:ah H4 (upd H4 z (.lst [])):=ah.upd hz
     refine ⟨bb (cs.map fun c:Nat=>(c:Int)),bb [],br (e5 _ _ q4),br ae,shaped_ints _,shaped_ints _,?_⟩
     rw [if_neg (by decide),eh]
     generalize upd H4 z (.lst []) = H5 at e5 ⊢
     walk_at "rd"
     refine if2 (fun U6=>?_) (fun gM=>?_)
     ·walk_at "rd"
      refine ⟨_,_,rfl,.inl ⟨_,ay.of (e5 _ _ (e4 _ _ eK)),rfl⟩,?_⟩
      rw [List.length_map]
      walk_at "rd"
      have i0:=Int.emod_nonneg (num / 128) (show (r.length:Int)≠0 by omega)
      have i1:=Int.emod_lt_of_pos (num / 128) BL
      obtain ⟨i,hi⟩:=Int.eq_ofNat_of_zero_le i0
      rw [hi] at i1 ⊢
      refine ⟨by rw [PySem.sizeLine_eq]; simp,fun q2 GB=>?_⟩
      have e6:ah H2 (upd H5 q2 (.lst [.int (i:Int)])):=(e4.trans e5).trans (ah.upd GB)
      have c6:upd H5 q2 (.lst [.int (i:Int)]) q2 = some (.lst ((([i]:List Nat).map fun c:Nat=>(c:Int)).map V.int)):=ae
      have A6:=((g2.same e4).same e5).ft GB
      generalize upd H5 q2 (.lst [.int (i:Int)]) = H6 at e6 c6 ⊢
      walk_at "rd"
      refine ⟨p,rc,q2,as,L,r,[i],rfl,g2.same e6,mT,e6 _ _ eK,BO,c6,fun w=>A6 (List.mem_cons_of_mem _ w),MU,fun w=>A6 (by rw [w]; exact List.mem_cons_self),jX,gd,HZ,by simp,by simp,fun c hc=>by rw [List.mem_singleton.mp hc]; omega,by simp,by simp,by omega,fun H7 L7 nw off Ju g7 EA Ia l7=>?_⟩
      have Fm:=(e1.trans e2).trans e6
      refine ⟨_,L7,_,_,_,_,_,_,rfl,ah.off Fm kS off,g7,EA,fun b hb=>?_,Ia,by omega⟩
      rcases List.mem_cons.mp hb with w | w
      ·rw [w]; exact kS p List.mem_cons_self
      ·rcases List.mem_append.mp w with w | w
       ·exact kS b (List.mem_cons_of_mem _ w)
       ·rw [List.mem_singleton.mp w]; exact Fm.free Ju
     ·walk_at "rd"
      have c0:cs≠[]:=fun w=>gM (by rw [w]; rfl)
      have e6:=e4.trans e5
      refine ⟨p,rc,qa,as,L,r,cs,rfl,g2.same e6,mT,e6 _ _ eK,BO,e5 _ _ q4,fun w=>Ej (List.mem_cons_of_mem _ w),MU,fun w=>Ej (by rw [w]; exact List.mem_cons_self),jX,gd,HZ,c0,c1,c2,c3,by omega,by omega,fun H7 L7 nw off Ju g7 EA Ia l7=>?_⟩
      have Fm:=(e1.trans e2).trans e6
      refine ⟨_,L7,_,_,_,_,_,_,rfl,ah.off Fm kS off,g7,EA,fun b hb=>?_,Ia,by omega⟩
      rcases List.mem_cons.mp hb with w | w
      ·rw [w]; exact kS p List.mem_cons_self
      ·rcases List.mem_append.mp w with w | w
       ·exact kS b (List.mem_cons_of_mem _ w)
       ·rw [List.mem_singleton.mp w]; exact Fm.free Ju
  ·rintro σ H1 ⟨as,L,v4,v5,v6,v7,v8,v9,rfl,e1,g1,mT,kS,jX,hlen⟩
   walk_at "rd"
   exact q p as L H1 e1 g1 mT kS jX hlen
theorem pK:aQ ["_law_script"] ["_law_script"] (aj cD):=⟨rfl,rfl,rfl,by decide +kernel,rfl,by decide +kernel,by decide +kernel⟩
theorem pY (D:Def K mg "_law_map" cD ["_law_script"]) (T:Txt K mg Z) (bj:df P w K mg base (cA P w) "_law_mixed" 2 ["_law_script", "_law_k"] (eF K)) (sC:df P w K mg base (cA P w) "_law_any" 3 ["_law_script", "_law_start", "_law_many"] (wm K)) (oH:df P w K mg base (cA P w) "_law_grown" 3 ["_law_script", "_law_start", "_law_steps"] (pJ K)):df P w K mg base (cA P w) "_law_map" 4 ["_law_script"] (wg K):=by
 refine D.ef pK (fun vs H Q E h=>?_) (fun f de A outer s H vs Q E hr h=>?_)
 ·obtain ⟨a,ns,rfl,_⟩:=h; rfl
 ·obtain ⟨a,ns,rfl,hS,q⟩:=h
  refine ⟨_,(ag (bF (aK gE (aA bw (aG bj hr bx (aa (pv 0) (aa ao af))) ao) ao (aW _)) (ak (aU (aG sC hr bx (aa (pv 0) (aa ao (aa (aA cR ao (aA bw (aG bj hr bx (aa (pv 0) (aa ao af))) ao)) af)))))) aR)
   (ak (aU (aG oH hr bx (aa (pv 0) (aa ao (aa (aA bw (aG bj hr bx (aa (pv 0) (aa ao af))) ao) af))))))),?_⟩
  walk_at "rd"
  refine ⟨a,ns,0,rfl,hS,by decide,by decide,fun n0 UQ UP=>?_⟩
  walk_at "rd"
  refine if2 (fun h1=>?_) (fun h1=>?_)
  ·walk_at "rd"
   refine ⟨a,ns,1,rfl,hS,by decide,by decide,fun n1 Q3 Q2=>?_⟩
   walk_at "rd"
   have m0:=Int.emod_nonneg n1 (show (6:Int)≠0 by decide)
   have m1:=Int.emod_lt_of_pos n1 (show (0:Int) < 6 by decide)
   refine ⟨a,ns,3,2 + n1 % 6,rfl,hS,by decide,by decide,by omega,by omega,fun p as L H' e g nd fr hL im=>?_⟩
   exact q p as L H' e g nd fr im (by omega) (by omega) (m9 im (by omega)) fun R lR r hr=>by
    have z:=im.ring lR hr
    have:L.length * (L.length - 1)≤7 * 6:=Nat.mul_le_mul (by omega) (by omega)
    omega
  ·walk_at "rd"
   refine ⟨a,ns,1,rfl,hS,by decide,by decide,fun n1 Q3 Q2=>?_⟩
   walk_at "rd"
   have m0:=Int.emod_nonneg n1 (show (12:Int)≠0 by decide)
   have m1:=Int.emod_lt_of_pos n1 (show (0:Int) < 12 by decide)
   obtain ⟨m,hm⟩:=Int.eq_ofNat_of_zero_le m0
   rw [hm]
   refine ⟨a,ns,3,m,rfl,hS,by decide,by decide,by omega,fun p as L H' e g nd fr jX hl=>?_⟩
   exact q p as L H' e g nd fr jX.map jX.two (by omega) (jX.uq (by omega)) fun R lR r hr=>by
    have z:=jX.ring lR hr
    omega
theorem eX:aQ ["_law_orders", "_law_found", "_law_ring"] ["_law_orders"] (aj bO):=⟨rfl,rfl,rfl,by decide +kernel,rfl,by decide +kernel,by decide +kernel⟩
theorem lQ (D:Def K mg "_law_lands" bO ["_law_orders"]) (T:Txt K mg Z) (fM:df P w K mg base (cA P w) "_law_rings" 1 ["_law_orders"] jV):df P w K mg base (cA P w) "_law_lands" 2 ["_law_orders"] hW:=by
 refine D.ef eX (fun vs H Q E h=>?_) (fun f de A outer s H vs Q E hr h=>?_)
 ·obtain ⟨p,as,L,rfl,_⟩:=h; rfl
 ·obtain ⟨p,as,L,rfl,g,im,hn,hd,q⟩:=h
  refine ⟨_,(ag (aB (i:=1) eX.nd rfl (by first | exact Or.inl rfl | exact Or.inr rfl) (bz af))
   (ag (b9 PassesOwn.never rfl (bK (aG fM hr bx (aa (pv 0) af))) (aJ (i:=2) eX.nd rfl (by first | exact Or.inl rfl | exact Or.inr rfl))
   (ak (bR (cN PySem.F.plainAttrs_list PySem.F.slot_list_append PySem.F.type_list_append cK (pv 1) (aa (av (nj rfl hr.units) (by rfl) T.min lr (aa (fG (tg:=["_law_k"]) (fr:=[("_law_ring",2)]) (by walk_at "blk_ok") rfl (bV rfl T.range (aa (av aM (by rfl) T.len aZ (aa (pv 2) af)) af)) (fun _ _ _ _ _=>(aJ (i:=0) (show [("_law_k" : Str),("_law_ring" : Str)].Nodup by decide +kernel) rfl (by first | exact Or.inl rfl | exact Or.inr rfl))) (fun _ _ _ _ _=>cU) (fun _ _ _ _ _=>(aA fI (bG (fh (K:=K) rfl) (pv 1) (cu (pv 0)) bU) (bG (fh (K:=K) rfl) (pv 1) bU (cu (pv 0)))))) af)) af)))))
   (ak (aU (av (iF hr.units) (by rfl) T.sorted nu (aa (pv 1) af)))))),?_⟩
  dsimp only [dX]
  walk_at "rd"
  refine ⟨Nat.zero_le _,fun fd KQ=>?_⟩
  have e0:ah H (upd H fd (.lst [])):=ah.upd KQ
  have f0:aN (upd H fd (.lst [])) fd [] []:=⟨ae,rfl,fun i a l z=>by simp at z⟩
  generalize upd H fd (.lst []) = H0 at e0 f0 ⊢
  walk_at "rd"
  refine dq ?_
  refine nU (dy (r_var rfl (gC ?_)))
  refine ⟨p,as,L,rfl,g.same e0,im,hn,by omega,fun t bs R H1 e1 t1 QW GU dec=>?_⟩
  refine ⟨t,rfl,⟨_,ay.of t1.top⟩,du (K:=K) (a:=t) (xs:=bs.map V.ref) (fun i σ H2=>∃ (v2:Option V) (cs:List Addr) (S:List (List Int)),σ = [some (.ref p),some (.ref fd),v2]∧(∀ b o,b≠fd→H1 b = some o→H2 b = some o)∧aN H2 fd cs S∧(fd :: cs).Nodup∧(∀ b∈fd :: cs,H b = none)∧Lp L S (R.take i).flatten)
   ⟨none,[],[],rfl,fun _ _ _ e=>e,f0.same e1,by simp,by simpa using KQ,Lp.start⟩ (fun i σ H2 _ ⟨_,_,_,_,o,_⟩=>ay.of (o _ _ (fun z=>by have:=GU t List.mem_cons_self; rw [z,f0.top] at this; cases this) t1.top)) ?_ ?_⟩
  ·rintro i x σ H2 hx ⟨v2,cs,S,rfl,o2,f2,vJ,vk,lp⟩
   have hi:i < R.length:=by
    have:=(List.getElem?_eq_some_iff.mp hx).1
    rw [List.length_map,t1.len,List.length_map] at this
    exact this
   obtain ⟨rc,rl,jm,xR,eK⟩:=t1.at (i:=i) (by rw [List.length_map]; exact hi)
   obtain rfl:x = V.ref rc:=by
    rw [List.getElem?_map,jm] at hx
    exact (Option.some.inj hx).symm
   rw [List.getElem?_map] at xR
   obtain ⟨c,GK,rfl⟩:∃ c,R[i]? = some c∧c.map (·.1) = rl:=by
    cases e:R[i]? with
    | none=>rw [e] at xR; cases xR
    | some z=>rw [e] at xR; exact ⟨z,rfl,Option.some.inj xR⟩
   have E3:=List.mem_of_getElem? GK
   obtain ⟨gd,Gd,Dx⟩:=dec.good im E3
   have Aq:(c.map (·.1)).length≤(eL L L.length).length:=by
    rw [List.length_map]
    exact eZ Dx fun d hd=>((dec.mem d).mp (List.mem_flatten.mpr ⟨c,E3,hd⟩)).all
   have tk:(R.take (i + 1)).flatten = (R.take i).flatten ++ sh 0 (c.map (·.1)):=by rw [take_snoc GK,List.flatten_append,List.flatten_singleton,Gd]
   have Nn:((R.take i).flatten ++ sh 0 (c.map (·.1))).Nodup:=by
    rw [← tk]
    have:=dec.nd
    rw [← List.take_append_drop (i + 1) R,List.flatten_append] at this
    exact (List.nodup_append.mp this).1
   generalize c.map (·.1) = r at gd Gd Aq eK tk Nn
   have two:=gd.two
   have rf:rc≠fd:=fun z=>by have:=GU rc (List.mem_cons_of_mem _ (List.mem_of_getElem? jm)); rw [z,f0.top] at this; cases this
   have si:=o2 _ _ rf eK
   walk_at "rd"
   refine ⟨.inl ⟨rfl,_,ay.of f2.top⟩,?_⟩
   walk_at "rd"
   refine dS ?_
   refine ⟨_,rfl,_,_,rfl,.inl ⟨_,ay.of si,rfl⟩,(r.length:Int),by rw [List.length_map],by omega,by omega,?_⟩
   rw [Int.toNat_natCast]
   intro acc bT
   refine fO (fun j σ' ys H3=>∃ (es:List Addr) (v:Option V),σ' = [v,some (.ref rc)]∧ys = es.map V.ref∧ah H2 H3∧aN H3 acc es ((List.range j).map (cz r))∧acc∉es∧(∀ b∈es,H2 b = none))
    ⟨[],none,rfl,rfl,ah.upd bT,⟨ae,rfl,fun i b l z=>by simp at z⟩,by simp,by simp⟩ ?_ ?_
   ·rintro j σ' ys H3 hj ⟨es,v,rfl,rfl,e3,g3,na,fr⟩
    simp only [Int.zero_add]
    have zl:=g3.len
    rw [List.length_map,List.length_range] at zl
    walk_at "rd"
    refine fj (a:=rc) (i:=1) (k:=0) (n:=j) (r:=r) rfl rfl (ay.of (e3 _ _ si)) (by omega) fun p1 qj=>?_
    have e4:ah H3 (upd H3 p1 (.lst ((r.drop j).map V.int))):=ah.upd qj
    refine fD (a:=rc) (i:=1) (k:=0) (n:=j) (r:=r) rfl rfl (ay.of (e4 _ _ (e3 _ _ si))) (by omega) fun p2 oD=>?_
    have e5:=e4.trans (ah.upd (o:=.lst ((r.take j).map V.int)) oD)
    have x1:upd (upd H3 p1 (.lst ((r.drop j).map V.int))) p2 (.lst ((r.take j).map V.int)) p1 = some (.lst ((r.drop j).map V.int)):=by rw [aq (aw ae oD)]; exact ae
    refine ⟨p1,p2,_,_,rfl,rfl,x1,ae,by rw [List.length_map,List.length_map,List.length_drop,List.length_take,PySem.sizeLine_eq]; omega,fun b hb=>?_⟩
    generalize upd (upd H3 p1 (.lst ((r.drop j).map V.int))) p2 (.lst ((r.take j).map V.int)) = H5 at e5 x1 hb ⊢
    have er:(r.drop j).map V.int ++ (r.take j).map V.int = (cz r j).map V.int:=by unfold cz; rw [List.map_append]
    rw [er]
    have nb:=(g3.same e5).ft hb
    have e6:=e5.trans (ah.upd (o:=.lst ((cz r j).map V.int)) hb)
    have b6:upd H5 b (.lst ((cz r j).map V.int)) b = some (.lst ((cz r j).map V.int)):=ae
    generalize upd H5 b (.lst ((cz r j).map V.int)) = H6 at e6 b6 ⊢
    have g6:=g3.same e6
    have Nu:b≠acc:=fun z=>nb (z▸List.mem_cons_self)
    refine ⟨g6.top,by rw [List.length_map]; exact ax (by omega),eW hj ⟨es ++ [b],_,rfl,by simp,ah.fresh (e3.trans e6) bT,?_,?_,fun y hy=>?_⟩⟩
    ·rw [List.range_succ,List.map_append]; exact g6.snoc na Nu b6
    ·intro z
     rcases List.mem_append.mp z with z | z
     ·exact na z
     ·exact Nu (List.mem_singleton.mp z).symm
    ·rcases List.mem_append.mp hy with z | z
     ·exact fr y z
     ·rw [List.mem_singleton.mp z]; exact (e3.trans e5).free hb
   ·rintro σ' ys H3 ⟨es,v,rfl,rfl,e3,g3,na,fr⟩
    have zl:=g3.len
    rw [List.length_map,List.length_range] at zl
    walk_at "rd"
    refine ⟨acc,es,_,rfl,ay.of g3.top,g3.len,fun i b l y1 y2=>ay.of (g3.row i b l y1 y2),by omega,fun k b l y1 y2 hle=>?_⟩
    have hk:k < r.length:=by have:=(List.getElem?_eq_some_iff.mp y1).1; omega
    have el:l = cz r k:=by
     rw [List.getElem?_map,List.getElem?_range hk] at y2
     exact (Option.some.inj y2).symm
    have KG:∀ j,j < r.length→Le (cz r k) (cz r j):=fun j hj=>by rw [← el]; exact hle _ (List.mem_map.mpr ⟨j,List.mem_range.mpr hj,rfl⟩)
    have Be:=g3.row k b l y1 y2
    rw [el] at Be
    have bf:=fr b (List.mem_of_getElem? y1)
    have JF:=lp.Me gd hk KG Nn
    have lb:=JF.len
    have l2:=JF.two
    have f3:=f2.same e3
    have zS:=f3.len
    rw [List.length_append,cW] at lb
    have l3:=lp.two
    walk_at "rd"
    refine dJ f3.top (by rw [List.length_map]; exact ax (by omega)) ?_
    have Nt:=f2.ft bf
    have nb:b≠fd:=fun z=>Nt (z▸List.mem_cons_self)
    have bH:H b = none:=by
     cases e:H b with
     | none=>rfl
     | some o=>
      have:=o2 b o nb (e1 _ _ (e0 _ _ e))
      rw [bf] at this; cases this
    refine ⟨_,cs ++ [b],S ++ [cz r k],rfl,fun y o hy e=>?_,f3.snoc (List.nodup_cons.mp vJ).1 nb Be,?_,fun y hy=>?_,by rw [tk]; exact JF⟩
    ·rw [aq hy]; exact e3 _ _ (o2 y o hy e)
    ·obtain ⟨n1,n2⟩:=List.nodup_cons.mp vJ
     refine List.nodup_cons.mpr ⟨fun z=>?_,fg.mpr ⟨fun z=>Nt (List.mem_cons_of_mem _ z),n2⟩⟩
     rcases List.mem_append.mp z with z | z
     ·exact n1 z
     ·exact nb (List.mem_singleton.mp z).symm
    ·rcases List.mem_cons.mp hy with z | z
     ·rw [z]; exact vk _ List.mem_cons_self
     ·rcases List.mem_append.mp z with z | z
      ·exact vk y (List.mem_cons_of_mem _ z)
      ·rw [List.mem_singleton.mp z]; exact bH
  ·rintro σ H2 ⟨v2,cs,S,rfl,o2,f2,vJ,vk,lp⟩
   rw [List.length_map,t1.len,List.length_map,List.take_length] at lp
   have zS:=f2.len
   have lb:=lp.len
   have l2:=lp.two
   have e2:ah H H2:=fun b o e=>by
    have Sn:b≠fd:=fun z=>by rw [z,KQ] at e; cases e
    exact o2 b o Sn (e1 _ _ (e0 _ _ e))
   walk_at "rd"
   refine ⟨fd,cs,S,rfl,ay.of f2.top,f2.len,fun i b l h1 h2=>ay.of (f2.row i b l h1 h2),by omega,fun pp qd hp zO hq=>?_⟩
   have pm:=dz (d:=(0:Addr)) (L:=cs) (p:=pp) (by rw [zS]; exact hp)
   refine q qd (pick 0 cs pp) (pick [] S pp) _ (e2.trans (ah.upd hq)) (f2.pick hp hq) ?_ (fun b hb=>?_) (lp.lands hp zO fun d hd=>(dec.mem d).mpr hd)
   ·refine List.nodup_cons.mpr ⟨fun z=>f2.ft hq (List.mem_cons_of_mem _ (pm.mem_iff.mp z)),pm.nodup_iff.mpr (List.nodup_cons.mp vJ).2⟩
   ·rcases List.mem_cons.mp hb with z | z
    ·rw [z]; exact e2.free hq
    ·exact vk b (List.mem_cons_of_mem _ (pm.mem_iff.mp z))
theorem fW:aQ ["_law_found", "_law_order"] ["_law_found"] (aj bC):=⟨rfl,rfl,rfl,by decide +kernel,rfl,by decide +kernel,by decide +kernel⟩
theorem kg (D:Def K mg "_law_is_map" bC ["_law_found"]) (T:Txt K mg Z) (oF:df P w K mg base (cA P w) "_law_whole" 1 ["_law_found"] pE):df P w K mg base (cA P w) "_law_is_map" 2 ["_law_found"] pI:=by
 refine D.ef fW (fun vs H Q E h=>?_) (fun f de A outer s H vs Q E hr h=>?_)
 ·obtain ⟨p,as,L,rfl,_⟩:=h; rfl
 ·obtain ⟨p,as,L,rfl,g,q⟩:=h
  refine ⟨_,(ag (bF (gI (fE (av gs (by rfl) T.isinstance bE (aa (pv 0) (aa (ic (v:=.ty "list") rfl T.list iI rfl) af))))) (ak (aU fo)) aR)
   (ag (b9 PassesOwn.never rfl (bK (pv 0)) (aJ (i:=1) fW.nd rfl (by first | exact Or.inl rfl | exact Or.inr rfl))
   (ak (bF (PW.pt (pw_or (gI (fE (av gs (by rfl) T.isinstance bE (aa (pv 1) (aa (ic (v:=.ty "list") rfl T.list iI rfl) af))))) (pw_or1 (aK (gK hr.units) (fG (tg:=["_law_place"]) (fr:=[]) (by walk_at "blk_ok") rfl (bK (pv 1)) (fun _ _ _ _ _=>(aJ (i:=0) (show [("_law_place" : Str)].Nodup by decide +kernel) rfl (by first | exact Or.inl rfl | exact Or.inr rfl))) (fun _ _ _ _ _=>(h9 (gI (fE (aG oF hr bx (aa (pv 0) af)))))) (fun _ _ _ _ _=>(pv 0))) (bz af) (aW _))))) (ak (aU fo)) aR)))
   (ak (aU fo)))),?_⟩
  dsimp only [dX]
  walk_at "rd"
  refine nQ (.lst g.top) (.ty _) xJ ?_
  walk_at "rd"
  refine dq ?_
  refine ⟨_,rfl,p,rfl,⟨_,ay.of g.top⟩,du (K:=K) (a:=p) (xs:=as.map V.ref) (fun i σ H1=>∃ v:Option V,σ = [some (.ref p),v]∧ah H H1) ⟨none,rfl,fun _ _ e=>e⟩ (fun i σ H1 _ ⟨_,_,e⟩=>ay.of (e _ _ g.top)) ?_ ?_⟩
  ·rintro i x σ H1 hx ⟨v,rfl,e1⟩
   have hi:i < L.length:=by
    have:=(List.getElem?_eq_some_iff.mp hx).1
    rw [List.length_map,g.len] at this
    exact this
   obtain ⟨b,l,hb,hl,eP⟩:=g.at hi
   obtain rfl:x = V.ref b:=by
    rw [List.getElem?_map,hb] at hx
    exact (Option.some.inj hx).symm
   have xQ:=e1 _ _ eP
   walk_at "rd"
   refine nQ (.lst xQ) (.ty _) xJ ?_
   walk_at "rd"
   refine dS ?_
   refine ⟨_,rfl,b,rfl,⟨_,ay.of xQ⟩,fun acc bT=>?_⟩
   refine dC (K:=K) (a:=b) (xs:=l.map V.int) (fun i σ' ys H2=>∃ v:Option V,σ' = [v]∧ah H1 H2∧H2 acc = some (.lst [])∧ys = [])
    ⟨none,rfl,ah.upd bT,ae,rfl⟩ (fun i σ' ys H2 _ ⟨_,_,e,_⟩=>ay.of (e _ _ xQ)) ?_ ?_
   ·rintro i x σ' ys H2 hx hi ⟨v,rfl,e2,a2,rfl⟩
    obtain ⟨y,hy,rfl⟩:∃ y,l[i]? = some y∧x = V.int y:=by
     rw [List.getElem?_map] at hx
     cases e:l[i]? with
     | none=>rw [e] at hx; cases hx
     | some z=>rw [e] at hx; exact ⟨z,rfl,(Option.some.inj hx).symm⟩
    walk_at "rd"
    refine ⟨y,rfl,?_⟩
    walk_at "rd"
    exact eW hi ⟨_,rfl,e2,a2,rfl⟩
   ·rintro σ' ys H2 ⟨v,rfl,e2,a2,rfl⟩
    walk_at "rd"
    refine ⟨Nat.zero_le _,fun z2 xP=>?_⟩
    have e3:ah H1 (upd H2 z2 (.lst [])):=e2.trans (ah.upd xP)
    refine ⟨bb [],bb [],br (by rw [aq (aw a2 xP)]; exact a2),br ae,shaped_ints _,shaped_ints _,?_⟩
    rw [if_pos rfl,eh,decide_eq_true rfl]
    walk_at "rd"
    exact ⟨_,rfl,e1.trans e3⟩
  ·rintro σ H1 ⟨v,rfl,e1⟩
   walk_at "rd"
   exact q _ e1
theorem dh:aQ ["_law_one", "_law_other", "_law_mine", "_law_yours", "_law_at"] ["_law_one", "_law_other"] (aj bY):=⟨rfl,rfl,rfl,by decide +kernel,rfl,by decide +kernel,by decide +kernel⟩
theorem ou (D:Def K mg "_law_same" bY ["_law_one", "_law_other"]) (T:Txt K mg Z):df P w K mg base (cA P w) "_law_same" 1 ["_law_one", "_law_other"] tF:=by
 refine D.ef dh (fun vs H Q E h=>?_) (fun f de A outer s H vs Q E hr h=>?_)
 ·obtain ⟨p,t,as,bs,L,M,rfl,_⟩:=h; rfl
 ·obtain ⟨p,t,as,bs,L,M,rfl,g,k,NW,zP,hn,q⟩:=h
  refine ⟨_,(ag (b9 PassesOwn.never rfl (xg T.zip (aa (pv 0) (aa (pv 1) af))) (rO (n:=2) rfl (fk (aJ (i:=2) dh.nd rfl (by first | exact Or.inl rfl | exact Or.inr rfl)) (fk (aJ (i:=3) dh.nd rfl (by first | exact Or.inl rfl | exact Or.inr rfl)) n6)))
   (ag (bF (aK mQ (av aM (by rfl) T.len aZ (aa (pv 2) af)) (av aM (by rfl) T.len aZ (aa (pv 3) af)) (aW _)) (ak (aU fo)) aR)
   (ag (bF (PW.pt (pw_and (aK (gK hr.units) (pv 2) (bz af) (aW _)) (pw_and1 (aK d6 (aV aD (pv 2) ao (fun _ _=>rfl)) (pv 3) (by with_unfolding_all rfl))))) (ak (aU fo)) aR)
   (ag (aB (i:=4) dh.nd rfl (by first | exact Or.inl rfl | exact Or.inr rfl) ao)
   (ag (bF (aK (gK hr.units) (pv 2) (bz af) (aW _)) (ak (aB (i:=4) dh.nd rfl (by first | exact Or.inl rfl | exact Or.inr rfl) (cN PySem.F.plainAttrs_list PySem.F.slot_list_index PySem.F.type_list_index dM (pv 3) (aa (aV aD (pv 2) ao (fun _ _=>rfl)) af)))) aR)
   (ak (bF (aK (gK hr.units) (aA fI (bG dE (pv 3) (cu (pv 4)) bU) (bG dE (pv 3) bU (cu (pv 4)))) (pv 2) (aW _)) (ak (aU fo)) aR)))))))
   (ak (aU (oj gE (av aM (by rfl) T.len aZ (aa (pv 0) af)) (av aM (by rfl) T.len aZ (aa (pv 1) af)) (aW _))))),?_⟩
  dsimp only [dX]
  walk_at "rd"
  refine dq ?_
  refine ⟨_,rfl,_,rfl,p,t,rfl,⟨_,ay.of g.top⟩,⟨_,ay.of k.top⟩,Aa (K:=K) (a:=p) (b:=t) (xs:=as.map V.ref) (ys:=bs.map V.ref) (fun i σ H1=>∃ v2 v3 v4:Option V,σ = [some (.ref p),some (.ref t),v2,v3,v4]∧ah H H1) ⟨none,none,none,rfl,fun _ _ e=>e⟩ (by rw [List.length_map,List.length_map,g.len,k.len,NW]) (fun i σ H1 _ ⟨_,_,_,_,e⟩=>⟨ay.of (e _ _ g.top),ay.of (e _ _ k.top)⟩) ?_ ?_⟩
  ·rintro i x y pr σ H1 hx hy ⟨v2,v3,v4,rfl,e1⟩ Dl
   have hi:i < L.length:=by
    have:=(List.getElem?_eq_some_iff.mp hx).1
    rw [List.length_map,g.len] at this
    exact this
   obtain ⟨b,l,hb,hl,eP⟩:=g.at hi
   obtain ⟨c,m,hc,hm,EL⟩:=k.at (i:=i) (by omega)
   obtain rfl:x = V.ref b:=by
    rw [List.getElem?_map,hb] at hx
    exact (Option.some.inj hx).symm
   obtain rfl:y = V.ref c:=by
    rw [List.getElem?_map,hc] at hy
    exact (Option.some.inj hy).symm
   obtain ⟨rq,nm,lm⟩:=zP i l m hl hm
   have ll:=rq.len
   have e2:ah H1 (upd H1 pr (.tup [.ref b,.ref c])):=ah.upd Dl
   refine iT (SqT.of ae) rfl ?_
   generalize upd H1 pr (.tup [.ref b,.ref c]) = H2 at e2 ⊢
   have qW:=e1.trans e2
   have sv:=qW _ _ eP
   have GO:=qW _ _ EL
   walk_at "rd"
   refine ⟨_,_,rfl,.inl ⟨_,ay.of sv,rfl⟩,?_⟩
   walk_at "rd"
   refine ⟨_,_,rfl,.inl ⟨_,ay.of GO,rfl⟩,?_⟩
   rw [List.length_map,List.length_map,ll]
   walk_at "rd"
   refine gL (fun z=>absurd rfl z) (fun _=>?_)
   walk_at "rd"
   refine ⟨Nat.zero_le _,fun z1 RA=>?_⟩
   have e3:ah H2 (upd H2 z1 (.lst [])):=ah.upd RA
   refine ⟨bb l,bb [],br (e3 _ _ sv),br ae,shaped_ints _,shaped_ints _,?_⟩
   rw [if_pos rfl,eh]
   generalize upd H2 z1 (.lst []) = H3 at e3 ⊢
   have Be:=e3 _ _ sv
   have GN:=e3 _ _ GO
   cases l with
   | nil=>
    have m0:m = []:=by cases m with | nil=>rfl | cons _ _=>simp at ll
    subst m0
    rw [decide_eq_true rfl]
    walk_at "rd"
    refine ⟨Nat.zero_le _,fun z2 xP=>?_⟩
    have e4:ah H3 (upd H3 z2 (.lst [])):=ah.upd xP
    refine ⟨bb [],bb [],br (e4 _ _ Be),br ae,shaped_ints _,shaped_ints _,?_⟩
    rw [if_pos rfl,eh,decide_eq_true rfl]
    generalize upd H3 z2 (.lst []) = H4 at e4 ⊢
    walk_at "rd"
    refine fj (a:=c) (i:=3) (k:=4) (n:=0) (r:=[]) rfl rfl (ay.of (e4 _ _ GN)) (by simp) fun p1 qj=>?_
    have e5:ah H4 (upd H4 p1 (.lst ((([]:List Int).drop 0).map V.int))):=ah.upd qj
    refine fD (a:=c) (i:=3) (k:=4) (n:=0) (r:=[]) rfl rfl (ay.of (e5 _ _ (e4 _ _ GN))) (by simp) fun p2 oD=>?_
    have e6:=e5.trans (ah.upd (o:=.lst ((([]:List Int).take 0).map V.int)) oD)
    have x1:upd (upd H4 p1 (.lst ((([]:List Int).drop 0).map V.int))) p2 (.lst ((([]:List Int).take 0).map V.int)) p1 = some (.lst ((([]:List Int).drop 0).map V.int)):=by rw [aq (aw ae oD)]; exact ae
    refine ⟨p1,p2,_,_,rfl,rfl,x1,ae,by simp,fun d hd=>?_⟩
    generalize upd (upd H4 p1 (.lst ((([]:List Int).drop 0).map V.int))) p2 (.lst ((([]:List Int).take 0).map V.int)) = H6 at e6 hd ⊢
    have e7:=e6.trans (ah.upd (o:=.lst ((([]:List Int).drop 0).map V.int ++ (([]:List Int).take 0).map V.int)) hd)
    have d7:upd H6 d (.lst ((([]:List Int).drop 0).map V.int ++ (([]:List Int).take 0).map V.int)) d = some (.lst (([]:List Int).map V.int)):=ae
    generalize upd H6 d (.lst ((([]:List Int).drop 0).map V.int ++ (([]:List Int).take 0).map V.int)) = H7 at e7 d7 ⊢
    walk_at "rd"
    refine ⟨bb [],bb [],br d7,br (e7 _ _ (e4 _ _ Be)),shaped_ints _,shaped_ints _,?_⟩
    rw [if_pos rfl,eh,decide_eq_true rfl]
    walk_at "rd"
    exact ⟨_,_,_,rfl,((qW.trans e3).trans e4).trans e7⟩
   | cons x l=>
    obtain ⟨xm,er⟩:=rq.idx nm rfl
    have ix:=List.idxOf_lt_length_of_mem xm
    rw [decide_eq_false (by simp)]
    walk_at "rd"
    refine aS (ay.of Be) (show mh ((x :: l).map V.int) ((0:Nat):Int) = some (V.int x) from jN (by simp)) ?_
    walk_at "rd"
    refine zj (x:=x) (ay.of GN) ?_
    rw [if_pos rfl,decide_eq_true xm]
    walk_at "rd"
    refine ⟨Nat.zero_le _,fun z2 xP=>?_⟩
    have e4:ah H3 (upd H3 z2 (.lst [])):=ah.upd xP
    refine ⟨bb (x :: l),bb [],br (e4 _ _ Be),br ae,shaped_ints _,shaped_ints _,?_⟩
    rw [if_pos rfl,eh,decide_eq_false (by simp)]
    generalize upd H3 z2 (.lst []) = H4 at e4 ⊢
    have Ob:=e4 _ _ Be
    have GL:=e4 _ _ GN
    walk_at "rd"
    refine ⟨.inl ⟨rfl,_,ay.of GL⟩,?_⟩
    walk_at "rd"
    refine aS (ay.of Ob) (show mh ((x :: l).map V.int) ((0:Nat):Int) = some (V.int x) from jN (by simp)) ?_
    walk_at "rd"
    refine ⟨c,m,x,rfl,rfl,GL,xm,?_⟩
    walk_at "rd"
    refine fj (a:=c) (i:=3) (k:=4) (n:=m.idxOf x) (r:=m) rfl rfl (ay.of GL) (by omega) fun p1 qj=>?_
    have e5:ah H4 (upd H4 p1 (.lst ((m.drop (m.idxOf x)).map V.int))):=ah.upd qj
    refine fD (a:=c) (i:=3) (k:=4) (n:=m.idxOf x) (r:=m) rfl rfl (ay.of (e5 _ _ GL)) (by omega) fun p2 oD=>?_
    have e6:=e5.trans (ah.upd (o:=.lst ((m.take (m.idxOf x)).map V.int)) oD)
    have x1:upd (upd H4 p1 (.lst ((m.drop (m.idxOf x)).map V.int))) p2 (.lst ((m.take (m.idxOf x)).map V.int)) p1 = some (.lst ((m.drop (m.idxOf x)).map V.int)):=by rw [aq (aw ae oD)]; exact ae
    refine ⟨p1,p2,_,_,rfl,rfl,x1,ae,by rw [List.length_map,List.length_map,List.length_drop,List.length_take,PySem.sizeLine_eq]; omega,fun d hd=>?_⟩
    generalize upd (upd H4 p1 (.lst ((m.drop (m.idxOf x)).map V.int))) p2 (.lst ((m.take (m.idxOf x)).map V.int)) = H6 at e6 hd ⊢
    have SI:(m.drop (m.idxOf x)).map V.int ++ (m.take (m.idxOf x)).map V.int = (x :: l).map V.int:=by rw [← List.map_append]; exact congrArg _ er
    rw [SI]
    have e7:=e6.trans (ah.upd (o:=.lst ((x :: l).map V.int)) hd)
    have d7:upd H6 d (.lst ((x :: l).map V.int)) d = some (.lst ((x :: l).map V.int)):=ae
    generalize upd H6 d (.lst ((x :: l).map V.int)) = H7 at e7 d7 ⊢
    walk_at "rd"
    refine ⟨bb (x :: l),bb (x :: l),br d7,br (e7 _ _ Ob),shaped_ints _,shaped_ints _,?_⟩
    rw [if_pos rfl,eh,decide_eq_true rfl]
    walk_at "rd"
    exact ⟨_,_,_,rfl,((qW.trans e3).trans e4).trans e7⟩
  ·rintro σ H1 ⟨v2,v3,v4,rfl,e1⟩
   walk_at "rd"
   refine ⟨_,_,rfl,.inl ⟨_,ay.of (e1 _ _ g.top),rfl⟩,?_⟩
   walk_at "rd"
   refine ⟨_,_,rfl,.inl ⟨_,ay.of (e1 _ _ k.top),rfl⟩,?_⟩
   rw [List.length_map,List.length_map,g.len,k.len,NW]
   walk_at "rd"
   rw [decide_eq_true rfl]
   exact q _ e1
theorem mJ:aQ ["orders", "one", "other", "order"] ["orders", "one", "other"] (aj dI):=⟨rfl,rfl,rfl,by decide +kernel,rfl,by decide +kernel,by decide +kernel⟩
theorem uY (D:Def K mg "onward" dI ["orders", "one", "other"]) (T:Txt K mg Z):df P w K mg base (cA P w) "onward" 1 ["orders", "one", "other"] mH:=by
 refine D.ef mJ (fun vs H Q E h=>?_) (fun f de A outer s H vs Q E hr h=>?_)
 ·obtain ⟨p,as,L,d,rfl,_⟩:=h; rfl
 ·obtain ⟨p,as,L,d,rfl,g,im,hd,q⟩:=h
  obtain ⟨b0,b1,b2,b3⟩:=hd.back im
  obtain ⟨b,l,ha,hl,eP⟩:=g.at (i:=d.2.toNat) (by omega)
  have el:l = rowOf L d.2:=by rw [aE b0 b1] at hl; exact (Option.some.inj hl).symm
  subst el
  have e2:d.2 = ((d.2.toNat:Nat):Int):=by omega
  refine ⟨_,(ag (aB (i:=3) mJ.nd rfl (by first | exact Or.inl rfl | exact Or.inr rfl) (aV aD (pv 0) (pv 2) (fun _ _=>rfl)))
   (ak (aU (aV aD (pv 3) (aA gJ (cN PySem.F.plainAttrs_list PySem.F.slot_list_index PySem.F.type_list_index dM (pv 3) (aa (pv 1) af)) ao) (fun _ _=>rfl))))),?_⟩
  dsimp only [dX]
  walk_at "rd"
  refine aS (ay.of g.top) (by rw [e2]; exact g.ix ha) ?_
  walk_at "rd"
  refine ⟨.inl ⟨rfl,_,ay.of eP⟩,?_⟩
  walk_at "rd"
  refine ⟨b,_,d.1,rfl,rfl,eP,b3,?_⟩
  walk_at "rd"
  exact aS (ay.of eP) (uC b3) q
theorem b5:aQ ["orders", "one", "other", "ring", "here", "there", "beyond"] ["orders", "one", "other"] (aj bW):=⟨rfl,rfl,rfl,by decide +kernel,rfl,by decide +kernel,by decide +kernel⟩
theorem om (D:Def K mg "ring_from" bW ["orders", "one", "other"]) (T:Txt K mg Z) (qt:df P w K mg base (cA P w) "onward" 1 ["orders", "one", "other"] mH):df P w K mg base (cA P w) "ring_from" 2 ["orders", "one", "other"] tG:=by
 refine D.ef b5 (fun vs H Q E h=>?_) (fun f de A outer s H vs Q E hr h=>?_)
 ·obtain ⟨p,as,L,d,rfl,_⟩:=h; rfl
 ·obtain ⟨p,as,L,d,rfl,g,im,hd,hn,q⟩:=h
  refine ⟨_,(ag (aB (i:=3) b5.nd rfl (by first | exact Or.inl rfl | exact Or.inr rfl) (bz (aa (pv 1) af)))
   (ag (aB (i:=4) b5.nd rfl (by first | exact Or.inl rfl | exact Or.inr rfl) (pv 2))
   (ag (aB (i:=5) b5.nd rfl (by first | exact Or.inl rfl | exact Or.inr rfl) (aG qt hr bx (aa (pv 0) (aa (pv 1) (aa (pv 2) af)))))
   (ag (pP PassesOwn.never (aK (B9 (vU hr)) (fY (aa (pv 4) (aa (pv 5) af))) (fY (aa (pv 1) (aa (pv 2) af))) (aW _)) (ag (bR (cN PySem.F.plainAttrs_list PySem.F.slot_list_append PySem.F.type_list_append cK (pv 3) (aa (pv 4) af)))
   (ag (aB (i:=6) b5.nd rfl (by first | exact Or.inl rfl | exact Or.inr rfl) (aG qt hr bx (aa (pv 0) (aa (pv 4) (aa (pv 5) af)))))
   (ag (aB (i:=4) b5.nd rfl (by first | exact Or.inl rfl | exact Or.inr rfl) (pv 5))
   (ak (aB (i:=5) b5.nd rfl (by first | exact Or.inl rfl | exact Or.inr rfl) (pv 6)))))))
   (ak (aU (pv 3))))))),?_⟩
  dsimp only [dX]
  walk_at "rd"
  refine ⟨by rw [PySem.sizeLine_eq]; simp,fun r yI=>?_⟩
  have e0:ah H (upd H r (.lst [.int d.1])):=ah.upd yI
  have r0:upd H r (.lst [.int d.1]) r = some (.lst ((az L d 1).map V.int)):=ae
  generalize upd H r (.lst [.int d.1]) = H0 at e0 r0 ⊢
  walk_at "rd"
  refine ⟨p,as,L,d,rfl,g.same e0,im,hd,?_⟩
  walk_at "rd"
  refine sZ (fun σ H1=>∃ (j:Nat) (v:Option V),σ = [some (.ref p),some (.int d.1),some (.int d.2),some (.ref r),some (.int (it L d (j + 1)).1),some (.int (it L d (j + 1)).2),v]∧ah H H1∧H1 r = some (.lst ((az L d (j + 1)).map V.int))∧gk L d (j + 1))
   (fun _ H1=>match H1 r with | some (.lst xs)=>(eL L L.length).length - xs.length | _=>0) ⟨0,none,rfl,e0,r0,fun i h1 h2=>by omega⟩ ?_
  rintro σ H1 ⟨j,v,rfl,e1,r1,nr⟩
  walk_at "rd"
  intro t1 RI
  walk_at "rd"
  intro t2 NL
  refine Ec (a:=(it L d (j + 1)).1) (b:=(it L d (j + 1)).2) (c:=d.1) (d:=d.2) (SqT.of (by rw [aq (aw ae NL)]; exact ae)) (SqT.of ae) ?_
  have e2:ah H1 (upd (upd H1 t1 (.tup [.int (it L d (j + 1)).1,.int (it L d (j + 1)).2])) t2 (.tup [.int d.1,.int d.2])):=(ah.upd RI).trans (ah.upd NL)
  generalize upd (upd H1 t1 (.tup [.int (it L d (j + 1)).1,.int (it L d (j + 1)).2])) t2 (.tup [.int d.1,.int d.2]) = H2 at e2 ⊢
  walk_at "rd"
  refine gL (fun gM=>?_) (fun heq=>?_)
  ·refine w_turn ?_
   rw [r1]
   dsimp only
   have r2:=e2 _ _ r1
   have Na:gk L d (j + 1 + 1):=fun i h1 h2=>by
    by_cases z:i = j + 1
    ·rw [z]; exact fun y=>gM ⟨congrArg Prod.fst y,congrArg Prod.snd y⟩
    ·exact nr i h1 (by omega)
   have bd:=km im hd Na
   have zl:((az L d (j + 1)).map V.int).length = j + 1:=by unfold az; simp
   have er:(az L d (j + 1)).map V.int ++ [V.int (it L d (j + 1)).1] = (az L d (j + 1 + 1)).map V.int:=by
    unfold az
    rw [List.range_succ (n:=j + 1),List.map_append,List.map_append]
    rfl
   walk_at "rd"
   refine ⟨.inl ⟨rfl,_,ay.of r2⟩,?_⟩
   walk_at "rd"
   refine dJ r2 (by rw [zl]; exact ax (by omega)) ?_
   rw [er]
   have e3:ah H (upd H2 r (.lst ((az L d (j + 1 + 1)).map V.int))):=ah.fresh (e1.trans e2) yI
   have r3:upd H2 r (.lst ((az L d (j + 1 + 1)).map V.int)) r = some (.lst ((az L d (j + 1 + 1)).map V.int)):=ae
   generalize upd H2 r (.lst ((az L d (j + 1 + 1)).map V.int)) = H3 at e3 r3 ⊢
   walk_at "rd"
   refine ⟨p,as,L,it L d (j + 1),rfl,g.same e3,im,jk im hd _,?_⟩
   walk_at "rd"
   refine ⟨⟨j + 1,_,rfl,e3,r3,Na⟩,?_⟩
   rw [r3]
   dsimp only
   have OU:((az L d (j + 1 + 1)).map V.int).length = j + 1 + 1:=by unfold az; simp
   rw [zl,OU]
   omega
  ·walk_at "rd"
   exact q r (j + 1) H2 (e1.trans e2) yI (e2 _ _ r1) (by omega) (Prod.ext heq.1 heq.2) nr
theorem fV:aQ ["ring", "least"] ["ring"] (aj bB):=⟨rfl,rfl,rfl,by decide +kernel,rfl,by decide +kernel,by decide +kernel⟩
theorem ke (D:Def K mg "least_begun" bB ["ring"]) (T:Txt K mg Z):df P w K mg base (cA P w) "least_begun" 1 ["ring"] pH:=by
 refine D.ef fV (fun vs H Q E h=>?_) (fun f de A outer s H vs Q E hr h=>?_)
 ·obtain ⟨a,r,rfl,_⟩:=h; rfl
 ·obtain ⟨a,r,rfl,ha,h0,h1,q⟩:=h
  refine ⟨_,(ag (aB (i:=1) fV.nd rfl (by first | exact Or.inl rfl | exact Or.inr rfl) (av (vx rfl) (by rfl) T.min lr (aa (pv 0) af)))
   (ak (aU (av (nj rfl hr.units) (by rfl) T.min lr (aa (fG (tg:=["k"]) (fr:=[("ring",0),("least",1)]) (by walk_at "blk_ok") rfl (bV rfl T.range (aa (av aM (by rfl) T.len aZ (aa (pv 0) af)) af)) (fun _ _ _ _ _=>(aJ (i:=0) (show [("k" : Str),("ring" : Str),("least" : Str)].Nodup by decide +kernel) rfl (by first | exact Or.inl rfl | exact Or.inr rfl))) (fun _ _ _ _ _=>(h9 (aK gE (aV (fv (K:=K) rfl) (pv 1) (pv 0) (fun _ _=>rfl)) (pv 2) (aW _)))) (fun _ _ _ _ _=>(aA fI (bG (fh (K:=K) rfl) (pv 1) (cu (pv 0)) bU) (bG (fh (K:=K) rfl) (pv 1) bU (cu (pv 0)))))) af))))),?_⟩
  dsimp only [dX]
  walk_at "rd"
  refine ⟨a,r,rfl,ay.of ha,(fun z=>by rw [z] at h0; simp at h0),fun m hm hle=>?_⟩
  walk_at "rd"
  refine dS ?_
  refine ⟨_,rfl,_,_,rfl,.inl ⟨_,ay.of ha,rfl⟩,(r.length:Int),by rw [List.length_map],by omega,by omega,?_⟩
  rw [Int.toNat_natCast]
  intro acc bT
  refine fO (fun i σ' ys H1=>∃ (bs:List Addr) (cs:List Nat) (v:Option V),σ' = [v,some (.ref a),some (.int m)]∧ys = bs.map V.ref∧ah H H1∧aN H1 acc bs (cs.map (cz r))∧acc∉bs∧(∀ b∈bs,H b = none)∧(∀ c∈cs,c < i∧cy r c = m)∧bs.length≤i∧∀ j,j < i→cy r j = m→j∈cs)
   ⟨[],[],none,rfl,rfl,ah.upd bT,⟨ae,rfl,fun i b l z=>by simp at z⟩,by simp,by simp,by simp,Nat.le_refl _,fun j z=>by omega⟩ ?_ ?_
  ·rintro i σ' ys H1 hi ⟨bs,cs,v,rfl,rfl,e1,g1,na,fr,hc,hz,hj⟩
   simp only [Int.zero_add]
   walk_at "rd"
   refine aS (ay.of (e1 _ _ ha)) (cg (j:=i) (by omega) (by omega) (.inl rfl)) ?_
   walk_at "rd"
   refine if2 (fun he=>?_) (fun he=>?_)
   ·walk_at "rd"
    refine fj (a:=a) (i:=1) (k:=0) (n:=i) (r:=r) rfl rfl (ay.of (e1 _ _ ha)) (by omega) fun p1 qj=>?_
    have e2:ah H1 (upd H1 p1 (.lst ((r.drop i).map V.int))):=ah.upd qj
    refine fD (a:=a) (i:=1) (k:=0) (n:=i) (r:=r) rfl rfl (ay.of (e2 _ _ (e1 _ _ ha))) (by omega) fun p2 oD=>?_
    have e3:=e2.trans (ah.upd (o:=.lst ((r.take i).map V.int)) oD)
    have x1:upd (upd H1 p1 (.lst ((r.drop i).map V.int))) p2 (.lst ((r.take i).map V.int)) p1 = some (.lst ((r.drop i).map V.int)):=by rw [aq (aw ae oD)]; exact ae
    refine ⟨p1,p2,_,_,rfl,rfl,x1,ae,by rw [List.length_map,List.length_map,List.length_drop,List.length_take,PySem.sizeLine_eq]; omega,fun b hb=>?_⟩
    generalize upd (upd H1 p1 (.lst ((r.drop i).map V.int))) p2 (.lst ((r.take i).map V.int)) = H3 at e3 x1 hb ⊢
    have e4:=e3.trans (ah.upd (o:=.lst ((r.drop i).map V.int ++ (r.take i).map V.int)) hb)
    have er:(r.drop i).map V.int ++ (r.take i).map V.int = (cz r i).map V.int:=by unfold cz; rw [List.map_append]
    rw [er] at e4 ⊢
    have g4:=g1.same e4
    have b4:upd H3 b (.lst ((cz r i).map V.int)) b = some (.lst ((cz r i).map V.int)):=ae
    have Sr:H b = none:=(e1.trans e3).free hb
    have nb:b≠acc:=fun z=>by rw [z] at hb; exact absurd (e3 _ _ g1.top) (by rw [hb]; simp)
    have UM:b∉bs:=fun z=>by
     obtain ⟨k,hk,ET⟩:=List.mem_iff_getElem.mp z
     have kl:k < (cs.map (cz r)).length:=by rw [← g1.len]; exact hk
     have:=e3 _ _ (g1.row k b _ (by rw [List.getElem?_eq_getElem hk,ET]) (List.getElem?_eq_getElem kl))
     rw [hb] at this; cases this
    generalize upd H3 b (.lst ((cz r i).map V.int)) = H4 at e4 g4 b4 ⊢
    refine ⟨g4.top,by rw [List.length_map]; exact ax (by omega),eW hi ⟨bs ++ [b],cs ++ [i],_,rfl,by simp,ah.fresh (e1.trans e4) bT,?_,?_,?_,?_,?_,?_⟩⟩
    ·rw [List.map_append]; exact g4.snoc na nb b4
    ·intro z
     rcases List.mem_append.mp z with z | z
     ·exact na z
     ·exact nb (List.mem_singleton.mp z).symm
    ·intro c uo
     rcases List.mem_append.mp uo with z | z
     ·exact fr c z
     ·rw [List.mem_singleton.mp z]; exact Sr
    ·intro c uo
     rcases List.mem_append.mp uo with z | z
     ·have:=hc c z; exact ⟨by omega,this.2⟩
     ·rw [List.mem_singleton.mp z]; exact ⟨by omega,he⟩
    ·rw [List.length_append,List.length_singleton]; omega
    ·intro j Sb Bb
     by_cases z:j = i
     ·rw [z]; simp
     ·exact List.mem_append_left _ (hj j (by omega) Bb)
   ·refine eW hi ⟨bs,cs,_,rfl,rfl,e1,g1,na,fr,fun c z=>?_,by omega,fun j Sb Bb=>?_⟩
    ·have:=hc c z; exact ⟨by omega,this.2⟩
    ·by_cases z:j = i
     ·rw [z] at Bb; exact absurd Bb he
     ·exact hj j (by omega) Bb
  ·rintro σ' ys H1 ⟨bs,cs,v,rfl,rfl,e1,g1,na,fr,hc,hz,hj⟩
   walk_at "rd"
   obtain ⟨k,hk,ET⟩:=List.mem_iff_getElem.mp hm
   have kc:k∈cs:=hj k hk (by rw [iD hk]; exact ET)
   have c0:0 < cs.length:=List.length_pos_of_mem kc
   have zl:=g1.len
   rw [List.length_map] at zl
   refine ⟨acc,bs,cs.map (cz r),rfl,ay.of g1.top,g1.len,fun i b l x1 x2=>ay.of (g1.row i b l x1 x2),by omega,fun i b l x1 x2 hl=>?_⟩
   rw [List.getElem?_map] at x2
   cases ec:cs[i]? with
   | none=>rw [ec] at x2; cases x2
   | some c=>
    rw [ec] at x2
    have:cz r c = l:=Option.some.inj x2
    subst this
    have cm:=hc c (List.mem_of_getElem? ec)
    refine q b c H1 e1 (fr b (List.mem_of_getElem? x1)) (g1.row i b _ x1 (by rw [List.getElem?_map,ec]; rfl)) cm.1 fun j KL=>?_
    by_cases z:cy r j = m
    ·exact hl _ (List.mem_map.mpr ⟨j,hj j KL z,rfl⟩)
    ·have kk:=hc k kc
     refine Le.trans (hl _ (List.mem_map.mpr ⟨k,kc,rfl⟩)) (Le.of_lt (BN kk.1 KL ?_))
     have:=hle (cy r j) (yk h0)
     rw [kk.2]
     omega
theorem wu:aQ ["ring"] ["ring"] (aj eR):=⟨rfl,rfl,rfl,by decide +kernel,rfl,by decide +kernel,by decide +kernel⟩
theorem xp (D:Def K mg "steps" eR ["ring"]) (T:Txt K mg Z):df P w K mg base (cA P w) "steps" 1 ["ring"] pF:=by
 refine D.ef wu (fun vs H Q E h=>?_) (fun f de A outer s H vs Q E hr h=>?_)
 ·obtain ⟨a,r,rfl,_⟩:=h; rfl
 ·obtain ⟨a,r,rfl,ha,r0,rn,q⟩:=h
  refine ⟨_,(ak (aU (rQ rfl T.zip T.list (aa (pv 0) (aa (aA fI (bG dE (pv 0) (cu ao) bU) (bG dE (pv 0) bU (cu ao))) af))))),?_⟩
  dsimp only [dX]
  walk_at "rd"
  refine uS ?_
  walk_at "rd"
  refine rK (a:=a) (i:=0) (n:=1) (r:=r) rfl (ay.of ha) (by omega) fun p1 qj=>?_
  have e2:ah H (upd H p1 (.lst ((r.drop 1).map V.int))):=ah.upd qj
  refine wQ (a:=a) (i:=0) (n:=1) (r:=r) rfl (ay.of (e2 _ _ ha)) (by omega) fun p2 oD=>?_
  have e3:=e2.trans (ah.upd (o:=.lst ((r.take 1).map V.int)) oD)
  have x1:upd (upd H p1 (.lst ((r.drop 1).map V.int))) p2 (.lst ((r.take 1).map V.int)) p1 = some (.lst ((r.drop 1).map V.int)):=by rw [aq (aw ae oD)]; exact ae
  refine ⟨p1,p2,_,_,rfl,rfl,x1,ae,by rw [List.length_map,List.length_map,List.length_drop,List.length_take,PySem.sizeLine_eq]; omega,fun b hb=>?_⟩
  generalize upd (upd H p1 (.lst ((r.drop 1).map V.int))) p2 (.lst ((r.take 1).map V.int)) = H3 at e3 x1 hb ⊢
  have er:(r.drop 1).map V.int ++ (r.take 1).map V.int = (cz r 1).map V.int:=by unfold cz; rw [List.map_append]
  rw [er]
  have e4:=e3.trans (ah.upd (o:=.lst ((cz r 1).map V.int)) hb)
  walk_at "rd"
  have rl:(cz r 1).length = r.length:=cV (by omega)
  refine ⟨a,b,r.map V.int,(cz r 1).map V.int,rfl,ay.of (e4 _ _ ha),ay.of ae,by rw [List.length_map,List.length_map,rl],fun l as H5 e5 hl h5 la hp=>?_⟩
  rw [List.length_map] at la
  walk_at "rd"
  refine q l as H5 (e4.trans e5) (e4.free hl) h5 (PR.mk (by rw [cW]; exact la) fun j x d hx hd=>?_)
  obtain ⟨_,_,u,v,hu,hv,h6⟩:=hp j x hx
  have hj:j < r.length:=by
   have:=(List.getElem?_eq_some_iff.mp hx).1
   omega
  rw [List.getElem?_map,FT hj] at hu
  rw [List.getElem?_map,zd hj] at hv
  cases hu
  cases hv
  rw [AV hj] at hd
  cases hd
  exact h6
theorem dG:aQ ["orders", "gone", "rings", "one", "order", "other", "ring", "step"] ["orders"] (aj eU):=⟨rfl,rfl,rfl,by decide +kernel,rfl,by decide +kernel,by decide +kernel⟩
theorem xr (D:Def K mg "lands" eU ["orders"]) (T:Txt K mg Z) (qp:df P w K mg base (cA P w) "ring_from" 2 ["orders", "one", "other"] tG) (lY:df P w K mg base (cA P w) "least_begun" 1 ["ring"] pH) (zW:df P w K mg base (cA P w) "steps" 1 ["ring"] pF):df P w K mg base (cA P w) "lands" 3 ["orders"] hW:=by
 refine D.ef dG (fun vs H Q E h=>?_) (fun f de A outer s H vs Q E hr h=>?_)
 ·obtain ⟨p,as,L,rfl,_⟩:=h; rfl
 ·obtain ⟨p,as,L,rfl,g,im,hn,hd,q⟩:=h
  refine ⟨_,(ag (aB (i:=1) dG.nd rfl (by first | exact Or.inl rfl | exact Or.inr rfl) pV)
   (ag (aB (i:=2) dG.nd rfl (by first | exact Or.inl rfl | exact Or.inr rfl) (bz af))
   (ag (b9 PassesOwn.never rfl (zv T.enumerate (aa (pv 0) af)) (rO (n:=2) rfl (fk (aJ (i:=3) dG.nd rfl (by first | exact Or.inl rfl | exact Or.inr rfl)) (fk (aJ (i:=4) dG.nd rfl (by first | exact Or.inl rfl | exact Or.inr rfl)) n6)))
   (ak (b9 PassesOwn.never rfl (bK (pv 4)) (aJ (i:=5) dG.nd rfl (by first | exact Or.inl rfl | exact Or.inr rfl))
   (ak (bF (rM (iU (qh hr) (fY (aa (pv 3) (aa (pv 5) af))) (pv 1))) (ag (aB (i:=6) dG.nd rfl (by first | exact Or.inl rfl | exact Or.inr rfl) (aG qp hr bx (aa (pv 0) (aa (pv 3) (aa (pv 5) af)))))
   (ag (bR (cN PySem.F.plainAttrs_list PySem.F.slot_list_append PySem.F.type_list_append cK (pv 2) (aa (aG lY hr bx (aa (pv 6) af)) af)))
   (ak (b9 PassesOwn.never rfl (bK (aG zW hr bx (aa (pv 6) af))) (aJ (i:=7) dG.nd rfl (by first | exact Or.inl rfl | exact Or.inr rfl))
   (ak (tT (qh hr) (pv 1) (pv 7) fo rfl)))))) aR)))))
   (ak (aU (av (iF hr.units) (by rfl) T.sorted nu (aa (pv 2) af))))))),?_⟩
  dsimp only [dX]
  walk_at "rd"
  intro gd CO
  walk_at "rd"
  refine ⟨Nat.zero_le _,fun t ht=>?_⟩
  have tH:H t = none:=(ah.upd CO).free ht
  have e0:ah H (upd (upd H gd (.dT [])) t (.lst [])):=(ah.upd CO).trans (ah.upd ht)
  have g0:upd (upd H gd (.dT [])) t (.lst []) gd = some (.dT (kD [])):=by rw [aq (aw ae ht)]; exact ae
  have t0:aN (upd (upd H gd (.dT [])) t (.lst [])) t [] []:=⟨ae,rfl,fun i a l z=>by simp at z⟩
  generalize upd (upd H gd (.dT [])) t (.lst []) = H0 at e0 g0 t0 ⊢
  walk_at "rd"
  refine dq ?_
  refine ⟨_,rfl,p,rfl,⟨_,ay.of (e0 _ _ g.top)⟩,x6 (K:=K) (a:=p) (xs:=as.map V.ref) (fun i σ H1=>∃ (ks:List au) (bs:List Addr) (R:List (List Int)) (v3 v4 v5 v6 v7:Option V),σ = [some (.ref p),some (.ref gd),some (.ref t),v3,v4,v5,v6,v7]∧ah H H1∧H1 gd = some (.dT (kD ks))∧aN H1 t bs R∧(t :: bs).Nodup∧(∀ b∈t :: bs,H b = none)∧Lp L R ks∧∀ d,Dt L d→d.1 < i→d∈ks)
   ⟨[],[],[],none,none,none,none,none,rfl,e0,g0,t0,by simp,by simpa using tH,Lp.start,fun d h1 h2=>by have:=h1.lo; omega⟩ (fun i σ H1 _ ⟨_,_,_,_,_,_,_,_,_,e1,_⟩=>ay.of (e1 _ _ g.top)) ?_ ?_⟩
  ·rintro i x pr σ H1 hx ⟨ks,bs,R,v3,v4,v5,v6,v7,rfl,e1,g1,t1,mT,kS,xB,yO⟩ Dl
   have hi:i < L.length:=by
    have:=(List.getElem?_eq_some_iff.mp hx).1
    rw [List.length_map,g.len] at this
    exact this
   obtain ⟨b,l,ha,hl,eP⟩:=g.at hi
   obtain rfl:x = V.ref b:=by
    rw [List.getElem?_map,ha] at hx
    exact (Option.some.inj hx).symm
   have el:rowOf L (i:Int) = l:=by
    have:=aE (L:=L) (a:=(i:Int)) (by omega) (by omega)
    rw [Int.toNat_natCast,hl] at this
    exact (Option.some.inj this).symm
   have e2:ah H1 (upd H1 pr (.tup [.int i,.ref b])):=ah.upd Dl
   have g2:=e2 _ _ g1
   have t2:=t1.same e2
   have qW:=e1.trans e2
   refine iT (SqT.of ae) rfl ?_
   generalize upd H1 pr (.tup [.int i,.ref b]) = H2 at e2 g2 t2 qW ⊢
   walk_at "rd"
   refine dq ?_
   refine ⟨_,rfl,b,rfl,⟨_,ay.of (qW _ _ eP)⟩,du (K:=K) (a:=b) (xs:=l.map V.int) (fun k σ H3=>∃ (ks:List au) (bs:List Addr) (R:List (List Int)) (v5 v6 v7:Option V),σ = [some (.ref p),some (.ref gd),some (.ref t),some (.int (i:Int)),some (.ref b),v5,v6,v7]∧ah H H3∧H3 gd = some (.dT (kD ks))∧aN H3 t bs R∧(t :: bs).Nodup∧(∀ b∈t :: bs,H b = none)∧Lp L R ks∧∀ d,Dt L d→d.1 < i∨d.1 = i∧d.2∈l.take k→d∈ks)
    ⟨ks,bs,R,v5,v6,v7,rfl,qW,g2,t2,mT,kS,xB,fun d h1 h2=>yO d h1 (h2.elim id fun z=>by simp at z)⟩ (fun k σ H3 _ ⟨_,_,_,_,_,_,_,e,_⟩=>ay.of (e _ _ eP)) ?_ ?_⟩
   ·clear ks bs R v3 v4 v5 v6 v7 e1 g1 t1 mT kS xB yO e2 g2 t2 qW Dl hx
    rintro k x σ H3 hx ⟨ks,bs,R,v5,v6,v7,rfl,e3,g3,t3,xx,vO,vK,vt⟩
    obtain ⟨y,hy,rfl⟩:∃ y,l[k]? = some y∧x = V.int y:=by
     rw [List.getElem?_map] at hx
     cases e:l[k]? with
     | none=>rw [e] at hx; cases hx
     | some z=>rw [e] at hx; exact ⟨z,rfl,(Option.some.inj hx).symm⟩
    have dt:Dt L ((i:Int),y):=⟨by simp,by simpa using hi,by rw [el]; exact List.mem_of_getElem? hy⟩
    walk_at "rd"
    intro q1 Ko
    have e4:ah H3 (upd H3 q1 (.tup [.int i,.int y])):=ah.upd Ko
    have k4:upd H3 q1 (.tup [.int i,.int y]) q1 = some (.tup ((gz ((i:Int),y)).map kV)):=ae
    generalize upd H3 q1 (.tup [.int i,.int y]) = H4 at e4 k4 ⊢
    refine ⟨_,rfl,gd,_,rfl,jd.t (k:=gz ((i:Int),y)) (e4 _ _ g3) k4,?_⟩
    rw [fe]
    walk_at "rd"
    refine gL (fun GF=>?_) (fun Kc=>?_)
    ·walk_at "rd"
     refine ⟨p,as,L,((i:Int),y),rfl,g.same (e3.trans e4),im,dt,hd,fun r n H5 e5 r0 r5 n0 ek nr=>?_⟩
     have DZ:(az L ((i:Int),y) n).length = n:=by unfold az; simp
     have UL:=km im dt nr
     have Oi:=e5 _ _ (e4 _ _ g3)
     have t5:=(t3.same e4).same e5
     have Ov:=(e3.trans e4).trans e5
     walk_at "rd"
     refine ⟨.inl ⟨rfl,_,ay.of t5.top⟩,?_⟩
     walk_at "rd"
     refine ⟨r,_,rfl,r5,by omega,by omega,fun c cc H6 e6 c0 c6 E4 qo=>?_⟩
     rw [DZ] at E4 qo
     have t6:=t5.same e6
     have nc:=t5.ft c0
     have g6:=e6 _ _ Oi
     have r6:=e6 _ _ r5
     have rH:H r = none:=(e3.trans e4).free r0
     have QQ:r≠t:=fun z=>by rw [z] at r0; exact absurd (t3.same e4).top (by rw [r0]; simp)
     have JE:=vK.add im dt n0 ek nr GF E4 qo
     have lb:=JE.len
     have l2:=JE.two
     rw [List.length_append,cW,DZ] at lb
     have zR:=t6.len
     have l3:=vK.two
     walk_at "rd"
     refine dJ t6.top (by rw [List.length_map]; exact ax (by omega)) ?_
     have EB:c≠t:=fun z=>nc (z▸List.mem_cons_self)
     have t7:=t6.snoc (List.nodup_cons.mp xx).1 EB c6
     have e7:ah H (upd H6 t (.lst (bs.map V.ref ++ [.ref c]))):=ah.fresh (Ov.trans e6) tH
     have g7:upd H6 t (.lst (bs.map V.ref ++ [.ref c])) gd = some (.dT (kD ks)):=by rw [aq (fun z=>by have:=t6.top; rw [← z,g6] at this; cases this)]; exact g6
     have r7:upd H6 t (.lst (bs.map V.ref ++ [.ref c])) r = some (.lst ((az L ((i:Int),y) n).map V.int)):=by rw [aq QQ]; exact r6
     generalize upd H6 t (.lst (bs.map V.ref ++ [.ref c])) = H7 at t7 e7 g7 r7 ⊢
     have EA:(t :: (bs ++ [c])).Nodup:=by
      obtain ⟨n1,n2⟩:=List.nodup_cons.mp xx
      refine List.nodup_cons.mpr ⟨fun z=>?_,fg.mpr ⟨fun z=>nc (List.mem_cons_of_mem _ z),n2⟩⟩
      rcases List.mem_append.mp z with z | z
      ·exact n1 z
      ·exact EB (List.mem_singleton.mp z).symm
     have SG:∀ b∈t :: (bs ++ [c]),H b = none:=fun b hb=>by
      rcases List.mem_cons.mp hb with z | z
      ·rw [z]; exact tH
      ·rcases List.mem_append.mp z with z | z
       ·exact vO b (List.mem_cons_of_mem _ z)
       ·rw [List.mem_singleton.mp z]; exact Ov.free c0
     walk_at "rd"
     refine dq ?_
     refine ⟨_,rfl,r,_,rfl,r7,by omega,by omega,fun sl ps Hs es MQ MP Qd=>?_⟩
     have SQ:=e7.trans es
     have Sy:=es _ _ g7
     have Pk:=t7.same es
     have Ny:=JE.perm ((List.perm_append_left_iff ks).mpr (fB (az L ((i:Int),y) n) (n - 1)).symm)
     refine ⟨sl,rfl,⟨_,ay.of MP⟩,du (K:=K) (a:=sl) (xs:=ps.map V.ref) (fun j σ H8=>∃ v7:Option V,σ = [some (.ref p),some (.ref gd),some (.ref t),some (.int (i:Int)),some (.ref b),some (.int y),some (.ref r),v7]∧ah H H8∧H8 gd = some (.dT (kD (ks ++ (sh 0 (az L ((i:Int),y) n)).take j)))∧aN H8 t (bs ++ [c]) (R ++ [cz (az L ((i:Int),y) n) cc])∧H8 sl = some (.lst (ps.map V.ref))∧PR H8 ps (sh 0 (az L ((i:Int),y) n)))
      ⟨_,rfl,SQ,by rw [List.take_zero,List.append_nil]; exact Sy,Pk,MP,Qd⟩ (fun j σ H8 _ ⟨_,_,_,_,_,e,_⟩=>ay.of e) ?_ ?_⟩
     ·rintro j x σ H8 hx ⟨w7,rfl,e8,g8,t8,s8,Ek⟩
      have N1:j < ps.length:=by
       have:=(List.getElem?_eq_some_iff.mp hx).1
       rw [List.length_map] at this
       exact this
      have KL:j < (az L ((i:Int),y) n).length:=by
       have:=Ek.len
       rw [cW] at this
       omega
      obtain ⟨d8,N9,k8⟩:=Ek.at (i:=j) (a:=ps[j]) (by simp [N1])
      obtain rfl:x = V.ref ps[j]:=by
       rw [List.getElem?_map,List.getElem?_eq_getElem N1] at hx
       exact (Option.some.inj hx).symm
      have new:=d9 Ny.nd N9
      walk_at "rd"
      refine ⟨gd,_,rfl,qS.t (k:=gz d8) g8 k8 ?_,?_⟩
      ·rw [xN,List.length_append,List.length_take]
       exact ax (by omega)
      ·rw [pO new,List.append_assoc,← take_snoc N9]
       refine ⟨_,rfl,ah.fresh e8 CO,ae,t8.other g8,?_,Paired.zF Ek fun a z h=>?_⟩
       ·rw [aq (fun z=>by rw [z,g8] at s8; cases s8)]
        exact s8
       ·rw [aq (fun w=>by rw [w,g8] at h; cases h)]
        exact h
     ·rintro σ H8 ⟨w7,rfl,e8,g8,t8,s8,Ek⟩
      rw [List.length_map,Ek.len,List.take_length] at g8
      refine ⟨_,_,_,_,_,_,rfl,e8,g8,t8,EA,SG,Ny,fun d h1 h2=>?_⟩
      rw [take_snoc hy] at h2
      by_cases z:d = ((i:Int),y)
      ·rw [z]
       refine List.mem_append_right _ ((eI (by omega)).mpr ⟨0,?_⟩)
       rw [fN n0 ek]; rfl
      ·refine List.mem_append_left _ (vt d h1 ?_)
       rcases h2 with h2 | ⟨h2,h3⟩
       ·exact .inl h2
       ·rcases List.mem_append.mp h3 with h3 | h3
        ·exact .inr ⟨h2,h3⟩
        ·exact absurd (Prod.ext h2 (List.mem_singleton.mp h3)) z
    ·refine ⟨ks,bs,R,_,_,_,rfl,e3.trans e4,e4 _ _ g3,t3.same e4,xx,vO,vK,fun d h1 h2=>?_⟩
     rw [take_snoc hy] at h2
     rcases h2 with h2 | ⟨h2,h3⟩
     ·exact vt d h1 (.inl h2)
     ·rcases List.mem_append.mp h3 with h3 | h3
      ·exact vt d h1 (.inr ⟨h2,h3⟩)
      ·rw [show d = ((i:Int),y) from Prod.ext h2 (List.mem_singleton.mp h3)]; exact Kc
   ·rintro σ H3 ⟨ks,bs,R,v5,v6,v7,rfl,e3,g3,t3,xx,vO,vK,vt⟩
    rw [List.length_map,List.take_length] at vt
    refine ⟨ks,bs,R,_,_,_,_,_,rfl,e3,g3,t3,xx,vO,vK,fun d h1 h2=>vt d h1 ?_⟩
    by_cases z:d.1 = i
    ·refine .inr ⟨z,?_⟩
     have:=h1.mem
     rw [z,el] at this
     exact this
    ·exact .inl (by omega)
  ·rintro σ H1 ⟨ks,bs,R,v3,v4,v5,v6,v7,rfl,e1,g1,t1,mT,kS,xB,yO⟩
   rw [List.length_map,g.len] at yO
   walk_at "rd"
   have zR:=t1.len
   have lb:=xB.len
   have l2:=xB.two
   refine ⟨t,bs,R,rfl,ay.of t1.top,t1.len,fun i b l h1 h2=>ay.of (t1.row i b l h1 h2),by omega,fun pp qd hp zO hq=>?_⟩
   have pm:=dz (d:=(0:Addr)) (L:=bs) (p:=pp) (by rw [zR]; exact hp)
   refine q qd (pick 0 bs pp) (pick [] R pp) _ (e1.trans (ah.upd hq)) (t1.pick hp hq) ?_ (fun b hb=>?_) (xB.lands hp zO fun d hd=>yO d hd hd.hi)
   ·refine List.nodup_cons.mpr ⟨fun z=>t1.ft hq (List.mem_cons_of_mem _ (pm.mem_iff.mp z)),pm.nodup_iff.mpr (List.nodup_cons.mp mT).2⟩
   ·rcases List.mem_cons.mp hb with z | z
    ·rw [z]; exact e1.free hq
    ·exact kS b (List.mem_cons_of_mem _ (pm.mem_iff.mp z))
theorem hX:aQ ["order", "new", "old", "where"] ["order", "new", "old"] (aj bX):=⟨rfl,rfl,rfl,by decide +kernel,rfl,by decide +kernel,by decide +kernel⟩
theorem oq (D:Def K mg "put_ahead" bX ["order", "new", "old"]) (T:Txt K mg Z):df P w K mg base (cA P w) "put_ahead" 1 ["order", "new", "old"] jf:=by
 refine D.ef hX (fun vs H Q E h=>?_) (fun f de A outer s H vs Q E hr h=>?_)
 ·obtain ⟨a,l,x,y,rfl,_⟩:=h; rfl
 ·obtain ⟨a,l,x,y,rfl,ha,hy,hl,q⟩:=h
  have ii:=List.idxOf_lt_length_of_mem hy
  refine ⟨_,(ag (aB (i:=3) hX.nd rfl (by first | exact Or.inl rfl | exact Or.inr rfl) (cN PySem.F.plainAttrs_list PySem.F.slot_list_index PySem.F.type_list_index dM (pv 0) (aa (pv 2) af)))
   (ak (aU (aA fI (aA fI (bG dE (pv 0) bU (cu (pv 3))) (bz (aa (pv 1) af))) (bG dE (pv 0) (cu (pv 3)) bU))))),?_⟩
  dsimp only [dX]
  walk_at "rd"
  refine ⟨.inl ⟨rfl,_,ay.of ha⟩,?_⟩
  walk_at "rd"
  refine ⟨a,_,y,rfl,rfl,ha,hy,?_⟩
  walk_at "rd"
  refine fD (a:=a) (i:=0) (k:=3) (n:=l.idxOf y) (r:=l) rfl rfl (ay.of ha) (by omega) fun p1 qj=>?_
  have e1:ah H (upd H p1 (.lst ((l.take (l.idxOf y)).map V.int))):=ah.upd qj
  have x1:upd H p1 (.lst ((l.take (l.idxOf y)).map V.int)) p1 = some (.lst ((l.take (l.idxOf y)).map V.int)):=ae
  generalize upd H p1 (.lst ((l.take (l.idxOf y)).map V.int)) = H1 at e1 x1 ⊢
  walk_at "rd"
  refine ⟨by rw [PySem.sizeLine_eq]; simp,fun p2 oD=>?_⟩
  have e2:=e1.trans (ah.upd (o:=.lst [.int x]) oD)
  have x2:upd H1 p2 (.lst [.int x]) p1 = some (.lst ((l.take (l.idxOf y)).map V.int)):=ah.upd oD _ _ x1
  have y2:upd H1 p2 (.lst [.int x]) p2 = some (.lst [.int x]):=ae
  generalize upd H1 p2 (.lst [.int x]) = H2 at e2 x2 y2 ⊢
  refine ⟨p1,p2,_,_,rfl,rfl,x2,y2,by rw [List.length_map,List.length_take,PySem.sizeLine_eq]; simp; omega,fun p3 GC=>?_⟩
  have e3:=e2.trans (ah.upd (o:=.lst ((l.take (l.idxOf y)).map V.int ++ [.int x])) GC)
  have x3:upd H2 p3 (.lst ((l.take (l.idxOf y)).map V.int ++ [.int x])) p3 = some (.lst ((l.take (l.idxOf y)).map V.int ++ [.int x])):=ae
  generalize upd H2 p3 (.lst ((l.take (l.idxOf y)).map V.int ++ [.int x])) = H3 at e3 x3 ⊢
  refine fj (a:=a) (i:=0) (k:=3) (n:=l.idxOf y) (r:=l) rfl rfl (ay.of (e3 _ _ ha)) (by omega) fun p4 NQ=>?_
  have e4:=e3.trans (ah.upd (o:=.lst ((l.drop (l.idxOf y)).map V.int)) NQ)
  have x4:=ah.upd (o:=.lst ((l.drop (l.idxOf y)).map V.int)) NQ _ _ x3
  have y4:upd H3 p4 (.lst ((l.drop (l.idxOf y)).map V.int)) p4 = some (.lst ((l.drop (l.idxOf y)).map V.int)):=ae
  generalize upd H3 p4 (.lst ((l.drop (l.idxOf y)).map V.int)) = H4 at e4 x4 y4 ⊢
  refine ⟨p3,p4,_,_,rfl,rfl,x4,y4,by simp only [List.length_append,List.length_map,List.length_take,List.length_drop,List.length_cons,List.length_nil]; rw [PySem.sizeLine_eq]; omega,fun b hb=>?_⟩
  have ep:(l.take (l.idxOf y)).map V.int ++ [.int x] ++ (l.drop (l.idxOf y)).map V.int = (put l (l.idxOf y) x).map V.int:=by unfold put; simp
  rw [ep]
  walk_at "rd"
  exact q b _ (e4.trans (ah.upd hb)) (e4.free hb) ae
theorem wx:aQ ["numbers"] ["numbers"] (aj eT):=⟨rfl,rfl,rfl,by decide +kernel,rfl,by decide +kernel,by decide +kernel⟩
theorem xq (D:Def K mg "rises" eT ["numbers"]) (T:Txt K mg Z):df P w K mg base (cA P w) "rises" 1 ["numbers"] pG:=by
 refine D.ef wx (fun vs H Q E h=>?_) (fun f de A outer s H vs Q E hr h=>?_)
 ·obtain ⟨a,cs,rfl,_⟩:=h; rfl
 ·obtain ⟨a,cs,rfl,ha,gM,hl,q⟩:=h
  refine ⟨_,(ak (aU (av (yv rfl) (by rfl) T.all C9 (aa (fG (tg:=["one", "other"]) (fr:=[]) (by walk_at "blk_ok") rfl (xg T.zip (aa (pv 0) (aa (bG dE (pv 0) (cu ao) bU) af))) (fun _ _ _ _ _=>(zw (K:=K) rfl (n:=2) rfl (fk (aJ (i:=0) (show [("one" : Str),("other" : Str)].Nodup by decide +kernel) rfl (by first | exact Or.inl rfl | exact Or.inr rfl)) (fk (aJ (i:=1) (show [("one" : Str),("other" : Str)].Nodup by decide +kernel) rfl (by first | exact Or.inl rfl | exact Or.inr rfl)) n6)))) (fun _ _ _ _ _=>cU) (fun _ _ _ _ _=>(oj xl (pv 0) (pv 1) (aW _)))) af)))),?_⟩
  dsimp only [dX]
  obtain ⟨x0,ct,GJ⟩:∃ x ct,(aT cs).map V.int = x :: ct:=by
   cases cs with
   | nil=>exact absurd rfl gM
   | cons c cs=>exact ⟨_,_,rfl⟩
  have US:ct.length + 1 = cs.length:=by
   have:=congrArg List.length GJ
   rw [List.length_map,aT,List.length_map,List.length_cons] at this
   omega
  have Lz:∀ i,ct[i]? = ((aT cs).map V.int)[i + 1]?:=fun i=>by rw [GJ,List.getElem?_cons_succ]
  walk_at "rd"
  refine dS ?_
  refine dy (r_var rfl (dy (BS (a:=a) (i:=0) rfl (ay.of (by rw [ha,GJ])) fun b hb=>gC ?_)))
  have e1:ah H (upd H b (.lst ct)):=ah.upd hb
  have b1:upd H b (.lst ct) b = some (.lst ct):=ae
  generalize upd H b (.lst ct) = H1 at e1 b1 ⊢
  have a1:=e1 _ _ ha
  refine ⟨a,b,rfl,⟨_,ay.of a1⟩,⟨_,ay.of b1⟩,fun acc bT=>?_⟩
  refine yo (K:=K) (a:=a) (b:=b) (xs:=(aT cs).map V.int) (ys:=ct) (n:=ct.length) (by rw [List.length_map,aT,List.length_map]; omega) (fun i σ' ys H2=>∃ (v v':Option V) (ts:List Bool),σ' = [v,v']∧ys = ts.map V.bl∧ts.length = i∧ah H1 H2∧H2 acc = some (.lst ys)∧(ts.all id = true↔∀ (j x y:Nat),j < i→cs[j]? = some x→cs[j + 1]? = some y→x < y))
   ⟨none,none,[],rfl,rfl,rfl,ah.upd bT,ae,by simp⟩ (fun i σ' ys H2 _ ⟨_,_,_,_,_,_,e,_⟩=>⟨ay.of (e _ _ a1),ay.of (e _ _ b1)⟩) ?_ ?_
  ·rintro i x y pr σ' ys H2 hx hy hi ⟨v,v',ts,rfl,rfl,NJ,e2,a2,iff⟩ Dl
   rw [Lz] at hy
   unfold aT at hx hy
   rw [List.getElem?_map,List.getElem?_map] at hx hy
   cases ex:cs[i]? with
   | none=>rw [ex] at hx; cases hx
   | some cx=>
   cases ey:cs[i + 1]? with
   | none=>rw [ey] at hy; cases hy
   | some cy=>
   rw [ex] at hx
   rw [ey] at hy
   obtain rfl:V.int (cx:Int) = x:=Option.some.inj hx
   obtain rfl:V.int (cy:Int) = y:=Option.some.inj hy
   have e3:ah H2 (upd H2 pr (.tup [.int (cx:Int),.int (cy:Int)])):=ah.upd Dl
   refine iT (SqT.of ae) rfl ?_
   generalize upd H2 pr (.tup [.int (cx:Int),.int (cy:Int)]) = H3 at e3 ⊢
   walk_at "rd"
   refine ⟨(e3 _ _ a2),by rw [List.length_map]; exact ax (by omega),ct.length - (i + 1),by omega,rfl,by omega,_,_,ts ++ [decide ((cx:Int) < cy)],rfl,by simp,by simp [NJ],ah.fresh (e2.trans e3) bT,ae,?_⟩
   rw [List.all_append,Bool.and_eq_true,iff]
   constructor
   ·rintro ⟨h1,h2⟩ j x y hj q1 q2
    by_cases z:j = i
    ·subst z
     rw [ex] at q1; rw [ey] at q2
     cases q1; cases q2
     have:(cx:Int) < cy:=by simpa using h2
     omega
    ·exact h1 j x y (by omega) q1 q2
   ·intro h
    have:=h i cx cy (by omega) ex ey
    exact ⟨fun j x y hj=>h j x y (by omega),by simpa using this⟩
  ·rintro σ' ys H2 ⟨v,v',ts,rfl,rfl,NJ,e2,a2,iff⟩
   walk_at "rd"
   refine ⟨acc,ts,rfl,ay.of a2,?_⟩
   refine q _ _ (e1.trans e2) (iff.trans ?_)
   rw [jZ]
   constructor
   ·intro h j x y q1 q2
    have:=(List.getElem?_eq_some_iff.mp q2).1
    exact h j x y (by omega) q1 q2
   ·intro h j x y _ q1 q2
    exact h j x y q1 q2
theorem eC:aQ ["orders", "land", "corners", "ring", "joined", "changed", "corner", "place"] ["orders", "land", "corners"] (aj dH):=⟨rfl,rfl,rfl,by decide +kernel,rfl,by decide +kernel,by decide +kernel⟩
theorem uX (D:Def K mg "placed" dH ["orders", "land", "corners"]) (T:Txt K mg Z) (zY:df P w K mg base (cA P w) "lands" 3 ["orders"] hW) (qr:df P w K mg base (cA P w) "put_ahead" 1 ["order", "new", "old"] jf) (zX:df P w K mg base (cA P w) "rises" 1 ["numbers"] pG):df P w K mg base (cA P w) "placed" 5 ["orders", "land", "corners"] (iR Z.dQ):=by
 refine D.KW eC (fun vs H Q E h=>?_) (fun f de A outer s H vs Q E hr h=>?_)
 ·obtain ⟨p,rc,as,L,R,r,m,cs,rfl,_⟩:=h; rfl
 ·obtain ⟨p,rc,as,L,R,r,m,cs,rfl,g,im,hn,hd,lR,hm,jm,sq,qo,q,qE⟩:=h
  have gd:=lR.good r (List.mem_of_getElem? hm)
  have two:=gd.two
  refine ⟨_,(ag (bF (PW.pt (pw_or (aK gE (av aM (by rfl) T.len aZ (aa (pv 2) af)) ao (aW _)) (pw_or1 (gI (fE (aG zX hr bx (aa (pv 2) af))))))) (ak (pQ PySem.F.excBase_ValueError T.x_NoTie T.oP rfl (aa xh af) wC)) aR)
   (ag (aB (i:=3) eC.nd rfl (by first | exact Or.inl rfl | exact Or.inr rfl) (aV aD (aG zY hr bx (aa (pv 0) af)) (pv 1) (fun _ _=>rfl)))
   (ag (fF (i:=4) eC.nd rfl (by first | exact Or.inl rfl | exact Or.inr rfl) (tg:=["corner"]) (fr:=[("ring",3)]) (by walk_at "blk_ok") rfl (bK (pv 2)) (fun _ _ _ _ _=>(aJ (i:=0) (show [("corner" : Str),("ring" : Str)].Nodup by decide +kernel) rfl (by first | exact Or.inl rfl | exact Or.inr rfl))) (fun _ _ _ _ _=>cU) (fun _ _ _ _ _=>(aV (fv (K:=K) rfl) (pv 1) (pv 0) (fun _ _=>rfl))))
   (ag (bF (aK mQ (av nq (by rfl) T.len aZ (aa (fm (ni rfl) (by rfl) T.set yA (aa (pv 4) af)) af)) (av aM (by rfl) T.len aZ (aa (pv 4) af)) (aW _)) (ak (pQ PySem.F.excBase_ValueError T.x_NoTie T.oP rfl (aa xh af) wC)) aR)
   (ag (fF (i:=5) eC.nd rfl (by first | exact Or.inl rfl | exact Or.inr rfl) (tg:=["order"]) (fr:=[]) (by walk_at "blk_ok") rfl (bK (pv 0)) (fun _ _ _ _ _=>(aJ (i:=0) (show [("order" : Str)].Nodup by decide +kernel) rfl (by first | exact Or.inl rfl | exact Or.inr rfl))) (fun _ _ _ _ _=>cU) (fun _ _ _ _ _=>(bG (fh (K:=K) rfl) (pv 0) bU bU)))
   (ag (b9 PassesOwn.leaving rfl (bK (pv 2)) (aJ (i:=6) eC.nd rfl (by first | exact Or.inl rfl | exact Or.inr rfl))
   (ag (aB (i:=7) eC.nd rfl (by first | exact Or.inl rfl | exact Or.inr rfl) (aV aD (pv 3) (pv 6) (fun _ _=>rfl)))
   (ak (B2 (aG qr hr bx (aa (aV aD (pv 0) (pv 7) (fun _ _=>rfl)) (aa (av aM (by rfl) T.len aZ (aa (pv 0) af)) (aa (aV aD (pv 3) (aA gJ (pv 6) ao) (fun _ _=>rfl)) af)))) (B3 (pv 5) (pv 7) set_list)))))
   (ak (aU (aA fI (pv 5) (bz (aa (pv 4) af))))))))))),?_⟩
  dsimp only [dX]
  refine r_seq (A2 (fun H'=>ah H H'∧¬ vF r cs) (fun H'=>ah H H'∧cs≠[]∧cs.Pairwise (· < ·)) (fun H' ⟨e,no⟩=>?_) (fun H1 ⟨e1,c0,yq⟩=>?_) (fun RR yes no=>?_))
  ·walk_at "rd"
   exact ⟨by rw [PySem.sizeLine_eq]; simp,qE no _ e⟩
  ·walk_at "rd"
   have g1:=g.same e1
   refine ⟨p,as,L,rfl,g1,im,by omega,hd,fun t ts R' H2 e2 t2 vJ vk Rb=>?_⟩
   obtain rfl:R' = R:=Rb.unique lR
   obtain ⟨ra,r',Kn,NP,mY⟩:=t2.at (i:=m) (List.getElem?_eq_some_iff.mp hm).1
   obtain rfl:r = r':=by rw [hm] at NP; exact Option.some.inj NP
   walk_at "rd"
   refine aS (ay.of t2.top) (t2.ix Kn) ?_
   have Ld:=e1.trans e2
   have zf:=Ld _ _ jm
   walk_at "rd"
   refine dS ?_
   refine ⟨_,rfl,rc,rfl,⟨_,ay.of zf⟩,fun jo zV=>?_⟩
   refine dC (K:=K) (a:=rc) (xs:=(aT cs).map V.int) (fun i σ' ys Hx=>∃ v:Option V,σ' = [v,some (.ref ra)]∧ys = ((cs.take i).map (cy r)).map V.int∧ah H2 Hx∧Hx jo = some (.lst ys))
    ⟨none,rfl,rfl,ah.upd zV,ae⟩ (fun i σ' ys Hx _ ⟨_,_,_,e,_⟩=>ay.of (e _ _ zf)) ?_ ?_
   ·rintro i x σ' ys Hx hx hi ⟨v,rfl,rfl,e3,a3⟩
    obtain ⟨c,hc,rfl⟩:∃ c:Nat,cs[i]? = some c∧x = V.int (c:Int):=by
     unfold aT at hx
     rw [List.getElem?_map,List.getElem?_map] at hx
     cases e:cs[i]? with
     | none=>rw [e] at hx; cases hx
     | some z=>rw [e] at hx; exact ⟨z,rfl,(Option.some.inj hx).symm⟩
    have vg:=sq c (List.mem_of_getElem? hc)
    walk_at "rd"
    refine aS (ay.of (e3 _ _ mY)) (cg (j:=c) (by omega) (by omega) (.inl rfl)) ?_
    refine ⟨a3,by rw [List.length_map,List.length_map,List.length_take]; exact ax (by omega),eW hi ⟨_,rfl,?_,ah.fresh e3 zV,ae⟩⟩
    rw [take_snoc hc]
    simp
   ·rintro σ' ys H3 ⟨v,rfl,rfl,e3,a3⟩
    have el:((aT cs).map V.int).length = cs.length:=by rw [List.length_map,aT,List.length_map]
    rw [el,List.take_length] at a3
    have g3:=(g1.same e2).same e3
    have MX:=e3 _ _ zf
    have M0:=e3 _ _ mY
    walk_at "rd"
    refine ⟨jo,_,rfl,ay.of a3,by rw [List.length_map]; omega,fun se S Kl=>?_⟩
    have e4:ah H3 (upd H3 se (.set S (dW (cs.map (cy r))).length)):=ah.upd Kl
    have s4:upd H3 se (.set S (dW (cs.map (cy r))).length) se = some (.set S (dW (cs.map (cy r))).length):=ae
    generalize upd H3 se (.set S (dW (cs.map (cy r))).length) = H4 at e4 s4 ⊢
    refine ⟨se,_,_,rfl,s4,?_⟩
    walk_at "rd"
    refine ⟨_,_,rfl,.inl ⟨_,ay.of (e4 _ _ a3),rfl⟩,?_⟩
    rw [List.length_map]
    walk_at "rd"
    have Hc:=(Ld.trans e3).trans e4
    refine gL (fun gM=>?_) (fun heq=>?_)
    ·walk_at "rd"
     exact ⟨by rw [PySem.sizeLine_eq]; simp,qE (fun ⟨_,_,z⟩=>gM (by rw [(iC _).mpr z])) _ Hc⟩
    ·have nd:(cs.map (cy r)).Nodup:=(iC _).mp (by omega)
     have g4:=g3.same e4
     walk_at "rd"
     refine zk (i:=0) rfl g4 (by omega) fun ch yP H5 e5 g5 Jz Ff=>?_
     walk_at "rd"
     have PN:=e5 _ _ (e4 _ _ MX)
     have UG:=e5 _ _ (e4 _ _ M0)
     have Oi:=g4.same e5
     have UW:=e5 _ _ (e4 _ _ a3)
     refine dq ?_
     refine ⟨_,rfl,rc,rfl,⟨_,ay.of PN⟩,du (K:=K) (a:=rc) (xs:=(aT cs).map V.int) (fun k σ H6=>∃ (bs:List Addr) (v6 v7:Option V),σ = [some (.ref p),some (.int (m:Int)),some (.ref rc),some (.ref ra),some (.ref jo),some (.ref ch),v6,v7]∧ah H4 H6∧aN H6 ch bs (gD L r (cs.take k))∧(ch :: bs).Nodup∧∀ b∈ch :: bs,H4 b = none)
      ⟨yP,none,none,rfl,e5,g5,Jz,Ff⟩ (fun k σ H6 _ ⟨_,_,_,_,e,_⟩=>ay.of (e _ _ (e4 _ _ MX))) ?_ ?_⟩
     ·rintro k x σ H6 hx ⟨bs,v6,v7,rfl,e6,g6,Gw,Fe⟩
      obtain ⟨c,hc,rfl⟩:∃ c:Nat,cs[k]? = some c∧x = V.int (c:Int):=by
       unfold aT at hx
       rw [List.getElem?_map,List.getElem?_map] at hx
       cases e:cs[k]? with
       | none=>rw [e] at hx; cases hx
       | some z=>rw [e] at hx; exact ⟨z,rfl,(Option.some.inj hx).symm⟩
      have vg:=sq c (List.mem_of_getElem? hc)
      obtain ⟨x0,x1,eP,zm,sm⟩:=eN im gd c
      have BQ:=e6 _ _ (e4 _ _ M0)
      have Bh:=g4.same e6
      obtain ⟨ca,la,ha,uk,dO⟩:=Bh.at (i:=(cy r c).toNat) (by omega)
      obtain rfl:la = rowOf L (cy r c):=by rw [eP] at uk; exact (Option.some.inj uk).symm
      have ia:mh (as.map V.ref) (cy r c) = some (V.ref ca):=by
       have:=Bh.ix ha
       rwa [Int.toNat_of_nonneg x0] at this
      walk_at "rd"
      refine aS (ay.of BQ) (cg (j:=c) (by omega) (by omega) (.inl rfl)) ?_
      walk_at "rd"
      refine aS (ay.of Bh.top) ia ?_
      walk_at "rd"
      refine ⟨_,_,rfl,.inl ⟨_,ay.of Bh.top,rfl⟩,?_⟩
      rw [List.length_map,Bh.len]
      walk_at "rd"
      refine aS (ay.of BQ) (cg (j:=c + (r.length - 1)) (by omega) (by omega) (.inr (by omega))) ?_
      walk_at "rd"
      refine ⟨ca,rowOf L (cy r c),(L.length:Int),cy r (c + (r.length - 1)),rfl,dO,zm,by omega,fun n1 H7 e7 f7 h7=>?_⟩
      have g7:=g6.same e7
      have Nx:n1∉ch :: bs:=fun z=>g6.ft f7 z
      walk_at "rd"
      refine BV ?_
      walk_at "rd"
      refine ⟨ch,_,_,_,rfl,rfl,g7.top,Cq x0 (by rw [List.length_map,g7.len,cJ]; exact x1),?_⟩
      have g8:=g7.BI (k:=(cy r c).toNat) (List.nodup_cons.mp Gw).1 (fun z=>Nx (z▸List.mem_cons_self)) h7
      have QY:=u4 (k:=(cy r c).toNat) Gw Nx
      have SF:=vj (k:=(cy r c).toNat) Fe (e6.free f7)
      refine ⟨bs.set (cy r c).toNat n1,_,_,rfl,ah.fresh (e6.trans e7) (Fe _ List.mem_cons_self),?_,QY,SF⟩
      rw [take_snoc hc,j7]
      exact g8
     ·rintro σ H6 ⟨bs,v6,v7,rfl,e6,g6,Gw,Fe⟩
      rw [el,List.take_length] at g6
      have Rq:=e6 _ _ (e4 _ _ a3)
      walk_at "rd"
      refine ⟨by rw [PySem.sizeLine_eq]; simp,fun o1 Dm=>?_⟩
      have e7:ah H6 (upd H6 o1 (.lst [.ref jo])):=ah.upd Dm
      have o7:upd H6 o1 (.lst [.ref jo]) o1 = some (.lst [.ref jo]):=ae
      generalize upd H6 o1 (.lst [.ref jo]) = H7 at e7 o7 ⊢
      have g7:=g6.same e7
      have l7:bs.length = L.length:=by rw [g6.len,cJ]
      refine ⟨ch,o1,_,_,rfl,rfl,g7.top,o7,by rw [List.length_map]; simp; exact Nat.le_of_lt (ax (by omega)),fun t zP=>?_⟩
      have NC:=e7 _ _ Rq
      have e8:ah H7 (upd H7 t (.lst (bs.map V.ref ++ [.ref jo]))):=ah.upd zP
      have t8:upd H7 t (.lst (bs.map V.ref ++ [.ref jo])) t = some (.lst (bs.map V.ref ++ [.ref jo])):=ae
      generalize upd H7 t (.lst (bs.map V.ref ++ [.ref jo])) = H8 at e8 t8 ⊢
      walk_at "rd"
      have SR:ah H4 H8:=(e6.trans e7).trans e8
      have jn:jo∉ch :: bs:=fun z=>by
       have:=Fe _ z
       rw [e4 _ _ a3] at this
       cases this
      have tn:t∉ch :: bs:=fun z=>g7.ft zP z
      have tj:t≠jo:=fun z=>by rw [z,NC] at zP; cases zP
      refine q ⟨c0,yq,nd⟩ t (bs ++ [jo]) H8 (Hc.trans SR) ((g7.same e8).yt t8 (e8 _ _ NC)) ?_ fun b hb=>?_
      ·obtain ⟨n1,n2⟩:=List.nodup_cons.mp Gw
       refine List.nodup_cons.mpr ⟨fun z=>?_,fg.mpr ⟨fun z=>jn (List.mem_cons_of_mem _ z),n2⟩⟩
       rcases List.mem_append.mp z with z | z
       ·exact tn (List.mem_cons_of_mem _ z)
       ·exact tj (List.mem_singleton.mp z)
      ·rcases List.mem_cons.mp hb with z | z
       ·rw [z]; exact ((Hc.trans e6).trans e7).free zP
       ·rcases List.mem_append.mp z with z | z
        ·exact Hc.free (Fe b (List.mem_cons_of_mem _ z))
        ·rw [List.mem_singleton.mp z]; exact Ld.free zV
  ·walk_at "rd"
   refine ⟨_,_,rfl,.inl ⟨_,ay.of jm,rfl⟩,?_⟩
   rw [List.length_map,aT,List.length_map]
   walk_at "rd"
   refine if2 (fun h0=>yes _ ⟨fun _ _ e=>e,fun z=>z.1 (List.length_eq_zero_iff.mp (by omega))⟩) (fun h0=>?_)
   walk_at "rd"
   have c0:cs≠[]:=fun z=>h0 (by rw [z]; rfl)
   refine ⟨rc,cs,rfl,jm,c0,by omega,fun H1 b e1 hb=>?_⟩
   walk_at "rd"
   cases b with
   | true=>exact no _ ⟨e1,c0,hb.mp rfl⟩
   | false=>exact yes _ ⟨e1,fun z=>by have:=hb.mpr z.2.1; cases this⟩
theorem bu:aQ ["_law_ring", "_law_number", "_law_found", "_law_way"] ["_law_ring", "_law_number"] (aj bq):=⟨rfl,rfl,rfl,by decide +kernel,rfl,by decide +kernel,by decide +kernel⟩
theorem jy (D:Def K mg "_law_corners" bq ["_law_ring", "_law_number"]) (T:Txt K mg Z):df P w K mg base (cA P w) "_law_corners" 1 ["_law_ring", "_law_number"] jW:=by
 refine D.ef bu (fun vs H Q E h=>?_) (fun f de A outer s H vs Q E hr h=>?_)
 ·obtain ⟨ra,r,n,rfl,_⟩:=h; rfl
 ·obtain ⟨ra,r,n,rfl,mY,n0,n1,hl,q⟩:=h
  refine ⟨_,(ag (fF (i:=2) bu.nd rfl (by first | exact Or.inl rfl | exact Or.inr rfl) (tg:=["_law_at"]) (fr:=[("_law_number",1)]) (by walk_at "blk_ok") rfl (bV rfl T.range (aa (av aM (by rfl) T.len aZ (aa (pv 0) af)) af)) (fun _ _ _ _ _=>(aJ (i:=0) (show [("_law_at" : Str),("_law_number" : Str)].Nodup by decide +kernel) rfl (by first | exact Or.inl rfl | exact Or.inr rfl))) (fun _ _ _ _ _=>(h9 (aK mQ (aA bw (aA cR (aA cQ (pv 1) ao) (aA fH (pv 0) (aA cQ (pv 1) ao))) ao) ao (aW _)))) (fun _ _ _ _ _=>(pv 0)))
   (ag (aB (i:=3) bu.nd rfl (by first | exact Or.inl rfl | exact Or.inr rfl) (aA bw (aA cQ (pv 1) ao) ao))
   (ag (bF (aK gE (pv 3) ao (aW _)) (ak (bR (B7 PySem.F.plainAttrs_list PySem.F.slot_list_reverse PySem.F.type_list_reverse rX (pv 2)))) aR)
   (ag (bF (aK gE (pv 3) ao (aW _)) (ak (aB (i:=2) bu.nd rfl (by first | exact Or.inl rfl | exact Or.inr rfl) (aA fI (pv 2) (bG dE (pv 2) (cu (Em BA ao)) bU)))) aR)
   (ag (bF (aK gE (pv 3) ao (aW _)) (ak (aB (i:=2) bu.nd rfl (by first | exact Or.inl rfl | exact Or.inr rfl) (n9 rfl T.range T.list (av aM (by rfl) T.len aZ (aa (pv 0) af))))) aR)
   (ag (bF (aK gE (pv 3) ao (aW _)) (ak (aB (i:=2) bu.nd rfl (by first | exact Or.inl rfl | exact Or.inr rfl) (bz af))) aR)
   (ag (bF (aK xo (pv 3) ao (aW _)) (ak (fF (i:=2) bu.nd rfl (by first | exact Or.inl rfl | exact Or.inr rfl) (tg:=["_law_at"]) (fr:=[("_law_ring",0)]) (by walk_at "blk_ok") rfl (bK (pv 2)) (fun _ _ _ _ _=>(aJ (i:=0) (show [("_law_at" : Str),("_law_ring" : Str)].Nodup by decide +kernel) rfl (by first | exact Or.inl rfl | exact Or.inr rfl))) (fun _ _ _ _ _=>(h9 (aK (lL (K:=K) rfl) (aV (fv (K:=K) rfl) (pv 1) (pv 0) (fun _ _=>rfl)) (bG (fh (K:=K) rfl) (pv 1) bU (cu (pv 0))) (by with_unfolding_all rfl)))) (fun _ _ _ _ _=>(pv 0)))) aR)
   (ak (aU (pv 2)))))))))),?_⟩
  dsimp only [dX]
  have fin:∀ {b:Addr} {cs:List Nat} {H':Hp} (k:Nat),cs.length≤k→k≤60→((aT cs).map V.int).length < PySem.sizeLine:=fun k h1 h2=>by rw [List.length_map,aT,List.length_map]; exact ax (by omega)
  walk_at "rd"
  refine dS ?_
  refine ⟨_,rfl,_,_,rfl,.inl ⟨_,ay.of mY,rfl⟩,(r.length:Int),by rw [List.length_map],by omega,by omega,?_⟩
  rw [Int.toNat_natCast]
  intro acc bT
  refine fO (fun i σ' ys H1=>∃ (cs:List Nat) (v:Option V),σ' = [v,some (.int n)]∧ys = (aT cs).map V.int∧ah H H1∧H1 acc = some (.lst ys)∧(∀ c∈cs,c < i)∧cs.length≤i)
   ⟨[],none,rfl,rfl,ah.upd bT,ae,by simp,Nat.le_refl _⟩ ?_ ?_
  ·rintro i σ' ys H1 hi ⟨cs,v,rfl,rfl,e1,a1,c1,c2⟩
   simp only [Int.zero_add]
   walk_at "rd"
   refine wI (Sz.A9 (m:=20) (n:=40) (by unfold Sz; omega) (by unfold Sz; omega)) ?_
   walk_at "rd"
   refine gL (fun h3=>?_) (fun h3=>?_)
   ·walk_at "rd"
    refine ⟨a1,by rw [List.length_map,aT,List.length_map]; exact ax (by omega),eW hi ⟨cs ++ [i],_,rfl,by unfold aT; simp,ah.fresh e1 bT,ae,fun c hc=>?_,by rw [List.length_append,List.length_singleton]; omega⟩⟩
    rcases List.mem_append.mp hc with z | z
    ·have:=c1 c z; omega
    ·rw [List.mem_singleton.mp z]; omega
   ·exact eW hi ⟨cs,_,rfl,rfl,e1,a1,fun c hc=>by have:=c1 c hc; omega,by omega⟩
  ·rintro σ' ys H1 ⟨cs,v,rfl,rfl,e1,a1,c1,c2⟩
   refine r_gname (fX (fun σ H'=>σ = [some (.ref ra),some (.int n),some (.ref acc),some (.int (n / 8192 % 6))]∧H' = H1) ?_ (fun N hN=>?_))
   rotate_left
   ·walk_at "rd"
    exact hN _ _ ⟨rfl,rfl⟩
   rintro σ H0 ⟨rfl,rfl⟩
   refine fX (fun σ H'=>∃ (b:Addr) (cs:List Nat),σ = [some (.ref ra),some (.int n),some (.ref b),some (.int (n / 8192 % 6))]∧ah H H'∧H b = none∧H' b = some (.lst ((aT cs).map V.int))∧(∀ c∈cs,c < r.length)∧cs.length≤r.length) ?_ (fun N hN=>?_)
   ·rintro σ H2 ⟨b,cs,rfl,e2,fb,hb,d1,d2⟩
    refine fX (fun σ H'=>∃ (b:Addr) (cs:List Nat),σ = [some (.ref ra),some (.int n),some (.ref b),some (.int (n / 8192 % 6))]∧ah H H'∧H b = none∧H' b = some (.lst ((aT cs).map V.int))∧(∀ c∈cs,c < r.length)∧cs.length≤r.length + 1) ?_ (fun N hN=>?_)
    ·clear hb fb d1 d2 e2
     rintro σ H2 ⟨b,cs,rfl,e2,fb,hb,d1,d2⟩
     refine fX (fun σ H'=>∃ (b:Addr) (cs:List Nat),σ = [some (.ref ra),some (.int n),some (.ref b),some (.int (n / 8192 % 6))]∧ah H H'∧H b = none∧H' b = some (.lst ((aT cs).map V.int))∧(∀ c∈cs,c < r.length)∧cs.length≤r.length + 1) ?_ (fun N hN=>?_)
     ·clear hb fb d1 d2 e2
      rintro σ H2 ⟨b,cs,rfl,e2,fb,hb,d1,d2⟩
      refine fX (fun σ H'=>∃ (b:Addr) (cs:List Nat),σ = [some (.ref ra),some (.int n),some (.ref b),some (.int (n / 8192 % 6))]∧ah H H'∧H b = none∧H' b = some (.lst ((aT cs).map V.int))∧(∀ c∈cs,c < r.length)∧cs.length≤r.length + 1) ?_ (fun N hN=>?_)
      ·clear hb fb d1 d2 e2
       rintro σ H2 ⟨b,cs,rfl,e2,fb,hb,d1,d2⟩
       refine fX (fun σ H'=>∃ (b:Addr) (cs:List Nat),σ = [some (.ref ra),some (.int n),some (.ref b),some (.int (n / 8192 % 6))]∧ah H H'∧H b = none∧H' b = some (.lst ((aT cs).map V.int))∧(∀ c∈cs,c < r.length)∧cs.length≤r.length + 1) ?_ (fun N hN=>?_)
       ·clear hb fb d1 d2 e2
        rintro σ H2 ⟨b,cs,rfl,e2,fb,hb,d1,d2⟩
        walk_at "rd"
        exact q b cs H2 e2 fb hb d1 d2
       ·walk_at "rd"
        refine if2 (fun h1=>?_) (fun h1=>?_)
        ·walk_at "rd"
         refine dS ?_
         have BR:=e2 _ _ mY
         refine ⟨_,rfl,b,rfl,⟨_,ay.of hb⟩,fun ac KZ=>?_⟩
         refine dC (K:=K) (a:=b) (xs:=(aT cs).map V.int) (fun i σ' ys Hx=>∃ (ds:List Nat) (v:Option V),σ' = [v,some (.ref ra)]∧ys = (aT ds).map V.int∧ah H2 Hx∧Hx ac = some (.lst ys)∧(∀ c∈ds,c < r.length)∧ds.length≤i)
          ⟨[],none,rfl,rfl,ah.upd KZ,ae,by simp,Nat.le_refl _⟩ (fun i σ' ys Hx _ ⟨_,_,_,_,e,_⟩=>ay.of (e _ _ hb)) ?_ ?_
         ·rintro i x σ' ys Hx hx hi ⟨ds,v,rfl,rfl,e3,a3,k1,k2⟩
          obtain ⟨c,hc,rfl⟩:∃ c:Nat,cs[i]? = some c∧x = V.int (c:Int):=by
           unfold aT at hx
           rw [List.getElem?_map,List.getElem?_map] at hx
           cases e:cs[i]? with
           | none=>rw [e] at hx; cases hx
           | some z=>rw [e] at hx; exact ⟨z,rfl,(Option.some.inj hx).symm⟩
          have vg:=d1 c (List.mem_of_getElem? hc)
          have yL:i < cs.length:=(List.getElem?_eq_some_iff.mp hc).1
          walk_at "rd"
          refine aS (ay.of (e3 _ _ BR)) (cg (j:=c) (by omega) (by omega) (.inl rfl)) ?_
          refine fD (a:=ra) (i:=1) (k:=0) (n:=c) (r:=r) rfl rfl (ay.of (e3 _ _ BR)) (by omega) fun p1 qj=>?_
          have e5:ah Hx (upd Hx p1 (.lst ((r.take c).map V.int))):=ah.upd qj
          refine zj (ay.of ae) ?_
          rw [if_pos rfl]
          generalize upd Hx p1 (.lst ((r.take c).map V.int)) = H5 at e5 ⊢
          walk_at "rd"
          refine gL (fun xT=>?_) (fun hold=>?_)
          ·walk_at "rd"
           refine ⟨e5 _ _ a3,by rw [List.length_map,aT,List.length_map]; exact ax (by omega),eW hi ⟨ds ++ [c],_,rfl,by unfold aT; simp,ah.fresh (e3.trans e5) KZ,ae,fun c' uo=>?_,by rw [List.length_append,List.length_singleton]; omega⟩⟩
           rcases List.mem_append.mp uo with z | z
           ·exact k1 c' z
           ·rw [List.mem_singleton.mp z]; exact vg
          ·exact eW hi ⟨ds,_,rfl,rfl,e3.trans e5,e5 _ _ a3,k1,by omega⟩
         ·rintro σ' ys Hx ⟨ds,v,rfl,rfl,e3,a3,k1,k2⟩
          rw [List.length_map,aT,List.length_map] at k2
          walk_at "rd"
          exact hN _ _ ⟨ac,ds,rfl,e2.trans e3,e2.free KZ,a3,k1,by omega⟩
        ·exact hN _ _ ⟨b,cs,rfl,e2,fb,hb,d1,d2⟩
      ·walk_at "rd"
       refine if2 (fun h1=>?_) (fun h1=>?_)
       ·walk_at "rd"
        refine ⟨Nat.zero_le _,fun z hz=>?_⟩
        walk_at "rd"
        exact hN _ _ ⟨z,[],rfl,e2.trans (ah.upd hz),e2.free hz,ae,by simp,by simp⟩
       ·exact hN _ _ ⟨b,cs,rfl,e2,fb,hb,d1,d2⟩
     ·walk_at "rd"
      refine if2 (fun h1=>?_) (fun h1=>?_)
      ·walk_at "rd"
       refine uT ?_
       walk_at "rd"
       refine ⟨_,_,rfl,.inl ⟨_,ay.of (e2 _ _ mY),rfl⟩,?_⟩
       rw [List.length_map]
       refine ⟨r.length,rfl,by omega,fun z hz=>?_⟩
       walk_at "rd"
       exact hN _ _ ⟨z,List.range r.length,rfl,e2.trans (ah.upd hz),e2.free hz,ae,fun c hc=>List.mem_range.mp hc,by simp⟩
      ·exact hN _ _ ⟨b,cs,rfl,e2,fb,hb,d1,d2⟩
    ·walk_at "rd"
     refine if2 (fun h1=>?_) (fun h1=>?_)
     ·walk_at "rd"
      refine zi ?_
      walk_at "rd"
      refine ⟨_,rfl,_,rfl,b,_,rfl,ay.of hb,fun z hz=>?_⟩
      have ec:∃ ds:List Nat,gQ ((aT cs).map V.int) (some (-1)) none = (aT ds).map V.int∧(∀ c∈ds,c∈cs)∧ds.length≤1:=by
       unfold gQ HT.lG aT
       dsimp only
       rw [if_pos (by decide),List.length_map,List.length_map,← List.map_drop,← List.map_drop,← List.map_take,← List.map_take]
       refine ⟨_,rfl,fun c hc=>List.mem_of_mem_drop (List.mem_of_mem_take hc),?_⟩
       rw [List.length_take,List.length_drop]
       omega
      obtain ⟨ds,ec,dm,dl⟩:=ec
      rw [ec]
      have e3:ah H2 (upd H2 z (.lst ((aT ds).map V.int))):=ah.upd hz
      have z3:upd H2 z (.lst ((aT ds).map V.int)) z = some (.lst ((aT ds).map V.int)):=ae
      generalize upd H2 z (.lst ((aT ds).map V.int)) = H3 at e3 z3 ⊢
      refine ⟨b,z,_,_,rfl,rfl,e3 _ _ hb,z3,by unfold aT; simp only [List.length_map]; exact Nat.le_of_lt (ax (by omega)),fun y hy=>?_⟩
      walk_at "rd"
      refine hN _ _ ⟨y,cs ++ ds,rfl,(e2.trans e3).trans (ah.upd hy),(e2.trans e3).free hy,?_,fun c hc=>?_,by rw [List.length_append]; omega⟩
      ·rw [ae]
       unfold aT
       simp
      ·rcases List.mem_append.mp hc with z | z
       ·exact d1 c z
       ·exact d1 c (dm c z)
     ·exact hN _ _ ⟨b,cs,rfl,e2,fb,hb,d1,by omega⟩
   ·walk_at "rd"
    refine if2 (fun h1=>?_) (fun h1=>?_)
    ·walk_at "rd"
     refine ⟨.inl ⟨rfl,_,ay.of a1⟩,?_⟩
     walk_at "rd"
     refine ⟨acc,_,rfl,rfl,a1,?_⟩
     refine hN _ _ ⟨acc,cs.reverse,rfl,ah.fresh e1 bT,bT,?_,fun c hc=>c1 c (List.mem_reverse.mp hc),by rw [List.length_reverse]; exact c2⟩
     rw [ae]
     unfold aT
     simp
    ·exact hN _ _ ⟨acc,cs,rfl,e1,bT,a1,c1,c2⟩
theorem eQ:aQ ["_law_orders", "_law_ring", "_law_corners_here", "_law_due_here", "_law_at", "_law_order"] ["_law_orders", "_law_ring", "_law_corners_here"] (aj cE):=⟨rfl,rfl,rfl,by decide +kernel,rfl,by decide +kernel,by decide +kernel⟩
theorem pZ (D:Def K mg "_law_due" cE ["_law_orders", "_law_ring", "_law_corners_here"]) (T:Txt K mg Z):df P w K mg base (cA P w) "_law_due" 1 ["_law_orders", "_law_ring", "_law_corners_here"] wj:=by
 refine D.ef eQ (fun vs H Q E h=>?_) (fun f de A outer s H vs Q E hr h=>?_)
 ·obtain ⟨p,ra,rc,as,L,r,cs,rfl,_⟩:=h; rfl
 ·obtain ⟨p,ra,rc,as,L,r,cs,rfl,g,im,hn,gd,mY,jm,sq,nd,qo,q⟩:=h
  have two:=gd.two
  have el:((aT cs).map V.int).length = cs.length:=by rw [List.length_map,aT,List.length_map]
  refine ⟨_,(ag (fF (i:=3) eQ.nd rfl (by first | exact Or.inl rfl | exact Or.inr rfl) (tg:=["_law_order"]) (fr:=[]) (by walk_at "blk_ok") rfl (bK (pv 0)) (fun _ _ _ _ _=>(aJ (i:=0) (show [("_law_order" : Str)].Nodup by decide +kernel) rfl (by first | exact Or.inl rfl | exact Or.inr rfl))) (fun _ _ _ _ _=>cU) (fun _ _ _ _ _=>(fm (gG (K:=K) rfl) (by rfl) T.list iI (aa (pv 0) af))))
   (ag (b9 PassesOwn.never rfl (bK (pv 2)) (aJ (i:=4) eQ.nd rfl (by first | exact Or.inl rfl | exact Or.inr rfl))
   (ag (aB (i:=5) eQ.nd rfl (by first | exact Or.inl rfl | exact Or.inr rfl) (aV aD (pv 3) (aV aD (pv 1) (pv 4) (fun _ _=>rfl)) (fun _ _=>rfl)))
   (ak (bR (cN PySem.F.plainAttrs_list PySem.F.slot_list_insert PySem.F.type_list_insert eD (pv 5) (aa (cN PySem.F.plainAttrs_list PySem.F.slot_list_index PySem.F.type_list_index dM (pv 5) (aa (aV aD (pv 1) (aA gJ (pv 4) ao) (fun _ _=>rfl)) af)) (aa (av aM (by rfl) T.len aZ (aa (pv 0) af)) af)))))))
   (ak (aU (aA fI (pv 3) (bz (aa (fG (tg:=["_law_at"]) (fr:=[("_law_ring",1)]) (by walk_at "blk_ok") rfl (bK (pv 2)) (fun _ _ _ _ _=>(aJ (i:=0) (show [("_law_at" : Str),("_law_ring" : Str)].Nodup by decide +kernel) rfl (by first | exact Or.inl rfl | exact Or.inr rfl))) (fun _ _ _ _ _=>cU) (fun _ _ _ _ _=>(aV (fv (K:=K) rfl) (pv 1) (pv 0) (fun _ _=>rfl)))) af))))))),?_⟩
  dsimp only [dX]
  walk_at "rd"
  refine tR (i:=0) rfl g (by omega) fun ch yP H5 e5 g5 Jz Ff=>?_
  walk_at "rd"
  refine dq ?_
  refine ⟨_,rfl,rc,rfl,⟨_,ay.of (e5 _ _ jm)⟩,du (K:=K) (a:=rc) (xs:=(aT cs).map V.int) (fun k σ H6=>∃ (v6 v7:Option V),σ = [some (.ref p),some (.ref ra),some (.ref rc),some (.ref ch),v6,v7]∧ah H H6∧aN H6 ch yP (gD L r (cs.take k)))
   ⟨none,none,rfl,e5,g5⟩ (fun k σ H6 _ ⟨_,_,_,e,_⟩=>ay.of (e _ _ jm)) ?_ ?_⟩
  ·rintro k x σ H6 hx ⟨v6,v7,rfl,e6,g6⟩
   obtain ⟨c,hc,rfl⟩:∃ c:Nat,cs[k]? = some c∧x = V.int (c:Int):=by
    unfold aT at hx
    rw [List.getElem?_map,List.getElem?_map] at hx
    cases e:cs[k]? with
    | none=>rw [e] at hx; cases hx
    | some z=>rw [e] at hx; exact ⟨z,rfl,(Option.some.inj hx).symm⟩
   have vg:=sq c (List.mem_of_getElem? hc)
   obtain ⟨x0,x1,eP,zm,sm⟩:=eN im gd c
   have un:∀ e∈cs.take k,(cy r e).toNat≠(cy r c).toNat:=fun e he z=>by
    have:=d9 (A:=[]) (B:=cs.map (cy r)) (j:=k) (x:=cy r c) (by simpa using nd) (by rw [List.getElem?_map,hc]; rfl)
    refine this ?_
    obtain ⟨y0,y1,_⟩:=eN im gd e
    have z':cy r e = cy r c:=by omega
    rw [List.nil_append,← List.map_take,← z']
    exact List.mem_map.mpr ⟨e,he,rfl⟩
   have keep:=rN (L:=L) (r:=r) (cs.take k) un (by omega)
   have BQ:=e6 _ _ mY
   have Bh:=g.same e6
   obtain ⟨ca,la,ha,uk,dO⟩:=g6.at (i:=(cy r c).toNat) (by rw [cJ]; omega)
   obtain rfl:la = rowOf L (cy r c):=by rw [keep,eP] at uk; exact (Option.some.inj uk).symm
   have ia:mh (yP.map V.ref) (cy r c) = some (V.ref ca):=by
    have:=g6.ix ha
    rwa [Int.toNat_of_nonneg x0] at this
   have ii:=List.idxOf_lt_length_of_mem zm
   walk_at "rd"
   refine aS (ay.of BQ) (cg (j:=c) (by omega) (by omega) (.inl rfl)) ?_
   refine aS (ay.of g6.top) ia ?_
   walk_at "rd"
   refine ⟨.inl ⟨rfl,_,ay.of dO⟩,?_⟩
   walk_at "rd"
   refine ⟨.inl ⟨rfl,_,ay.of dO⟩,?_⟩
   walk_at "rd"
   refine aS (ay.of BQ) (cg (j:=c + (r.length - 1)) (by omega) (by omega) (.inr (by omega))) ?_
   walk_at "rd"
   refine ⟨ca,_,_,rfl,rfl,dO,zm,?_⟩
   walk_at "rd"
   refine ⟨_,_,rfl,.inl ⟨_,ay.of Bh.top,rfl⟩,?_⟩
   rw [List.length_map,Bh.len]
   walk_at "rd"
   refine fi (k:=(rowOf L (cy r c)).idxOf (cy r (c + (r.length - 1)))) rfl dO (by rw [List.length_map]; omega) (by rw [List.length_map]; exact ax (by omega)) ?_
   rw [map_put]
   have FP:=List.mem_of_getElem? ha
   have g7:=g6.set Jz (l':=j9 L r c) ha
   refine ⟨_,_,rfl,ah.fresh e6 (Ff _ (List.mem_cons_of_mem _ FP)),?_⟩
   rw [take_snoc hc,j7]
   exact g7
  ·rintro σ H6 ⟨v6,v7,rfl,e6,g6⟩
   rw [el,List.take_length] at g6
   have MW:=e6 _ _ jm
   have BQ:=e6 _ _ mY
   walk_at "rd"
   refine dS ?_
   refine ⟨_,rfl,rc,rfl,⟨_,ay.of MW⟩,fun jo zV=>?_⟩
   refine dC (K:=K) (a:=rc) (xs:=(aT cs).map V.int) (fun i σ' ys Hx=>∃ v:Option V,σ' = [v,some (.ref ra)]∧ys = ((cs.take i).map (cy r)).map V.int∧ah H6 Hx∧Hx jo = some (.lst ys))
    ⟨none,rfl,rfl,ah.upd zV,ae⟩ (fun i σ' ys Hx _ ⟨_,_,_,e,_⟩=>ay.of (e _ _ MW)) ?_ ?_
   ·rintro i x σ' ys Hx hx hi ⟨v,rfl,rfl,e3,a3⟩
    obtain ⟨c,hc,rfl⟩:∃ c:Nat,cs[i]? = some c∧x = V.int (c:Int):=by
     unfold aT at hx
     rw [List.getElem?_map,List.getElem?_map] at hx
     cases e:cs[i]? with
     | none=>rw [e] at hx; cases hx
     | some z=>rw [e] at hx; exact ⟨z,rfl,(Option.some.inj hx).symm⟩
    have vg:=sq c (List.mem_of_getElem? hc)
    walk_at "rd"
    refine aS (ay.of (e3 _ _ BQ)) (cg (j:=c) (by omega) (by omega) (.inl rfl)) ?_
    refine ⟨a3,by rw [List.length_map,List.length_map,List.length_take]; exact ax (by omega),eW hi ⟨_,rfl,?_,ah.fresh e3 zV,ae⟩⟩
    rw [take_snoc hc]
    simp
   ·rintro σ' ys H7 ⟨v,rfl,rfl,e7,a7⟩
    rw [el,List.take_length] at a7
    have g7:=g6.same e7
    walk_at "rd"
    refine ⟨by rw [PySem.sizeLine_eq]; simp,fun o1 Dm=>?_⟩
    have e8:ah H7 (upd H7 o1 (.lst [.ref jo])):=ah.upd Dm
    have o8:upd H7 o1 (.lst [.ref jo]) o1 = some (.lst [.ref jo]):=ae
    generalize upd H7 o1 (.lst [.ref jo]) = H8 at e8 o8 ⊢
    have g8:=g7.same e8
    have l8:yP.length = L.length:=by rw [g6.len,cJ]
    refine ⟨ch,o1,_,_,rfl,rfl,g8.top,o8,by rw [List.length_map]; simp; exact Nat.le_of_lt (ax (by omega)),fun t zP=>?_⟩
    have e9:ah H8 (upd H8 t (.lst (yP.map V.ref ++ [.ref jo]))):=ah.upd zP
    have t9:upd H8 t (.lst (yP.map V.ref ++ [.ref jo])) t = some (.lst (yP.map V.ref ++ [.ref jo])):=ae
    generalize upd H8 t (.lst (yP.map V.ref ++ [.ref jo])) = H9 at e9 t9 ⊢
    walk_at "rd"
    exact q t (yP ++ [jo]) H9 (((e6.trans e7).trans e8).trans e9) ((g8.same e9).yt t9 (e9 _ _ (e8 _ _ a7)))
theorem jv:aQ ["_law_caught_here"] ["_law_caught_here"] (aj bo):=⟨rfl,rfl,rfl,by decide +kernel,rfl,by decide +kernel,by decide +kernel⟩
theorem jw (D:Def K mg "_law_strange" bo ["_law_caught_here"]) (T:Txt K mg Z):df P w K mg base (cA P w) "_law_strange" 1 ["_law_caught_here"] (jU Z.dQ):=by
 refine D.ef jv (fun vs H Q E h=>?_) (fun f de A outer s H vs Q E hr h=>?_)
 ·obtain ⟨a,rfl,_⟩:=h; rfl
 ·obtain ⟨a,rfl,ha,q⟩:=h
  refine ⟨_,(ag (bF (fE (av lq (by rfl) T.isinstance bE (aa (pv 0) (aa (fY (aa (b7 (v:=.ref Z.Flat) rfl T.C6 rfl) (aa (b7 (v:=.ref Z.iL) rfl T.vD rfl) (aa (b7 (v:=.ref Z.lB) rfl T.yz rfl) (aa (b7 (v:=.ref Z.qL) rfl T.As rfl) (aa (b7 (v:=.ref Z.iK) rfl T.vC rfl) (aa (b7 (v:=.ref Z.gm) rfl T.sI rfl) af))))))) af)))) (ak (aU fo)) aR)
   (ak (aU (av lq (by rfl) T.isinstance bE (aa (pv 0) (aa (fY (aa (b7 (v:=.ref Z.yF) rfl T.Ar rfl) (aa (b7 (v:=.ref Z.oU) rfl T.vB rfl) (aa (b7 (v:=.ref Z.oT) rfl T.vA rfl) (aa (b7 (v:=.ref Z.oS) rfl T.vz rfl) (aa (b7 (v:=.ref Z.i9) rfl T.qH rfl) (aa (b7 (v:=.ref Z.sQ) rfl T.yw rfl) (aa (b7 (v:=.ref Z.sS) rfl T.yy rfl) (aa (b7 (v:=.ref Z.sR) rfl T.yx rfl) af))))))))) af)))))),?_⟩
  dsimp only [dX]
  walk_at "rd"
  refine ⟨by rw [PySem.sizeLine_eq]; simp,fun tp Dk=>?_⟩
  walk_at "rd"
  refine tP (.exc (by rw [aq (aw ha Dk)]; exact ha) T.jC) ae (.cons (.ref _) (.cons (.ref _) (.cons (.ref _) (.cons (.ref _) (.cons (.ref _) (.cons (.ref _) .nil)))))) T.m3 ?_
  have e1:ah H (upd H tp (.tup [.ref Z.Flat,.ref Z.iL,.ref Z.lB,.ref Z.qL,.ref Z.iK,.ref Z.gm])):=ah.upd Dk
  generalize upd H tp (.tup [.ref Z.Flat,.ref Z.iL,.ref Z.lB,.ref Z.qL,.ref Z.iK,.ref Z.gm]) = H1 at e1 ⊢
  have Bg:=e1 _ _ ha
  walk_at "rd"
  refine ⟨by rw [PySem.sizeLine_eq]; simp,fun tq NK=>?_⟩
  walk_at "rd"
  refine tP (.exc (by rw [aq (aw Bg NK)]; exact Bg) T.jC) ae (.cons (.ref _) (.cons (.ref _) (.cons (.ref _) (.cons (.ref _) (.cons (.ref _) (.cons (.ref _) (.cons (.ref _) (.cons (.ref _) .nil)))))))) T.m4 ?_
  exact q _ (e1.trans (ah.upd NK))
theorem dk:aQ ["_law_orders", "_law_land", "_law_corners_here", "_law_caught_here", "e"] ["_law_orders", "_law_land", "_law_corners_here"] (aj bD):=⟨rfl,rfl,rfl,by decide +kernel,rfl,by decide +kernel,by decide +kernel⟩
theorem kh (D:Def K mg "_law_caught" bD ["_law_orders", "_law_land", "_law_corners_here"]) (T:Txt K mg Z) (kM:df P w K mg base (cA P w) "placed" 5 ["orders", "land", "corners"] (iR Z.dQ)):df P w K mg base (cA P w) "_law_caught" 6 ["_law_orders", "_law_land", "_law_corners_here"] (mI Z.dQ):=by
 refine D.ef dk (fun vs H Q E h=>?_) (fun f de A outer s H vs Q E hr h=>?_)
 ·obtain ⟨p,rc,as,L,R,r,m,cs,rfl,_⟩:=h; rfl
 ·obtain ⟨p,rc,as,L,R,r,m,cs,rfl,g,im,hn,hd,lR,hm,jm,sq,qo,no,q⟩:=h
  refine ⟨_,(ag (aB (i:=3) dk.nd rfl (by first | exact Or.inl rfl | exact Or.inr rfl) B6)
   (ag (xc kM hr (aa (pv 0) (aa (pv 1) (aa (pv 2) af))) yB T.sJ dk.nd (jn:=4) rfl rfl (fun _=>(ak (aB (i:=3) dk.nd rfl (by first | exact Or.inl rfl | exact Or.inr rfl) (pv 4)))))
   (ak (aU (pv 3))))),?_⟩
  dsimp only [dX]
  walk_at "rd"
  refine ⟨p,rc,as,L,R,r,m,cs,rfl,g,im,hn,hd,lR,hm,jm,sq,qo,fun z=>absurd z no,fun _ H1 e1=>⟨_,rfl,T.m1,fun x hx=>?_⟩⟩
  walk_at "rd"
  exact q x _ (e1.trans (ah.upd hx)) ae
theorem cI:aQ ["_law_orders", "_law_land", "_law_ring", "_law_corners_here", "_law_places", "_law_handed", "_law_caught_here", "_law_found", "_law_order"] ["_law_orders", "_law_land", "_law_ring", "_law_corners_here"] (aj bZ):=⟨rfl,rfl,rfl,by decide +kernel,rfl,by decide +kernel,by decide +kernel⟩
theorem ow (D:Def K mg "_law_fits" bZ ["_law_orders", "_law_land", "_law_ring", "_law_corners_here"]) (T:Txt K mg Z) (kM:df P w K mg base (cA P w) "placed" 5 ["orders", "land", "corners"] (iR Z.dQ)) (lZ:df P w K mg base (cA P w) "_law_is_map" 2 ["_law_found"] pI) (qu:df P w K mg base (cA P w) "_law_same" 1 ["_law_one", "_law_other"] tF) (kO:df P w K mg base (cA P w) "_law_strange" 1 ["_law_caught_here"] (jU Z.dQ)) (ma:df P w K mg base (cA P w) "_law_caught" 6 ["_law_orders", "_law_land", "_law_corners_here"] (mI Z.dQ)) (sA:df P w K mg base (cA P w) "_law_due" 1 ["_law_orders", "_law_ring", "_law_corners_here"] wj):df P w K mg base (cA P w) "_law_fits" 7 ["_law_orders", "_law_land", "_law_ring", "_law_corners_here"] tI:=by
 refine D.ef cI (fun vs H Q E h=>?_) (fun f de A outer s H vs Q E hr h=>?_)
 ·obtain ⟨p,ra,rc,as,L,R,r,m,cs,rfl,_⟩:=h; rfl
 ·obtain ⟨p,ra,rc,as,L,R,r,m,cs,rfl,g,im,hn,hd,lR,hm,mY,jm,sq,qo,q⟩:=h
  have gd:=lR.good r (List.mem_of_getElem? hm)
  have two:=gd.two
  have el:((aT cs).map V.int).length = cs.length:=by rw [List.length_map,aT,List.length_map]
  refine ⟨_,(ag (fF (i:=4) cI.nd rfl (by first | exact Or.inl rfl | exact Or.inr rfl) (tg:=["_law_at"]) (fr:=[("_law_ring",2)]) (by walk_at "blk_ok") rfl (bK (pv 3)) (fun _ _ _ _ _=>(aJ (i:=0) (show [("_law_at" : Str),("_law_ring" : Str)].Nodup by decide +kernel) rfl (by first | exact Or.inl rfl | exact Or.inr rfl))) (fun _ _ _ _ _=>cU) (fun _ _ _ _ _=>(aV (fv (K:=K) rfl) (pv 1) (pv 0) (fun _ _=>rfl))))
   (ag (aB (i:=5) cI.nd rfl (by first | exact Or.inl rfl | exact Or.inr rfl) (bz (aa (fG (tg:=["_law_order"]) (fr:=[]) (by walk_at "blk_ok") rfl (bK (pv 0)) (fun _ _ _ _ _=>(aJ (i:=0) (show [("_law_order" : Str)].Nodup by decide +kernel) rfl (by first | exact Or.inl rfl | exact Or.inr rfl))) (fun _ _ _ _ _=>cU) (fun _ _ _ _ _=>(fm (gG (K:=K) rfl) (by rfl) T.list iI (aa (pv 0) af)))) (aa (fm iG (by rfl) T.list iI (aa (pv 3) af)) af))))
   (ag (bF (PW.pt (pw_or (aK (rS hr.units) (pv 3) (bz af) (aW _)) (pw_or (aK (gK hr.units) (pv 3) (rP rfl T.set T.sorted (pv 3)) (aW _)) (pw_or1 (aK xl (av nq (by rfl) T.len aZ (aa (fm (ni rfl) (by rfl) T.set yA (aa (pv 4) af)) af)) (av aM (by rfl) T.len aZ (aa (pv 4) af)) (aW _)))))) (ag (aB (i:=6) cI.nd rfl (by first | exact Or.inl rfl | exact Or.inr rfl) (aG ma hr bx (aa (aV aD (pv 5) ao (fun _ _=>rfl)) (aa (pv 1) (aa (aV aD (pv 5) ao (fun _ _=>rfl)) af)))))
   (ag (bF (PW.pt (pw_or (aK (gK hr.units) (pv 5) (bz (aa (pv 0) (aa (pv 3) af))) (aW _)) (pw_or1 (fE (aG kO hr bx (aa (pv 6) af)))))) (ak (aU fo)) aR)
   (ak (aU (xj (av lj (by rfl) T.isinstance bE (aa (pv 6) (aa (b7 (v:=.ref Z.dQ) rfl T.oP rfl) af))) (xi (av lj (by rfl) T.isinstance bE (aa (pv 6) (aa (ic (v:=.ty "ValueError") rfl T.ValueError mf rfl) af))))))))) aR)
   (ag (aB (i:=7) cI.nd rfl (by first | exact Or.inl rfl | exact Or.inr rfl) (aG kM hr bx (aa (aV aD (pv 5) ao (fun _ _=>rfl)) (aa (pv 1) (aa (aV aD (pv 5) ao (fun _ _=>rfl)) af)))))
   (ag (bF (PW.pt (pw_or (gI (fE (aG lZ hr bx (aa (pv 7) af)))) (pw_or1 (gI (fE (aG qu hr bx (aa (pv 7) (aa (aG sA hr bx (aa (pv 0) (aa (pv 2) (aa (pv 3) af)))) af)))))))) (ak (aU fo)) aR)
   (ag (b9 PassesOwn.never rfl (bK (pv 7)) (aJ (i:=8) cI.nd rfl (by first | exact Or.inl rfl | exact Or.inr rfl))
   (ak (bR (cN PySem.F.plainAttrs_list PySem.F.slot_list_append PySem.F.type_list_append cK (pv 8) (aa ao af)))))
   (ak (aU (oj (rS hr.units) (pv 5) (bz (aa (pv 0) (aa (pv 3) af))) (aW _)))))))))),?_⟩
  dsimp only [dX]
  refine fX (fun σ H'=>∃ pl:Addr,σ = [some (.ref p),some (.int (m:Int)),some (.ref ra),some (.ref rc),some (.ref pl),none,none,none,none]∧ah H H'∧H' pl = some (.lst ((cs.map (cy r)).map V.int))) ?_ (fun N hN=>?_)
  rotate_left
  ·walk_at "rd"
   refine dS ?_
   refine ⟨_,rfl,rc,rfl,⟨_,ay.of jm⟩,fun jo zV=>?_⟩
   refine dC (K:=K) (a:=rc) (xs:=(aT cs).map V.int) (fun i σ' ys Hx=>∃ v:Option V,σ' = [v,some (.ref ra)]∧ys = ((cs.take i).map (cy r)).map V.int∧ah H Hx∧Hx jo = some (.lst ys))
    ⟨none,rfl,rfl,ah.upd zV,ae⟩ (fun i σ' ys Hx _ ⟨_,_,_,e,_⟩=>ay.of (e _ _ jm)) ?_ ?_
   ·rintro i x σ' ys Hx hx hi ⟨v,rfl,rfl,e3,a3⟩
    obtain ⟨c,hc,rfl⟩:∃ c:Nat,cs[i]? = some c∧x = V.int (c:Int):=by
     unfold aT at hx
     rw [List.getElem?_map,List.getElem?_map] at hx
     cases e:cs[i]? with
     | none=>rw [e] at hx; cases hx
     | some z=>rw [e] at hx; exact ⟨z,rfl,(Option.some.inj hx).symm⟩
    have vg:=sq c (List.mem_of_getElem? hc)
    walk_at "rd"
    refine aS (ay.of (e3 _ _ mY)) (cg (j:=c) (by omega) (by omega) (.inl rfl)) ?_
    refine ⟨a3,by rw [List.length_map,List.length_map,List.length_take]; exact ax (by omega),eW hi ⟨_,rfl,?_,ah.fresh e3 zV,ae⟩⟩
    rw [take_snoc hc]
    simp
   ·rintro σ' ys H7 ⟨v,rfl,rfl,e7,a7⟩
    rw [el,List.take_length] at a7
    walk_at "rd"
    exact hN _ _ ⟨jo,rfl,e7,a7⟩
  rintro σ H1 ⟨pl,rfl,e1,Qp⟩
  have g1:=g.same e1
  have MY:=e1 _ _ jm
  refine fX (fun σ H'=>∃ (hb hp hc:Addr) (hs:List Addr),σ = [some (.ref p),some (.int (m:Int)),some (.ref ra),some (.ref rc),some (.ref pl),some (.ref hb),none,none,none]∧ah H1 H'∧aN H' hp hs L∧H' hc = some (.lst ((aT cs).map V.int))∧H' hb = some (.lst [.ref hp,.ref hc])) ?_ (fun N hN=>?_)
  rotate_left
  ·walk_at "rd"
   refine tR (i:=0) rfl g1 (by omega) fun hp hs H2 e2 g2 vJ vk=>?_
   walk_at "rd"
   refine ⟨rc,_,rfl,.inl (ay.of (e2 _ _ MY)),fun hc EV=>?_⟩
   have e3:ah H2 (upd H2 hc (.lst ((aT cs).map V.int))):=ah.upd EV
   have c3:upd H2 hc (.lst ((aT cs).map V.int)) hc = some (.lst ((aT cs).map V.int)):=ae
   generalize upd H2 hc (.lst ((aT cs).map V.int)) = H3 at e3 c3 ⊢
   walk_at "rd"
   intro hb CN
   have e4:ah H3 (upd H3 hb (.lst [.ref hp,.ref hc])):=ah.upd CN
   walk_at "rd"
   exact hN _ _ ⟨hb,hp,hc,hs,rfl,(e2.trans e3).trans e4,(g2.same e3).same e4,e4 _ _ c3,ae⟩
  rintro σ H2 ⟨hb,hp,hc,hs,rfl,e2,gh,EV,CN⟩
  have g2:=g1.same e2
  have zf:=e2 _ _ MY
  have BR:=e2 _ _ (e1 _ _ mY)
  have Gn:=e2 _ _ Qp
  have qW:=e1.trans e2
  have same:∀ H',ah H2 H'→∀ z:Addr,H' z = none→pd (upd H' z (.lst [.ref p,.ref rc])) (.ref z) (ux L (aT cs))∧pd (upd H' z (.lst [.ref p,.ref rc])) (.ref hb) (ux L (aT cs)):=fun H' e z hz=>by
   have e':ah H2 (upd H' z (.lst [.ref p,.ref rc])):=e.trans (ah.upd hz)
   exact ⟨wz ae (g2.same e') (e' _ _ zf),wz (e' _ _ CN) (gh.same e') (e' _ _ EV)⟩
  refine r_seq (A2 (fun H'=>ah H2 H'∧¬ vF r cs) (fun H'=>ah H2 H'∧vF r cs) (fun H3 ⟨e3,no⟩=>?_) (fun H3 ⟨e3,ok⟩=>?_) (fun RR yes no=>?_))
  ·walk_at "rd"
   refine aS (ay.of (e3 _ _ CN)) rfl ?_
   walk_at "rd"
   refine aS (ay.of (e3 _ _ CN)) rfl ?_
   walk_at "rd"
   refine ⟨hp,hc,hs,L,R,r,m,cs,rfl,gh.same e3,im,hn,hd,lR,hm,e3 _ _ EV,sq,qo,no,fun x H4 e4 hx=>?_⟩
   walk_at "rd"
   intro z hz
   obtain ⟨s1,s2⟩:=same H4 (e3.trans e4) z hz
   have e5:ah H4 (upd H4 z (.lst [.ref p,.ref rc])):=ah.upd hz
   refine ⟨ux L (aT cs),ux L (aT cs),s2,s1,eB _ _,eB _ _,?_⟩
   rw [if_pos rfl,sF]
   generalize upd H4 z (.lst [.ref p,.ref rc]) = H5 at e5 ⊢
   have NI:=e5 _ _ hx
   walk_at "rd"
   refine ⟨x,rfl,NI,fun H6 e6=>?_⟩
   have NH:=e6 _ _ NI
   walk_at "rd"
   refine tO (.exc NH T.jC) (.ref _) T.m2 ?_
   walk_at "rd"
   refine tO (.exc NH T.jC) (.ty _) T.m5 ?_
   walk_at "rd"
   exact q _ ((((qW.trans e3).trans e4).trans e5).trans e6)
  ·walk_at "rd"
   refine aS (ay.of (e3 _ _ CN)) rfl ?_
   walk_at "rd"
   refine aS (ay.of (e3 _ _ CN)) rfl ?_
   walk_at "rd"
   refine ⟨hp,hc,hs,L,R,r,m,cs,rfl,gh.same e3,im,hn,hd,lR,hm,e3 _ _ EV,sq,qo,fun _ tf fs H4 e4 g4 JA K6=>?_,fun z=>absurd ok z⟩
   have Nk:=zu im gd ok.2.2
   have lM:(uW L r cs).length = L.length + 1:=pR cs
   have Hb:=e3.trans e4
   walk_at "rd"
   refine ⟨tf,fs,_,rfl,g4,fun H5 e5=>?_⟩
   walk_at "rd"
   refine ⟨p,ra,rc,as,L,r,cs,rfl,(g2.same Hb).same e5,im,hn,gd,e5 _ _ (Hb _ _ BR),e5 _ _ (Hb _ _ zf),sq,ok.2.2,qo,fun t bs H6 e6 g6=>?_⟩
   walk_at "rd"
   have Oj:=(g4.same e5).same e6
   refine ⟨tf,t,fs,bs,_,_,rfl,Oj,g6,rfl,fun k l m' h1 h2=>?_,by omega,fun H7 e7=>?_⟩
   ·rw [h1] at h2
    obtain rfl:=Option.some.inj h2
    obtain ⟨z1,z2⟩:=Nk l (List.mem_of_getElem? h1)
    exact ⟨fR.refl _,z1,by omega⟩
   walk_at "rd"
   have SS:=(e5.trans e6).trans e7
   refine zh (i:=7) (j:=8) (show 8 < 9 by decide) rfl (Oj.same e7) JA (fun x hx=>?_) fun σ' H9 hσ e9=>?_
   ·have:=(Nk x hx).2
    omega
   have Ha:ah H2 H9:=fun b o o6=>e9 b o (fun z=>by
    have:=K6 b (List.mem_cons_of_mem _ z)
    rw [e3 _ _ o6] at this
    cases this) ((Hb.trans SS) b o o6)
   rcases hσ with rfl | ⟨v,rfl⟩
   ·walk_at "rd"
    intro z hz
    obtain ⟨s1,s2⟩:=same H9 Ha z hz
    have Lf:ah H9 (upd H9 z (.lst [.ref p,.ref rc])):=ah.upd hz
    refine ⟨ux L (aT cs),ux L (aT cs),s2,s1,eB _ _,eB _ _,?_⟩
    rw [if_neg (by decide),sF]
    exact q _ ((qW.trans Ha).trans Lf)
   ·walk_at "rd"
    intro z hz
    obtain ⟨s1,s2⟩:=same H9 Ha z hz
    have Lf:ah H9 (upd H9 z (.lst [.ref p,.ref rc])):=ah.upd hz
    refine ⟨ux L (aT cs),ux L (aT cs),s2,s1,eB _ _,eB _ _,?_⟩
    rw [if_neg (by decide),sF]
    exact q _ ((qW.trans Ha).trans Lf)
  ·walk_at "rd"
   refine ⟨Nat.zero_le _,fun z hz=>?_⟩
   have e3:ah H2 (upd H2 z (.lst [])):=ah.upd hz
   refine ⟨bb (aT cs),bb [],br (e3 _ _ zf),br ae,shaped_ints _,shaped_ints _,?_⟩
   rw [if_neg (by decide),eh]
   generalize upd H2 z (.lst []) = H3 at e3 ⊢
   walk_at "rd"
   refine if2 (fun h0=>yes _ ⟨e3,fun z=>z.1 (by unfold aT at h0; exact List.map_eq_nil_iff.mp h0)⟩) (fun h0=>?_)
   have c0:cs≠[]:=fun z=>h0 (by rw [z]; rfl)
   walk_at "rd"
   refine uR (r_var rfl ⟨rc,_,rfl,ay.of (e3 _ _ zf),by unfold aT; rw [List.length_map]; omega,fun lU y pm so hy=>?_⟩)
   have e4:ah H3 (upd H3 y (.lst (lU.map V.int))):=ah.upd hy
   refine ⟨bb (aT cs),bb lU,br (e4 _ _ (e3 _ _ zf)),br ae,shaped_ints _,shaped_ints _,?_⟩
   rw [if_pos rfl,eh]
   generalize upd H3 y (.lst (lU.map V.int)) = H4 at e4 ⊢
   have key:=rh pm so
   walk_at "rd"
   refine gL (fun h1=>yes _ ⟨e3.trans e4,fun z=>h1 (key.mpr (uc.mpr z.2.1))⟩) (fun h1=>?_)
   have yq:=uc.mp (key.mp h1)
   walk_at "rd"
   refine ⟨pl,_,rfl,ay.of (e4 _ _ (e3 _ _ Gn)),by rw [List.length_map]; omega,fun se S Kl=>?_⟩
   have e5:ah H4 (upd H4 se (.set S (dW (cs.map (cy r))).length)):=ah.upd Kl
   have s5:upd H4 se (.set S (dW (cs.map (cy r))).length) se = some (.set S (dW (cs.map (cy r))).length):=ae
   generalize upd H4 se (.set S (dW (cs.map (cy r))).length) = H5 at e5 s5 ⊢
   have Lc:=(e3.trans e4).trans e5
   refine ⟨se,_,_,rfl,s5,?_⟩
   walk_at "rd"
   refine ⟨_,_,rfl,.inl ⟨_,ay.of (Lc _ _ Gn),rfl⟩,?_⟩
   rw [List.length_map]
   have le:=Am (cs.map (cy r))
   have dl:=iC (cs.map (cy r))
   walk_at "rd"
   by_cases h2:((dW (cs.map (cy r))).length:Int) < ((cs.map (cy r)).length:Int)
   ·rw [decide_eq_true h2]
    refine yes _ ⟨Lc,fun z=>?_⟩
    have:=dl.mpr z.2.2
    omega
   ·rw [decide_eq_false h2]
    exact no _ ⟨Lc,c0,yq,dl.mp (by omega)⟩
theorem iS:aQ ["_law_script", "_law_orders", "_law_rings_here", "_law_k", "_law_number", "_law_land"] ["_law_script"] (aj hZ):=⟨rfl,rfl,rfl,by decide +kernel,rfl,by decide +kernel,by decide +kernel⟩
theorem Ca {fa:Addr} {fd:FuncData} (F:Dg K "law" "law" hZ fa fd) (T:Txt K mg Z)
  (bj:df P w K mg base (cA P w) "_law_mixed" 2 ["_law_script", "_law_k"] (eF K)) (sx:df P w K mg base (cA P w) "_law_map" 4 ["_law_script"] (wg K)) (oG:df P w K mg base (cA P w) "_law_lands" 2 ["_law_orders"] hW)
  (kQ:df P w K mg base (cA P w) "_law_corners" 1 ["_law_ring", "_law_number"] jW) (qv:df P w K mg base (cA P w) "_law_fits" 7 ["_law_orders", "_law_land", "_law_ring", "_law_corners_here"] tI):mB P w K mg base (cA P w) 10 fa fd ["_law_script"] (nJ K):=by
 refine F.okN iS (fun vs H Q E h=>?_) (fun de A outer s H vs Q E hr h=>?_)
 ·obtain ⟨a,ns,rfl,_⟩:=h; rfl
 ·obtain ⟨a,ns,rfl,hS,hlen,kq⟩:=h
  refine ⟨_,(ag (aB (i:=1) iS.nd rfl (by first | exact Or.inl rfl | exact Or.inr rfl) (aG sx hr bx (aa (pv 0) af)))
   (ag (aB (i:=2) iS.nd rfl (by first | exact Or.inl rfl | exact Or.inr rfl) (aG oG hr bx (aa (pv 1) af)))
   (ag (b9 PassesOwn.never rfl (bV rfl T.range (aa (av (nk rfl) (by rfl) T.min lr (aa ao (aa (av (vy rfl) (by rfl) T.max C7 (aa ao (aa (av aM (by rfl) T.len aZ (aa (pv 0) af)) af))) af))) af)) (aJ (i:=3) iS.nd rfl (by first | exact Or.inl rfl | exact Or.inr rfl))
   (ak (bF (aK (gK hr.units) (pv 2) (bz af) (aW _)) (ag (aB (i:=4) iS.nd rfl (by first | exact Or.inl rfl | exact Or.inr rfl) (aG bj hr bx (aa (pv 0) (aa (aA cR ao (pv 3)) af))))
   (ag (aB (i:=5) iS.nd rfl (by first | exact Or.inl rfl | exact Or.inr rfl) (aA bw (pv 4) (av aM (by rfl) T.len aZ (aa (pv 2) af))))
   (ak (bF (gI (fE (aG qv hr bx (aa (pv 1) (aa (pv 5) (aa (aV aD (pv 2) (pv 5) (fun _ _=>rfl)) (aa (aG kQ hr bx (aa (aV aD (pv 2) (pv 5) (fun _ _=>rfl)) (aa (pv 4) af))) af))))))) (ak (aU fo)) aR)))) aR)))
   (ak (aU fo))))),?_⟩
  dsimp only [dX]
  walk_at "rd"
  refine ⟨a,ns,rfl,hS,fun p as L H1 e1 g1 mT kS im two l13 uq short=>?_⟩
  walk_at "rd"
  refine ⟨p,as,L,rfl,g1,im,by omega,uq,fun t bs R H2 e2 t2 vJ vk ld=>?_⟩
  have g2:=g1.same e2
  have qW:ah H H2:=e1.trans e2
  walk_at "rd"
  refine dq ?_
  refine dy (uU (dy (r_c (dy (uU (dy (r_c (dy (uU (dy (r_var rfl (gC ?_))))  )) )) ) )))
  refine ⟨_,_,rfl,.inl ⟨_,qW.seq hS,rfl⟩,gC ⟨_,_,rfl,gC ⟨_,_,rfl,gC ?_⟩⟩⟩
  obtain ⟨cnt,KS,U9⟩:=FO (ns.map V.int).length
  rw [KS]
  refine ⟨(cnt:Int),rfl,by omega,by omega,?_⟩
  rw [Int.toNat_natCast]
  refine dc (fun k σ H3=>∃ v3 v4 v5:Option V,σ = [some (.ref a),some (.ref p),some (.ref t),v3,v4,v5]∧ah H2 H3) ⟨none,none,none,rfl,fun _ _ e=>e⟩ ?_ ?_
  ·rintro k σ H3 hk ⟨v3,v4,v5,rfl,e3⟩
   simp only [Int.zero_add]
   have t3:=t2.same e3
   walk_at "rd"
   refine ⟨Nat.zero_le _,fun z hz=>?_⟩
   have e4:ah H3 (upd H3 z (.lst [])):=ah.upd hz
   have z4:upd H3 z (.lst []) z = some (.lst []):=ae
   generalize upd H3 z (.lst []) = H4 at e4 z4 ⊢
   refine ⟨fQ R,fQ [],(t3.same e4).MV,.lst z4 .nil,jh _,jh _,?_⟩
   rw [if_pos rfl,qz]
   walk_at "rd"
   refine gL (fun hR=>?_) (fun _=>?_)
   ·have Rp:(0:Int) < (R.length:Int):=by have:=List.length_pos_iff.mpr hR; omega
    have t4:=t3.same e4
    have g4:=(g2.same e3).same e4
    have SV:ah H H4:=(qW.trans e3).trans e4
    walk_at "rd"
    refine ⟨a,ns,80 + k,rfl,SV.seq hS,by omega,by omega,fun num n0 n1=>?_⟩
    walk_at "rd"
    refine ⟨_,_,rfl,.inl ⟨_,ay.of t4.top,rfl⟩,?_⟩
    rw [List.length_map,t4.len]
    walk_at "rd"
    have m0:=Int.emod_nonneg num (show (R.length:Int)≠0 by omega)
    have m1:=Int.emod_lt_of_pos num Rp
    obtain ⟨mi,Kz⟩:=Int.eq_ofNat_of_zero_le m0
    rw [Kz] at m1 ⊢
    obtain ⟨rc,r,jm,CF,eK⟩:=t4.at (i:=mi) (by omega)
    have gd:=ld.good r (List.mem_of_getElem? CF)
    have tw:=gd.two
    have rp:(0:Int) < (r.length:Int):=by omega
    refine aS (ay.of t4.top) (t4.ix jm) ?_
    walk_at "rd"
    refine aS (ay.of t4.top) (t4.ix jm) ?_
    walk_at "rd"
    have sr:=short R ld r (List.mem_of_getElem? CF)
    refine ⟨rc,r,num,rfl,eK,n0,n1,sr,fun cb cs H5 e5 fb Sk cl cn=>?_⟩
    walk_at "rd"
    refine ⟨p,rc,cb,as,L,R,r,mi,cs,rfl,g4.same e5,im,by omega,uq,ld,CF,e5 _ _ eK,Sk,cl,by omega,fun H6 e6=>?_⟩
    walk_at "rd"
    exact ⟨_,_,_,rfl,((e3.trans e4).trans e5).trans e6⟩
   ·exact ⟨_,_,_,rfl,e3.trans e4⟩
  ·rintro σ H3 ⟨v3,v4,v5,rfl,e3⟩
   walk_at "rd"
   exact kq _
end
end Dd
end
namespace Dd
open PySem L2 Fr Gm
local macro_rules | `(tactic| walk_at "rd1")=>`(tactic| first
 | with_reducible refine r_seq ?_ | with_reducible refine r_asg ?_ | with_reducible refine r_gname ?_ | with_reducible refine r_op ?_ | with_reducible refine r_c ?_
 | ((with_reducible refine' r_var ?hv ?_); case' hv=>exact rfl)
 | with_reducible refine wH ?_ | with_reducible refine Ea ?_ | with_reducible refine Eb ?_ | with_reducible refine wO ?_ | with_reducible refine wM ?_
 | with_reducible refine wG ?_ | with_reducible refine wF ?_ | with_reducible refine nT ?_ | with_reducible refine tQ ?_ | with_reducible refine rD ?_ | with_reducible refine Ie ?_ | with_reducible refine BW ?_
 | with_reducible refine wL ?_ | with_reducible refine wV ?_ | with_reducible refine BU ?_ | with_reducible refine rL ?_ | with_reducible refine AY ?_ | with_reducible refine rE ?_ | with_reducible refine A3 ?_
 | with_reducible refine gC ?_ | with_reducible refine dy ?_ | with_reducible refine nU ?_ | with_reducible refine uU ?_ | with_reducible refine wD ?_ | with_reducible refine wN ?_ | with_reducible refine rF ?_
 | with_reducible refine nR ?_ | with_reducible refine rG ?_ | with_reducible refine wJ ?_ | with_reducible refine EG ?_ | with_reducible refine Gy ?_ | with_reducible refine Cy ?_ | with_reducible refine Cz ?_
 | ((with_reducible refine wI ?hc ?_); case' hc=>walk_at "side")
 | ((with_reducible refine' AZ ?hp ?hi ?_); (case' hp=>walk_at "seq"); (case' hi=>exact rfl))
 | ((with_reducible refine' aS ?hp ?hi ?_); (case' hp=>walk_at "seq"); (case' hi=>exact rfl))
 | ((with_reducible refine' iT ?hp ?hi ?_); (case' hp=>walk_at "seq"); (case' hi=>exact rfl))
 | ((with_reducible refine And.intro ?hl ?_); case' hl=>(first | exact AS | exact DR))
 | with_reducible refine zp ?_ | with_reducible refine wU ?_ | with_reducible refine nO ?_ | with_reducible refine A1 ?_ | with_reducible refine wK ?_ | with_reducible refine nP ?_ | with_reducible refine nN ?_ | with_reducible refine j4 ?_ | with_reducible refine A4 ?_ | with_reducible refine rJ ?_
 | dsimp only)
local macro_rules | `(tactic| walk_at "rd")=>`(tactic| repeat walk_at "rd1")
local macro_rules | `(tactic| walk_at "blk_vis")=>`(tactic| first | exact Or.inl rfl | exact Or.inr (Or.inl rfl) | exact Or.inr (Or.inr rfl))
local macro_rules | `(tactic| walk_at "blk_ok")=>`(tactic| exact ⟨rfl,by decide +kernel,by decide +kernel,rfl,by (first | exact trivial | exact ⟨rfl,trivial⟩ | exact ⟨rfl,rfl,trivial⟩ | exact ⟨rfl,rfl,rfl,trivial⟩ | exact ⟨rfl,rfl,rfl,rfl,trivial⟩ | exact ⟨rfl,rfl,rfl,rfl,rfl,trivial⟩),rfl,
 by (first | exact aC | exact ai ⟨rfl,by walk_at "blk_vis",rfl,rfl⟩ aC | exact ai ⟨rfl,by walk_at "blk_vis",rfl,rfl⟩ (ai ⟨rfl,by walk_at "blk_vis",rfl,rfl⟩ aC) | exact ai ⟨rfl,by walk_at "blk_vis",rfl,rfl⟩ (ai ⟨rfl,by walk_at "blk_vis",rfl,rfl⟩ (ai ⟨rfl,by walk_at "blk_vis",rfl,rfl⟩ aC)) | exact ai ⟨rfl,by walk_at "blk_vis",rfl,rfl⟩ (ai ⟨rfl,by walk_at "blk_vis",rfl,rfl⟩ (ai ⟨rfl,by walk_at "blk_vis",rfl,rfl⟩ (ai ⟨rfl,by walk_at "blk_vis",rfl,rfl⟩ aC)))),
 by (first | exact ai rfl (ai rfl (ai rfl (ai rfl aC))) | exact aC | exact ai rfl aC | exact ai rfl (ai rfl aC) | exact ai rfl (ai rfl (ai rfl aC)))⟩)
local macro_rules | `(tactic| walk_at "blk_ok1")=>`(tactic| exact ⟨rfl,fun _=>rfl,fun _=>rfl,by decide +kernel,rfl,by (first | exact trivial | exact ⟨rfl,trivial⟩ | exact ⟨rfl,rfl,trivial⟩ | exact ⟨rfl,rfl,rfl,trivial⟩ | exact ⟨rfl,rfl,rfl,rfl,trivial⟩),rfl,
 by (first | exact aC | exact ai ⟨rfl,by walk_at "blk_vis",⟨rfl,rfl⟩,rfl⟩ aC | exact ai ⟨rfl,by walk_at "blk_vis",⟨rfl,rfl⟩,rfl⟩ (ai ⟨rfl,by walk_at "blk_vis",⟨rfl,rfl⟩,rfl⟩ aC) | exact ai ⟨rfl,by walk_at "blk_vis",⟨rfl,rfl⟩,rfl⟩ (ai ⟨rfl,by walk_at "blk_vis",⟨rfl,rfl⟩,rfl⟩ (ai ⟨rfl,by walk_at "blk_vis",⟨rfl,rfl⟩,rfl⟩ aC))),
 by (first | exact aC | exact ai rfl aC | exact ai rfl (ai rfl aC) | exact ai rfl (ai rfl (ai rfl aC)))⟩)
local macro_rules | `(tactic| walk_at "side")=>`(tactic| first | assumption | exact (show (0:Int) < _ by decide) | exact oN (by decide) (by decide) | exact oO (by decide) (by decide) | exact mulL (by decide) (by decide))
local macro_rules | `(tactic| walk_at "seq")=>`(tactic| first | assumption | exact SqT.of (by assumption))
theorem all_mk {l:PySem.W.OpenLaw} {w:World} {K:PySem.W.Frag} {h:Heap} {mg:Str→Option Value} {fa:Addr} (X:K.In h) (G:h.Ns mainGlobals mg) (Sh:mg "law" = some (.ref fa))
  {gj gg lg bI gT gU i7 gW gR oM fP i6 i5 lh gS iZ:Addr}
  (e_MapError:PySem.W.nsIn K mainGlobals "MapError" = some (some (.ref gj)))
  (e_NoNumber:PySem.W.nsIn K mainGlobals "NoNumber" = some (some (.ref gg)))
  (e_NoOne:PySem.W.nsIn K mainGlobals "NoOne" = some (some (.ref lg)))
  (e_NoTie:PySem.W.nsIn K mainGlobals "NoTie" = some (some (.ref bI)))
  (e_NoOther:PySem.W.nsIn K mainGlobals "NoOther" = some (some (.ref gT)))
  (e_NoNames:PySem.W.nsIn K mainGlobals "NoNames" = some (some (.ref gU)))
  (e_NoLand:PySem.W.nsIn K mainGlobals "NoLand" = some (some (.ref i7)))
  (e_NoFrame:PySem.W.nsIn K mainGlobals "NoFrame" = some (some (.ref gW)))
  (e_NoThree:PySem.W.nsIn K mainGlobals "NoThree" = some (some (.ref gR)))
  (e_Flat:PySem.W.nsIn K mainGlobals "Flat" = some (some (.ref oM)))
  (e_NotInside:PySem.W.nsIn K mainGlobals "NotInside" = some (some (.ref fP)))
  (e_NoStep:PySem.W.nsIn K mainGlobals "NoStep" = some (some (.ref i6)))
  (e_NoText:PySem.W.nsIn K mainGlobals "NoText" = some (some (.ref i5)))
  (e_NoMap:PySem.W.nsIn K mainGlobals "NoMap" = some (some (.ref lh)))
  (e_NoSheet:PySem.W.nsIn K mainGlobals "NoSheet" = some (some (.ref gS)))
  (e_Parted:PySem.W.nsIn K mainGlobals "Parted" = some (some (.ref iZ)))
  {f0:Addr} {QE TH:Option Addr} {MQ:Array (Option Value)} {QO Ro S7 Qn OK Tj:Value}
  (a0:PySem.W.nsIn K mainGlobals "onward" = some (some (.ref f0))) (l0:K.lookup f0 = some ⟨QO,QE,.func (PySem.W.fnOf "onward" "onward" (aP dI) (aL dI) (aj dI) .none Ro S7 Qn TH OK Tj),MQ⟩) (c0:PySem.W.codeIn K OK "onward" = true) (k0:PySem.W.keepIn K (.ref f0) = true)
  {f1:Addr} {QD TF:Option Addr} {Py:Array (Option Value)} {QN Rn S6 Qm OJ Ti:Value}
  (a1:PySem.W.nsIn K mainGlobals "ring_from" = some (some (.ref f1))) (l1:K.lookup f1 = some ⟨QN,QD,.func (PySem.W.fnOf "ring_from" "ring_from" (aP bW) (aL bW) (aj bW) .none Rn S6 Qm TF OJ Ti),Py⟩) (c1:PySem.W.codeIn K OJ "ring_from" = true) (k1:PySem.W.keepIn K (.ref f1) = true)
  {f2:Addr} {QC TC:Option Addr} {AS:Array (Option Value)} {QM Rm S5 Ql OI Th:Value}
  (a2:PySem.W.nsIn K mainGlobals "least_begun" = some (some (.ref f2))) (l2:K.lookup f2 = some ⟨QM,QC,.func (PySem.W.fnOf "least_begun" "least_begun" (aP bB) (aL bB) (aj bB) .none Rm S5 Ql TC OI Th),AS⟩) (c2:PySem.W.codeIn K OI "least_begun" = true) (k2:PySem.W.keepIn K (.ref f2) = true)
  {f3:Addr} {QB TB:Option Addr} {DR:Array (Option Value)} {QL Rl S4 Qk OH Tg:Value}
  (a3:PySem.W.nsIn K mainGlobals "steps" = some (some (.ref f3))) (l3:K.lookup f3 = some ⟨QL,QB,.func (PySem.W.fnOf "steps" "steps" (aP eR) (aL eR) (aj eR) .none Rl S4 Qk TB OH Tg),DR⟩) (c3:PySem.W.codeIn K OH "steps" = true) (k3:PySem.W.keepIn K (.ref f3) = true)
  {f4:Addr} {QA Tz:Option Addr} {Px:Array (Option Value)} {QK Rk S3 Qj OG Tf:Value}
  (a4:PySem.W.nsIn K mainGlobals "lands" = some (some (.ref f4))) (l4:K.lookup f4 = some ⟨QK,QA,.func (PySem.W.fnOf "lands" "lands" (aP eU) (aL eU) (aj eU) .none Rk S3 Qj Tz OG Tf),Px⟩) (c4:PySem.W.codeIn K OG "lands" = true) (k4:PySem.W.keepIn K (.ref f4) = true)
  {f5:Addr} {Qz Tx:Option Addr} {Pw:Array (Option Value)} {QJ Rj S2 Qi OF Te:Value}
  (a5:PySem.W.nsIn K mainGlobals "put_ahead" = some (some (.ref f5))) (l5:K.lookup f5 = some ⟨QJ,Qz,.func (PySem.W.fnOf "put_ahead" "put_ahead" (aP bX) (aL bX) (aj bX) .none Rj S2 Qi Tx OF Te),Pw⟩) (c5:PySem.W.codeIn K OF "put_ahead" = true) (k5:PySem.W.keepIn K (.ref f5) = true)
  {f6:Addr} {Qy Tw:Option Addr} {Pu:Array (Option Value)} {QI Ri S1 Qh OE Td:Value}
  (a6:PySem.W.nsIn K mainGlobals "rises" = some (some (.ref f6))) (l6:K.lookup f6 = some ⟨QI,Qy,.func (PySem.W.fnOf "rises" "rises" (aP eT) (aL eT) (aj eT) .none Ri S1 Qh Tw OE Td),Pu⟩) (c6:PySem.W.codeIn K OE "rises" = true) (k6:PySem.W.keepIn K (.ref f6) = true)
  {f7:Addr} {Qx Tv:Option Addr} {Pt:Array (Option Value)} {QH Rh S0 Qg OD Tc:Value}
  (a7:PySem.W.nsIn K mainGlobals "placed" = some (some (.ref f7))) (l7:K.lookup f7 = some ⟨QH,Qx,.func (PySem.W.fnOf "placed" "placed" (aP dH) (aL dH) (aj dH) .none Rh S0 Qg Tv OD Tc),Pt⟩) (c7:PySem.W.codeIn K OD "placed" = true) (k7:PySem.W.keepIn K (.ref f7) = true)
  {f8:Addr} {Qw Tu:Option Addr} {Pr:Array (Option Value)} {QG Rg SY Qf OC Ta:Value}
  (a8:PySem.W.nsIn K mainGlobals "_law_whole" = some (some (.ref f8))) (l8:K.lookup f8 = some ⟨QG,Qw,.func (PySem.W.fnOf "_law_whole" "_law_whole" (aP bL) (aL bL) (aj bL) .none Rg SY Qf Tu OC Ta),Pr⟩) (c8:PySem.W.codeIn K OC "_law_whole" = true) (k8:PySem.W.keepIn K (.ref f8) = true)
  {f9:Addr} {Qv Tt:Option Addr} {Pq:Array (Option Value)} {QF Rf SX Qe OB S9:Value}
  (a9:PySem.W.nsIn K mainGlobals "_law_block" = some (some (.ref f9))) (l9:K.lookup f9 = some ⟨QF,Qv,.func (PySem.W.fnOf "_law_block" "_law_block" (aP bQ) (aL bQ) (aj bQ) .none Rf SX Qe Tt OB S9),Pq⟩) (c9:PySem.W.codeIn K OB "_law_block" = true) (k9:PySem.W.keepIn K (.ref f9) = true)
  {G9:Addr} {Jb Mc:Option Addr} {HX:Array (Option Value)} {Js JZ Lx II FN LP:Value}
  (a10:PySem.W.nsIn K mainGlobals "_law_mixed" = some (some (.ref G9))) (l10:K.lookup G9 = some ⟨Js,Jb,.func (PySem.W.fnOf "_law_mixed" "_law_mixed" (aP bN) (aL bN) (aj bN) .none JZ Lx II Mc FN LP),HX⟩) (c10:PySem.W.codeIn K FN "_law_mixed" = true) (k10:PySem.W.keepIn K (.ref G9) = true)
  {G8:Addr} {Ja Mb:Option Addr} {HW:Array (Option Value)} {Jr JY Lw IH FL LO:Value}
  (a11:PySem.W.nsIn K mainGlobals "_law_any" = some (some (.ref G8))) (l11:K.lookup G8 = some ⟨Jr,Ja,.func (PySem.W.fnOf "_law_any" "_law_any" (aP cF) (aL cF) (aj cF) .none JY Lw IH Mb FL LO),HW⟩) (c11:PySem.W.codeIn K FL "_law_any" = true) (k11:PySem.W.keepIn K (.ref G8) = true)
  {G7:Addr} {I9 Ma:Option Addr} {HV:Array (Option Value)} {Jq JX Lv IG FK LN:Value}
  (a12:PySem.W.nsIn K mainGlobals "_law_rings" = some (some (.ref G7))) (l12:K.lookup G7 = some ⟨Jq,I9,.func (PySem.W.fnOf "_law_rings" "_law_rings" (aP bM) (aL bM) (aj bM) .none JX Lv IG Ma FK LN),HV⟩) (c12:PySem.W.codeIn K FK "_law_rings" = true) (k12:PySem.W.keepIn K (.ref G7) = true)
  {G6:Addr} {I8 L9:Option Addr} {HU:Array (Option Value)} {Jp JW Lu IF FJ LM:Value}
  (a13:PySem.W.nsIn K mainGlobals "_law_put_tie" = some (some (.ref G6))) (l13:K.lookup G6 = some ⟨Jp,I8,.func (PySem.W.fnOf "_law_put_tie" "_law_put_tie" (aP bp) (aL bp) (aj bp) .none JW Lu IF L9 FJ LM),HU⟩) (c13:PySem.W.codeIn K FJ "_law_put_tie" = true) (k13:PySem.W.keepIn K (.ref G6) = true)
  {G5:Addr} {IZ L8:Option Addr} {HS:Array (Option Value)} {Jo JV Ls IE FI LL:Value}
  (a14:PySem.W.nsIn K mainGlobals "_law_put_place" = some (some (.ref G5))) (l14:K.lookup G5 = some ⟨Jo,IZ,.func (PySem.W.fnOf "_law_put_place" "_law_put_place" (aP aY) (aL aY) (aj aY) .none JV Ls IE L8 FI LL),HS⟩) (c14:PySem.W.codeIn K FI "_law_put_place" = true) (k14:PySem.W.keepIn K (.ref G5) = true)
  {G4:Addr} {IY L6:Option Addr} {HR:Array (Option Value)} {Jn JU Lr ID FH LK:Value}
  (a15:PySem.W.nsIn K mainGlobals "_law_grown" = some (some (.ref G4))) (l15:K.lookup G4 = some ⟨Jn,IY,.func (PySem.W.fnOf "_law_grown" "_law_grown" (aP bP) (aL bP) (aj bP) .none JU Lr ID L6 FH LK),HR⟩) (c15:PySem.W.codeIn K FH "_law_grown" = true) (k15:PySem.W.keepIn K (.ref G4) = true)
  {G3:Addr} {IX L5:Option Addr} {HQ:Array (Option Value)} {Jm JT Lq IC FG LJ:Value}
  (a16:PySem.W.nsIn K mainGlobals "_law_map" = some (some (.ref G3))) (l16:K.lookup G3 = some ⟨Jm,IX,.func (PySem.W.fnOf "_law_map" "_law_map" (aP cD) (aL cD) (aj cD) .none JT Lq IC L5 FG LJ),HQ⟩) (c16:PySem.W.codeIn K FG "_law_map" = true) (k16:PySem.W.keepIn K (.ref G3) = true)
  {G2:Addr} {IW L4:Option Addr} {HP:Array (Option Value)} {Jl JS Lo IB FF LI:Value}
  (a17:PySem.W.nsIn K mainGlobals "_law_lands" = some (some (.ref G2))) (l17:K.lookup G2 = some ⟨Jl,IW,.func (PySem.W.fnOf "_law_lands" "_law_lands" (aP bO) (aL bO) (aj bO) .none JS Lo IB L4 FF LI),HP⟩) (c17:PySem.W.codeIn K FF "_law_lands" = true) (k17:PySem.W.keepIn K (.ref G2) = true)
  {G1:Addr} {IV L1:Option Addr} {HN:Array (Option Value)} {Jk JR Ln IA FE LH:Value}
  (a18:PySem.W.nsIn K mainGlobals "_law_is_map" = some (some (.ref G1))) (l18:K.lookup G1 = some ⟨Jk,IV,.func (PySem.W.fnOf "_law_is_map" "_law_is_map" (aP bC) (aL bC) (aj bC) .none JR Ln IA L1 FE LH),HN⟩) (c18:PySem.W.codeIn K FE "_law_is_map" = true) (k18:PySem.W.keepIn K (.ref G1) = true)
  {G0:Addr} {IU L0:Option Addr} {HM:Array (Option Value)} {Jj JQ Lm Iz FD LG:Value}
  (a19:PySem.W.nsIn K mainGlobals "_law_same" = some (some (.ref G0))) (l19:K.lookup G0 = some ⟨Jj,IU,.func (PySem.W.fnOf "_law_same" "_law_same" (aP bY) (aL bY) (aj bY) .none JQ Lm Iz L0 FD LG),HM⟩) (c19:PySem.W.codeIn K FD "_law_same" = true) (k19:PySem.W.keepIn K (.ref G0) = true)
  {GZ:Addr} {IT LZ:Option Addr} {HL:Array (Option Value)} {Ji JP Ll Iy FC LF:Value}
  (a20:PySem.W.nsIn K mainGlobals "_law_strange" = some (some (.ref GZ))) (l20:K.lookup GZ = some ⟨Ji,IT,.func (PySem.W.fnOf "_law_strange" "_law_strange" (aP bo) (aL bo) (aj bo) .none JP Ll Iy LZ FC LF),HL⟩) (c20:PySem.W.codeIn K FC "_law_strange" = true) (k20:PySem.W.keepIn K (.ref GZ) = true)
  {GY:Addr} {IS LY:Option Addr} {HK:Array (Option Value)} {Jh JO Lk Iw FA LD:Value}
  (a21:PySem.W.nsIn K mainGlobals "_law_corners" = some (some (.ref GY))) (l21:K.lookup GY = some ⟨Jh,IS,.func (PySem.W.fnOf "_law_corners" "_law_corners" (aP bq) (aL bq) (aj bq) .none JO Lk Iw LY FA LD),HK⟩) (c21:PySem.W.codeIn K FA "_law_corners" = true) (k21:PySem.W.keepIn K (.ref GY) = true)
  {GX:Addr} {IQ LX:Option Addr} {HJ:Array (Option Value)} {Jg JN Lj Iv Fz LC:Value}
  (a22:PySem.W.nsIn K mainGlobals "_law_caught" = some (some (.ref GX))) (l22:K.lookup GX = some ⟨Jg,IQ,.func (PySem.W.fnOf "_law_caught" "_law_caught" (aP bD) (aL bD) (aj bD) .none JN Lj Iv LX Fz LC),HJ⟩) (c22:PySem.W.codeIn K Fz "_law_caught" = true) (k22:PySem.W.keepIn K (.ref GX) = true)
  {GW:Addr} {IP LW:Option Addr} {HI:Array (Option Value)} {Jf JM Li Iu Fy LB:Value}
  (a23:PySem.W.nsIn K mainGlobals "_law_due" = some (some (.ref GW))) (l23:K.lookup GW = some ⟨Jf,IP,.func (PySem.W.fnOf "_law_due" "_law_due" (aP cE) (aL cE) (aj cE) .none JM Li Iu LW Fy LB),HI⟩) (c23:PySem.W.codeIn K Fy "_law_due" = true) (k23:PySem.W.keepIn K (.ref GW) = true)
  {GV:Addr} {IM LV:Option Addr} {HH:Array (Option Value)} {Je JL Lh Ir Fx LA:Value}
  (a24:PySem.W.nsIn K mainGlobals "_law_fits" = some (some (.ref GV))) (l24:K.lookup GV = some ⟨Je,IM,.func (PySem.W.fnOf "_law_fits" "_law_fits" (aP bZ) (aL bZ) (aj bZ) .none JL Lh Ir LV Fx LA),HH⟩) (c24:PySem.W.codeIn K Fx "_law_fits" = true) (k24:PySem.W.keepIn K (.ref GV) = true)
  {K8:Addr} {IL FV:Option Addr} {HG:Array (Option Value)} {Jd EF Fq El C4 Ft:Value}
  (a25:PySem.W.nsIn K mainGlobals "law" = some (some (.ref K8))) (l25:K.lookup K8 = some ⟨Jd,IL,.func (PySem.W.fnOf "law" "law" (aP hZ) (aL hZ) (aj hZ) .none EF Fq El FV C4 Ft),HG⟩) (c25:PySem.W.codeIn K C4 "law" = true) (k25:PySem.W.keepIn K (.ref K8) = true)
  (z0:PySem.W.nsIn K mainGlobals "len" = some none)
  (z1:PySem.W.nsIn K mainGlobals "isinstance" = some none)
  (z2:PySem.W.nsIn K mainGlobals "int" = some none)
  (z3:PySem.W.nsIn K mainGlobals "bool" = some none)
  (z4:PySem.W.nsIn K mainGlobals "enumerate" = some none)
  (z5:PySem.W.nsIn K mainGlobals "range" = some none)
  (z6:PySem.W.nsIn K mainGlobals "min" = some none)
  (z7:PySem.W.nsIn K mainGlobals "max" = some none)
  (z8:PySem.W.nsIn K mainGlobals "sorted" = some none)
  (z9:PySem.W.nsIn K mainGlobals "set" = some none)
  (z10:PySem.W.nsIn K mainGlobals "list" = some none)
  (z11:PySem.W.nsIn K mainGlobals "zip" = some none)
  (z12:PySem.W.nsIn K mainGlobals "all" = some none)
  (z13:PySem.W.nsIn K mainGlobals "ValueError" = some none)
  (x_NoTie:PySem.W.excIn K bI [.type "ValueError",.type "Exception",.type "BaseException",.type "object"] "ValueError.__new__" = true)
  (t1_NoTie:PySem.W.findIn K (.ref bI) "__getattribute__" = some (some (.builtin "BaseException.__getattribute__"))) (t7_NoTie:PySem.W.findIn K (.ref bI) "__getattr__" = some none) (t8_NoTie:PySem.W.mroIn K bI (.type "BaseException") = some true) {yr:ClassData} (t2_NoTie:PySem.W.clsIn K bI = some yr) (t3_NoTie:PySem.W.findIn K (.ref bI) "__class__" = some (some (.builtin "object.__class__"))) (t6_NoTie:PySem.W.mroIn K bI (.type "object") = some true)
  (t4:PySem.W.specialIn K (.builtin "object.__class__") "__get__" = some (some (.builtin "getset_descriptor.__get__"))) (t5:PySem.W.takesIn K (.builtin "object.__class__") = some true)
  (f_m1:PySem.W.exmOne K (.ref bI) (.ref gj) = some true)
  (f_m2:PySem.W.kitOne K (.ref bI) (.ref bI) = some true)
  (f_m3:PySem.W.kitAny K (.ref bI) [.ref oM,.ref gW,.ref i7,.ref lh,.ref gU,.ref gg] = some false)
  (f_m4:PySem.W.kitAny K (.ref bI) [.ref lg,.ref gT,.ref gS,.ref gR,.ref fP,.ref iZ,.ref i6,.ref i5] = some false)
  (f_m5:PySem.W.kitOne K (.ref bI) (.type "ValueError") = some true)
  : ∃ fd:FuncData,(∀ (s:Shared) (v:Value),BindsTo s fd ⟨[v],[]⟩ [("_law_script",v)])∧∀ base:Heap,K.In base→base.Ns mainGlobals mg→mB l.prog w K mg base (cA l.prog w) 10 fa fd ["_law_script"] (nJ K):=by
 have e:=Sh.symm.trans (PySem.W.mg_of X G a25)
 cases e
 have T:Txt K mg ⟨gj,gg,lg,bI,gT,gU,i7,gW,gR,oM,fP,i6,i5,lh,gS,iZ⟩:=⟨PySem.W.mg_none_of X G z0,PySem.W.mg_none_of X G z1,PySem.W.mg_none_of X G z2,PySem.W.mg_none_of X G z3,PySem.W.mg_none_of X G z4,PySem.W.mg_none_of X G z5,PySem.W.mg_none_of X G z6,PySem.W.mg_none_of X G z7,PySem.W.mg_none_of X G z8,PySem.W.mg_none_of X G z9,PySem.W.mg_none_of X G z10,PySem.W.mg_none_of X G z11,PySem.W.mg_none_of X G z12,PySem.W.mg_none_of X G z13,PySem.W.mg_of X G e_MapError,PySem.W.mg_of X G e_NoNumber,PySem.W.mg_of X G e_NoOne,PySem.W.mg_of X G e_NoTie,PySem.W.mg_of X G e_NoOther,PySem.W.mg_of X G e_NoNames,PySem.W.mg_of X G e_NoLand,PySem.W.mg_of X G e_NoFrame,PySem.W.mg_of X G e_NoThree,PySem.W.mg_of X G e_Flat,PySem.W.mg_of X G e_NotInside,PySem.W.mg_of X G e_NoStep,PySem.W.mg_of X G e_NoText,PySem.W.mg_of X G e_NoMap,PySem.W.mg_of X G e_NoSheet,PySem.W.mg_of X G e_Parted,x_NoTie,⟨t1_NoTie,t7_NoTie,t8_NoTie,by rw [t2_NoTie]; rfl,t3_NoTie,t4,t5,t6_NoTie⟩,f_m1,f_m2,f_m3,f_m4,f_m5⟩
 have D0:Def K mg "onward" dI ["orders", "one", "other"]:=⟨⟨f0,_,aF (st:=dI) l0 c0 k0,PySem.W.mg_of X G a0,(aF (st:=dI) l0 c0 k0).binds (ps:=["orders", "one", "other"]) fun _ _ _ _ _ _ us hl=>match us,hl with | [_,_,_],_=>rfl⟩⟩
 have D1:Def K mg "ring_from" bW ["orders", "one", "other"]:=⟨⟨f1,_,aF (st:=bW) l1 c1 k1,PySem.W.mg_of X G a1,(aF (st:=bW) l1 c1 k1).binds (ps:=["orders", "one", "other"]) fun _ _ _ _ _ _ us hl=>match us,hl with | [_,_,_],_=>rfl⟩⟩
 have D2:Def K mg "least_begun" bB ["ring"]:=⟨⟨f2,_,aF (st:=bB) l2 c2 k2,PySem.W.mg_of X G a2,(aF (st:=bB) l2 c2 k2).binds (ps:=["ring"]) fun _ _ _ _ _ _ us hl=>match us,hl with | [_],_=>rfl⟩⟩
 have D3:Def K mg "steps" eR ["ring"]:=⟨⟨f3,_,aF (st:=eR) l3 c3 k3,PySem.W.mg_of X G a3,(aF (st:=eR) l3 c3 k3).binds (ps:=["ring"]) fun _ _ _ _ _ _ us hl=>match us,hl with | [_],_=>rfl⟩⟩
 have D4:Def K mg "lands" eU ["orders"]:=⟨⟨f4,_,aF (st:=eU) l4 c4 k4,PySem.W.mg_of X G a4,(aF (st:=eU) l4 c4 k4).binds (ps:=["orders"]) fun _ _ _ _ _ _ us hl=>match us,hl with | [_],_=>rfl⟩⟩
 have D5:Def K mg "put_ahead" bX ["order", "new", "old"]:=⟨⟨f5,_,aF (st:=bX) l5 c5 k5,PySem.W.mg_of X G a5,(aF (st:=bX) l5 c5 k5).binds (ps:=["order", "new", "old"]) fun _ _ _ _ _ _ us hl=>match us,hl with | [_,_,_],_=>rfl⟩⟩
 have D6:Def K mg "rises" eT ["numbers"]:=⟨⟨f6,_,aF (st:=eT) l6 c6 k6,PySem.W.mg_of X G a6,(aF (st:=eT) l6 c6 k6).binds (ps:=["numbers"]) fun _ _ _ _ _ _ us hl=>match us,hl with | [_],_=>rfl⟩⟩
 have D7:Def K mg "placed" dH ["orders", "land", "corners"]:=⟨⟨f7,_,aF (st:=dH) l7 c7 k7,PySem.W.mg_of X G a7,(aF (st:=dH) l7 c7 k7).binds (ps:=["orders", "land", "corners"]) fun _ _ _ _ _ _ us hl=>match us,hl with | [_,_,_],_=>rfl⟩⟩
 have D8:Def K mg "_law_whole" bL ["_law_found"]:=⟨⟨f8,_,aF (st:=bL) l8 c8 k8,PySem.W.mg_of X G a8,(aF (st:=bL) l8 c8 k8).binds (ps:=["_law_found"]) fun _ _ _ _ _ _ us hl=>match us,hl with | [_],_=>rfl⟩⟩
 have D9:Def K mg "_law_block" bQ ["_law_script", "_law_k"]:=⟨⟨f9,_,aF (st:=bQ) l9 c9 k9,PySem.W.mg_of X G a9,(aF (st:=bQ) l9 c9 k9).binds (ps:=["_law_script", "_law_k"]) fun _ _ _ _ _ _ us hl=>match us,hl with | [_,_],_=>rfl⟩⟩
 have Uq:Def K mg "_law_mixed" bN ["_law_script", "_law_k"]:=⟨⟨G9,_,aF (st:=bN) l10 c10 k10,PySem.W.mg_of X G a10,(aF (st:=bN) l10 c10 k10).binds (ps:=["_law_script", "_law_k"]) fun _ _ _ _ _ _ us hl=>match us,hl with | [_,_],_=>rfl⟩⟩
 have Uo:Def K mg "_law_any" cF ["_law_script", "_law_start", "_law_many"]:=⟨⟨G8,_,aF (st:=cF) l11 c11 k11,PySem.W.mg_of X G a11,(aF (st:=cF) l11 c11 k11).binds (ps:=["_law_script", "_law_start", "_law_many"]) fun _ _ _ _ _ _ us hl=>match us,hl with | [_,_,_],_=>rfl⟩⟩
 have Um:Def K mg "_law_rings" bM ["_law_orders"]:=⟨⟨G7,_,aF (st:=bM) l12 c12 k12,PySem.W.mg_of X G a12,(aF (st:=bM) l12 c12 k12).binds (ps:=["_law_orders"]) fun _ _ _ _ _ _ us hl=>match us,hl with | [_],_=>rfl⟩⟩
 have Ul:Def K mg "_law_put_tie" bp ["_law_orders", "_law_ring", "_law_one", "_law_other"]:=⟨⟨G6,_,aF (st:=bp) l13 c13 k13,PySem.W.mg_of X G a13,(aF (st:=bp) l13 c13 k13).binds (ps:=["_law_orders", "_law_ring", "_law_one", "_law_other"]) fun _ _ _ _ _ _ us hl=>match us,hl with | [_,_,_,_],_=>rfl⟩⟩
 have Uk:Def K mg "_law_put_place" aY ["_law_orders", "_law_ring", "_law_corners_here"]:=⟨⟨G5,_,aF (st:=aY) l14 c14 k14,PySem.W.mg_of X G a14,(aF (st:=aY) l14 c14 k14).binds (ps:=["_law_orders", "_law_ring", "_law_corners_here"]) fun _ _ _ _ _ _ us hl=>match us,hl with | [_,_,_],_=>rfl⟩⟩
 have Uj:Def K mg "_law_grown" bP ["_law_script", "_law_start", "_law_steps"]:=⟨⟨G4,_,aF (st:=bP) l15 c15 k15,PySem.W.mg_of X G a15,(aF (st:=bP) l15 c15 k15).binds (ps:=["_law_script", "_law_start", "_law_steps"]) fun _ _ _ _ _ _ us hl=>match us,hl with | [_,_,_],_=>rfl⟩⟩
 have Ui:Def K mg "_law_map" cD ["_law_script"]:=⟨⟨G3,_,aF (st:=cD) l16 c16 k16,PySem.W.mg_of X G a16,(aF (st:=cD) l16 c16 k16).binds (ps:=["_law_script"]) fun _ _ _ _ _ _ us hl=>match us,hl with | [_],_=>rfl⟩⟩
 have Uh:Def K mg "_law_lands" bO ["_law_orders"]:=⟨⟨G2,_,aF (st:=bO) l17 c17 k17,PySem.W.mg_of X G a17,(aF (st:=bO) l17 c17 k17).binds (ps:=["_law_orders"]) fun _ _ _ _ _ _ us hl=>match us,hl with | [_],_=>rfl⟩⟩
 have Ug:Def K mg "_law_is_map" bC ["_law_found"]:=⟨⟨G1,_,aF (st:=bC) l18 c18 k18,PySem.W.mg_of X G a18,(aF (st:=bC) l18 c18 k18).binds (ps:=["_law_found"]) fun _ _ _ _ _ _ us hl=>match us,hl with | [_],_=>rfl⟩⟩
 have Ue:Def K mg "_law_same" bY ["_law_one", "_law_other"]:=⟨⟨G0,_,aF (st:=bY) l19 c19 k19,PySem.W.mg_of X G a19,(aF (st:=bY) l19 c19 k19).binds (ps:=["_law_one", "_law_other"]) fun _ _ _ _ _ _ us hl=>match us,hl with | [_,_],_=>rfl⟩⟩
 have Ud:Def K mg "_law_strange" bo ["_law_caught_here"]:=⟨⟨GZ,_,aF (st:=bo) l20 c20 k20,PySem.W.mg_of X G a20,(aF (st:=bo) l20 c20 k20).binds (ps:=["_law_caught_here"]) fun _ _ _ _ _ _ us hl=>match us,hl with | [_],_=>rfl⟩⟩
 have Uc:Def K mg "_law_corners" bq ["_law_ring", "_law_number"]:=⟨⟨GY,_,aF (st:=bq) l21 c21 k21,PySem.W.mg_of X G a21,(aF (st:=bq) l21 c21 k21).binds (ps:=["_law_ring", "_law_number"]) fun _ _ _ _ _ _ us hl=>match us,hl with | [_,_],_=>rfl⟩⟩
 have Ub:Def K mg "_law_caught" bD ["_law_orders", "_law_land", "_law_corners_here"]:=⟨⟨GX,_,aF (st:=bD) l22 c22 k22,PySem.W.mg_of X G a22,(aF (st:=bD) l22 c22 k22).binds (ps:=["_law_orders", "_law_land", "_law_corners_here"]) fun _ _ _ _ _ _ us hl=>match us,hl with | [_,_,_],_=>rfl⟩⟩
 have Ua:Def K mg "_law_due" cE ["_law_orders", "_law_ring", "_law_corners_here"]:=⟨⟨GW,_,aF (st:=cE) l23 c23 k23,PySem.W.mg_of X G a23,(aF (st:=cE) l23 c23 k23).binds (ps:=["_law_orders", "_law_ring", "_law_corners_here"]) fun _ _ _ _ _ _ us hl=>match us,hl with | [_,_,_],_=>rfl⟩⟩
 have T9:Def K mg "_law_fits" bZ ["_law_orders", "_law_land", "_law_ring", "_law_corners_here"]:=⟨⟨GV,_,aF (st:=bZ) l24 c24 k24,PySem.W.mg_of X G a24,(aF (st:=bZ) l24 c24 k24).binds (ps:=["_law_orders", "_law_land", "_law_ring", "_law_corners_here"]) fun _ _ _ _ _ _ us hl=>match us,hl with | [_,_,_,_],_=>rfl⟩⟩
 refine ⟨PySem.W.fnOf "law" "law" (aP hZ) (aL hZ) (aj hZ) .none EF Fq El FV C4 Ft,fun s v=>.of_eq rfl,fun base hK hG=>?_⟩
 have yG:=uY (P:=l.prog) (w:=w) (base:=base) D0 T
 have qN:=om (P:=l.prog) (w:=w) (base:=base) D1 T yG
 have mr:=ke (P:=l.prog) (w:=w) (base:=base) D2 T
 have AF:=xp (P:=l.prog) (w:=w) (base:=base) D3 T
 have AH:=xr (P:=l.prog) (w:=w) (base:=base) D4 T qN mr AF
 have qO:=oq (P:=l.prog) (w:=w) (base:=base) D5 T
 have AG:=xq (P:=l.prog) (w:=w) (base:=base) D6 T
 have qP:=uX (P:=l.prog) (w:=w) (base:=base) D7 T AH qO AG
 have oV:=lN (P:=l.prog) (w:=w) (base:=base) D8 T
 have oY:=lT (P:=l.prog) (w:=w) (base:=base) D9 T
 have eu:=lP (P:=l.prog) (w:=w) (base:=base) Uq T oY
 have sW:=p5 (P:=l.prog) (w:=w) (base:=base) Uo T eu
 have iM:=lO (P:=l.prog) (w:=w) (base:=base) Um T
 have lD:=jx (P:=l.prog) (w:=w) (base:=base) Ul T
 have jc:=ie (P:=l.prog) (w:=w) (base:=base) Uk T
 have oX:=lS (P:=l.prog) (w:=w) (base:=base) Uj T eu iM lD jc
 have sU:=pY (P:=l.prog) (w:=w) (base:=base) Ui T eu sW oX
 have oW:=lQ (P:=l.prog) (w:=w) (base:=base) Uh T iM
 have mw:=kg (P:=l.prog) (w:=w) (base:=base) Ug T oV
 have qQ:=ou (P:=l.prog) (w:=w) (base:=base) Ue T
 have lC:=jw (P:=l.prog) (w:=w) (base:=base) Ud T
 have lE:=jy (P:=l.prog) (w:=w) (base:=base) Uc T
 have mz:=kh (P:=l.prog) (w:=w) (base:=base) Ub T qP
 have sV:=pZ (P:=l.prog) (w:=w) (base:=base) Ua T
 have qR:=ow (P:=l.prog) (w:=w) (base:=base) T9 T qP mw qQ lC mz sV
 exact Ca (aF (st:=hZ) l25 c25 k25) T eu sU oW lE qR
theorem walk {l:PySem.W.OpenLaw} {q:Program} {loose:List Str} {XP:(Str→Option Value)→Heap→Prop} {YP:World→Heap→Prop} {d:DefRec} {K:Params→PySem.W.Frag} (hn:l.most = some 63) (CP:d.params.defaults = [])
  (hY:∀ (w:World) (h:Heap),YP w h→(K w.params).In h)
  (F:∀ (w:World) (mg:Str→Option Value) (fa:Addr) (h:Heap),(K w.params).In h→h.Ns mainGlobals mg→mg d.name = some (.ref fa)→
   ∃ fd:FuncData,(∀ (s:Shared) (u:Value),BindsTo s fd ⟨[u],[]⟩ [("_law_script",u)])∧∀ base:Heap,(K w.params).In base→base.Ns mainGlobals mg→mB l.prog w (K w.params) mg base (cA l.prog w) 10 fa fd ["_law_script"] (nJ (K w.params))) :
  PySem.W.WalkO q loose XP YP l.row.toRowW d [] (fun f vs=>PySem.call f vs):=
 L2.yV (n:=63) (k:=10) (x:= "_law_script") (CX:=fun w=>cA l.prog w) (sp:=fun w=>nJ (K w.params)) hn (by decide) CP ⟨rfl,by decide,by decide⟩ hY F (fun _ _ a ns hl _ hS=>⟨a,ns,rfl,hS,hl,fun _=>rfl⟩) fun _ _ _ _ _ z=>vq z
end Dd
theorem PySem.W.Fast.tw10980232498775620279:True:=trivial
theorem PySem.W.Fast.tw37278883051361139:True:=trivial
theorem PySem.W.Fast.tw8175480854107844766:True:=trivial
theorem PySem.W.Fast.tw9182783199587085810:True:=trivial
theorem PySem.W.Fast.tw16315851075753679177:True:=trivial
theorem PySem.W.Fast.tw18357032984321774553:True:=trivial
theorem PySem.W.Fast.tw6713474191891913411:True:=trivial
theorem PySem.W.Fast.tw9467851461783191847:True:=trivial
theorem PySem.W.Fast.tw11888005499096122554:True:=trivial
theorem PySem.W.Fast.tw11405149457234208148:True:=trivial
theorem PySem.W.Fast.tw17381181358038779666:True:=trivial
theorem PySem.W.Fast.tw2377521387175205889:True:=trivial
theorem PySem.W.Fast.tw9019119856969491661:True:=trivial
theorem PySem.W.Fast.tw8801555335814152410:True:=trivial
theorem PySem.W.Fast.tw12862084363577786821:True:=trivial
theorem PySem.W.Fast.tw5697422781998809160:True:=trivial
theorem PySem.W.Fast.tw937022873291545743:True:=trivial
theorem PySem.W.Fast.tw16912127347072817452:True:=trivial
theorem PySem.W.Fast.tw17643080343346021054:True:=trivial
theorem PySem.W.Fast.tw14791467806974963982:True:=trivial
theorem PySem.W.Fast.tw1471806444175122528:True:=trivial
theorem PySem.W.Fast.tw10547619167378953368:True:=trivial
theorem PySem.W.Fast.tw3936139654398527858:True:=trivial
theorem PySem.W.Fast.tw14085560999572425572:True:=trivial
theorem PySem.W.Fast.tw8743918399308380829:True:=trivial
theorem PySem.W.Fast.tw9877080159967563839:True:=trivial
theorem PySem.W.Fast.tw15085844499450562668:True:=trivial
theorem PySem.W.Fast.tw2558164293551437344:True:=trivial
theorem PySem.W.Fast.tw4652058011408570404:True:=trivial
theorem PySem.W.Fast.tw227353031297631664:True:=trivial
theorem PySem.W.Fast.tw10598270024376190777:True:=trivial
theorem PySem.W.Fast.tw4673509512147354202:True:=trivial
theorem PySem.W.Fast.tw1704328103218092204:True:=trivial
theorem PySem.W.Fast.tw12504093981399290654:True:=trivial
theorem PySem.W.Fast.tw2000332158236593683:True:=trivial
theorem PySem.W.Fast.tw14421390049750892770:True:=trivial
theorem PySem.W.Fast.tw822453571469737780:True:=trivial
theorem PySem.W.Fast.tw15716552396997838822:True:=trivial
theorem PySem.W.Fast.tw10428638077540765787:True:=trivial
theorem PySem.W.Fast.tw12206384725500107457:True:=trivial
theorem PySem.W.Fast.tw2959774726418162789:True:=trivial
theorem PySem.W.Fast.tw1068137166914538227:True:=trivial
theorem PySem.W.Fast.tw9540293922990670586:True:=trivial
open PySem PySem.W PyProof.Rows
set_option maxRecDepth 100000 in
set_option maxHeartbeats 0 in
theorem PySem.Challenge.cw_standup_k23_a_place_put_in_holds : PySem.Challenge.rw_standup_k23_a_place_put_in.Holds := by
 w_on; o_law; k_head; (case hw=>w_witness2)
 k_fill
 refine Dd.walk (l:=PySem.Challenge.rw_standup_k23_a_place_put_in) rfl rfl (fun w h Y=>PySem.W.kIn_of Y) ?F
 case F=>
  intro w mg fa h KX G ER
  refine' Dd.all_mk KX G ER ?e_MapError ?e_NoNumber ?e_NoOne ?e_NoTie ?e_NoOther ?e_NoNames ?e_NoLand ?e_NoFrame ?e_NoThree ?e_Flat ?e_NotInside ?e_NoStep ?e_NoText ?e_NoMap ?e_NoSheet ?e_Parted ?a0 ?l0 ?c0 ?k0 ?a1 ?l1 ?c1 ?k1 ?a2 ?l2 ?c2 ?k2 ?a3 ?l3 ?c3 ?k3 ?a4 ?l4 ?c4 ?k4 ?a5 ?l5 ?c5 ?k5 ?a6 ?l6 ?c6 ?k6 ?a7 ?l7 ?c7 ?k7 ?a8 ?l8 ?c8 ?k8 ?a9 ?l9 ?c9 ?k9 ?a10 ?l10 ?c10 ?k10 ?a11 ?l11 ?c11 ?k11 ?a12 ?l12 ?c12 ?k12 ?a13 ?l13 ?c13 ?k13 ?a14 ?l14 ?c14 ?k14 ?a15 ?l15 ?c15 ?k15 ?a16 ?l16 ?c16 ?k16 ?a17 ?l17 ?c17 ?k17 ?a18 ?l18 ?c18 ?k18 ?a19 ?l19 ?c19 ?k19 ?a20 ?l20 ?c20 ?k20 ?a21 ?l21 ?c21 ?k21 ?a22 ?l22 ?c22 ?k22 ?a23 ?l23 ?c23 ?k23 ?a24 ?l24 ?c24 ?k24 ?a25 ?l25 ?c25 ?k25 ?z0 ?z1 ?z2 ?z3 ?z4 ?z5 ?z6 ?z7 ?z8 ?z9 ?z10 ?z11 ?z12 ?z13 ?x_NoTie ?t1_NoTie ?t7_NoTie ?t8_NoTie ?t2_NoTie ?t3_NoTie ?t6_NoTie ?t4 ?t5 ?f_m1 ?f_m2 ?f_m3 ?f_m4 ?f_m5
  (case e_MapError=>k_is)
  (case e_NoNumber=>k_is)
  (case e_NoOne=>k_is)
  (case e_NoTie=>k_is)
  (case e_NoOther=>k_is)
  (case e_NoNames=>k_is)
  (case e_NoLand=>k_is)
  (case e_NoFrame=>k_is)
  (case e_NoThree=>k_is)
  (case e_Flat=>k_is)
  (case e_NotInside=>k_is)
  (case e_NoStep=>k_is)
  (case e_NoText=>k_is)
  (case e_NoMap=>k_is)
  (case e_NoSheet=>k_is)
  (case e_Parted=>k_is)
  (case a0=>k_is)
  (case l0=>k_is)
  (case c0=>k_is)
  (case k0=>k_is)
  (case a1=>k_is)
  (case l1=>k_is)
  (case c1=>k_is)
  (case k1=>k_is)
  (case a2=>k_is)
  (case l2=>k_is)
  (case c2=>k_is)
  (case k2=>k_is)
  (case a3=>k_is)
  (case l3=>k_is)
  (case c3=>k_is)
  (case k3=>k_is)
  (case a4=>k_is)
  (case l4=>k_is)
  (case c4=>k_is)
  (case k4=>k_is)
  (case a5=>k_is)
  (case l5=>k_is)
  (case c5=>k_is)
  (case k5=>k_is)
  (case a6=>k_is)
  (case l6=>k_is)
  (case c6=>k_is)
  (case k6=>k_is)
  (case a7=>k_is)
  (case l7=>k_is)
  (case c7=>k_is)
  (case k7=>k_is)
  (case a8=>k_is)
  (case l8=>k_is)
  (case c8=>k_is)
  (case k8=>k_is)
  (case a9=>k_is)
  (case l9=>k_is)
  (case c9=>k_is)
  (case k9=>k_is)
  (case a10=>k_is)
  (case l10=>k_is)
  (case c10=>k_is)
  (case k10=>k_is)
  (case a11=>k_is)
  (case l11=>k_is)
  (case c11=>k_is)
  (case k11=>k_is)
  (case a12=>k_is)
  (case l12=>k_is)
  (case c12=>k_is)
  (case k12=>k_is)
  (case a13=>k_is)
  (case l13=>k_is)
  (case c13=>k_is)
  (case k13=>k_is)
  (case a14=>k_is)
  (case l14=>k_is)
  (case c14=>k_is)
  (case k14=>k_is)
  (case a15=>k_is)
  (case l15=>k_is)
  (case c15=>k_is)
  (case k15=>k_is)
  (case a16=>k_is)
  (case l16=>k_is)
  (case c16=>k_is)
  (case k16=>k_is)
  (case a17=>k_is)
  (case l17=>k_is)
  (case c17=>k_is)
  (case k17=>k_is)
  (case a18=>k_is)
  (case l18=>k_is)
  (case c18=>k_is)
  (case k18=>k_is)
  (case a19=>k_is)
  (case l19=>k_is)
  (case c19=>k_is)
  (case k19=>k_is)
  (case a20=>k_is)
  (case l20=>k_is)
  (case c20=>k_is)
  (case k20=>k_is)
  (case a21=>k_is)
  (case l21=>k_is)
  (case c21=>k_is)
  (case k21=>k_is)
  (case a22=>k_is)
  (case l22=>k_is)
  (case c22=>k_is)
  (case k22=>k_is)
  (case a23=>k_is)
  (case l23=>k_is)
  (case c23=>k_is)
  (case k23=>k_is)
  (case a24=>k_is)
  (case l24=>k_is)
  (case c24=>k_is)
  (case k24=>k_is)
  (case a25=>k_is)
  (case l25=>k_is)
  (case c25=>k_is)
  (case k25=>k_is)
  (case z0=>k_is)
  (case z1=>k_is)
  (case z2=>k_is)
  (case z3=>k_is)
  (case z4=>k_is)
  (case z5=>k_is)
  (case z6=>k_is)
  (case z7=>k_is)
  (case z8=>k_is)
  (case z9=>k_is)
  (case z10=>k_is)
  (case z11=>k_is)
  (case z12=>k_is)
  (case z13=>k_is)
  (case x_NoTie=>k_exc)
  (case t1_NoTie=>k_is)
  (case t7_NoTie=>k_is)
  (case t8_NoTie=>k_is)
  (case t2_NoTie=>k_is)
  (case t3_NoTie=>k_is)
  (case t6_NoTie=>k_is)
  (case t4=>k_is)
  (case t5=>k_is)
  (case f_m1=>kts_exm)
  (case f_m2=>kit_is)
  (case f_m3=>kit_is)
  (case f_m4=>kit_is)
  (case f_m5=>kit_is)
