import PyProof.Rows.All
import Wide.All
import OpenK.AllK
import Wide.FinOn
import Lean
import PyProof.EqAt
import PyProof.EqKinds
import PyProof.TupleCall
import PyProof.Rows.Catch
import PyProof.InstStoreFacts
import PyProof.ExcInit
import KE.KRevIter
import KE.KIntText
import KE.KDictList
import PyProof.Rows.TupDisplay
import PyProof.Rows.SetFrom
import PyProof.Walks
import PySem.Challenge.RW_standup_k11_what_is_no_map
set_option Elab.async false
set_option linter.all false
set_option maxRecDepth 100000
set_option maxHeartbeats 4000000
namespace L2
open PySem PySem.Spec PyProof.Rows
abbrev Key:=Sum Int Str
def pe:Key→Value→Bool
 | .inl k,v=>Value.isInt k v
 | .inr x,v=>Value.isStrOf x v
def vn (w:World):Key→Int
 | .inl k=>hashInt k
 | .inr x=>hashStr w x
theorem aW:∀ {k:Key} {v:Value},pe k v = true→(∃ i t,k = Sum.inl i∧v = Value.int i t)∨(∃ x t,k = Sum.inr x∧v = Value.str x t)
 | .inl i,v,h=>by
  obtain ⟨t,e⟩:=Value.isInt_shape (k:=i) (v:=v) h
  exact .inl ⟨i,t,rfl,e⟩
 | .inr x,v,h=>by
  obtain ⟨t,e⟩:=Value.isStrOf_shape (x:=x) (v:=v) h
  exact .inr ⟨x,t,rfl,e⟩
theorem qo (a b:Int):decide ((Sum.inl a:Key) = Sum.inl b) = (a == b):=by
 by_cases e:a = b
 ·subst e; simp
 ·have h:¬ (Sum.inl a:Key) = Sum.inl b:=fun q=>e (Sum.inl.inj q)
  rw [decide_eq_false h]
  exact (beq_eq_false_iff_ne.mpr e).symm
theorem qj (a b:Str):decide ((Sum.inr a:Key) = Sum.inr b) = decide (a = b):=by
 by_cases e:a = b
 ·subst e; simp
 ·have h:¬ (Sum.inr a:Key) = Sum.inr b:=fun q=>e (Sum.inr.inj q)
  rw [decide_eq_false h,decide_eq_false e]
theorem ql (a:Int) (b:Str):decide ((Sum.inl a:Key) = Sum.inr b) = false:=decide_eq_false (fun q=>nomatch q)
theorem qk (a:Str) (b:Int):decide ((Sum.inr a:Key) = Sum.inl b) = false:=decide_eq_false (fun q=>nomatch q)
def jF (prog:Program) (w:World):PySem.KeyKind prog w Key where
 is:=pe
 hash:=vn w
 inj:=fun v a b ha hb=>by
  rcases aW ha with ⟨i,t,rfl,rfl⟩ | ⟨x,t,rfl,rfl⟩
  ·rcases aW hb with ⟨j,u,rfl,e⟩ | ⟨y,u,rfl,e⟩
   ·injection e with e1 _; rw [e1]
   ·exact nomatch e
  ·rcases aW hb with ⟨j,u,rfl,e⟩ | ⟨y,u,rfl,e⟩
   ·exact nomatch e
   ·injection e with e1 _; rw [e1]
 byValue:=fun k v h=>by
  rcases aW h with ⟨i,t,rfl,rfl⟩ | ⟨x,t,rfl,rfl⟩ <;> rfl
 pyHash:=fun hv h=>by
  rcases aW hv with ⟨i,t,rfl,rfl⟩ | ⟨x,t,rfl,rfl⟩
  ·exact wpAny_pyHash_int h
  ·exact wpAny_pyHash_str h
 eqBool:=fun hu hv h=>by
  rcases aW hu with ⟨i,t,rfl,rfl⟩ | ⟨x,t,rfl,rfl⟩
  ·rcases aW hv with ⟨j,u,rfl,rfl⟩ | ⟨y,u,rfl,rfl⟩
   ·rw [qo] at h; exact wpAny_eqBool_int h
   ·rw [ql] at h; exact SeqAt.EqAt.int_str i t y u _ _ _ _ h
  ·rcases aW hv with ⟨j,u,rfl,rfl⟩ | ⟨y,u,rfl,rfl⟩
   ·rw [qk] at h; exact SeqAt.EqAt.str_int x t j u _ _ _ _ h
   ·rw [qj] at h; exact wpAny_eqBool_str h
 «strs»:=fun k x t v h=>by
  rcases aW h with ⟨i,u,rfl,e⟩ | ⟨y,u,rfl,e⟩
  ·exact nomatch e
  ·injection e with e1 _
   subst e1
   cases v <;> rfl
end L2
namespace L2
open PySem PySem.Spec PyProof.Rows
inductive V where
 | bp | bl (b:Bool) | int (i:Int) | str (x:Str) | iM (b:Array UInt8) | kJ (b:UInt64) | ref (a:Addr) | ty (n:String)
 deriving DecidableEq
def RelV:V→Value→Prop
 | .bp,u=>u = Value.none
 | .bl b,u=>u = Value.bool b
 | .int i,u=>∃ t,u = Value.int i t
 | .str x,u=>∃ t,u = Value.str x t
 | .iM b,u=>∃ t,u = Value.bytes b t
 | .kJ b,u=>∃ t,u = Value.float b t
 | .ref a,u=>u = Value.ref a
 | .ty n,u=>u = Value.type n
abbrev Vals:List V→List Value→Prop:=Paired RelV
theorem Vals.length {xs:List V} {us:List Value} (r:Vals xs us):xs.length = us.length:=Paired.length r
theorem Vals.get:∀ {xs:List V} {us:List Value} {i:Nat} {x:V},Vals xs us→xs[i]? = some x→∃ u,us[i]? = some u∧RelV x u
 | _,_,_,_,.nil,e=>by simp at e
 | _,_,0,_,.cons r _,e=>by simp at e; subst e; exact ⟨_,rfl,r⟩
 | _,_,i + 1,x,.cons _ t,e=>by
  obtain ⟨u,h1,h2⟩:=Vals.get (i:=i) (x:=x) t (by simpa using e)
  exact ⟨u,by simpa using h1,h2⟩
theorem Vals.set {x:V} {u:Value} (r:RelV x u):∀ {xs:List V} {us:List Value} (i:Nat),Vals xs us→Vals (xs.set i x) (us.set i u)
 | _,_,_,.nil=>.nil
 | _,_,0,.cons _ t=>.cons r t
 | _,_,i + 1,.cons q t=>.cons q (Vals.set r i t)
theorem Vals.append:∀ {xs ys:List V} {us ws:List Value},Vals xs us→Vals ys ws→Vals (xs ++ ys) (us ++ ws)
 | _,_,_,_,.nil,s=>s
 | _,_,_,_,.cons r t,s=>.cons r (Vals.append t s)
theorem Vals.take:∀ {xs:List V} {us:List Value} (n:Nat),Vals xs us→Vals (xs.take n) (us.take n)
 | _,_,0,_=>.nil
 | _,_,_ + 1,.nil=>.nil
 | _,_,n + 1,.cons r t=>.cons r (Vals.take n t)
theorem Vals.drop:∀ {xs:List V} {us:List Value} (n:Nat),Vals xs us→Vals (xs.drop n) (us.drop n)
 | _,_,0,r=>r
 | _,_,_ + 1,.nil=>.nil
 | _,_,n + 1,.cons _ t=>Vals.drop n t
def iG:Option V→Option Value→Prop
 | some v,some u=>RelV v u
 | none,none=>True
 | _,_=>False
def KV {κ : Type}:List (κ×V)→List (κ×Value)→Prop:=Paired fun (p : κ×V) (q : κ×Value)=>p.1 = q.1∧RelV p.2 q.2
def kV:Key→V
 | .inl i=>.int i
 | .inr x=>.str x
inductive HO where
 /-- a list -/
 | lst (xs:List V)
 /-- a tuple (never changes) -/
 | tup (xs:List V)
 /-- a dict q0 keys are ints and texts; one q0 keys are tuples of ints and texts (kM empty one is both) -/
 | dK (aI:List (Key×V)) | dT (aI:List (List Key×V))
 /-- a set of ints: aH members,aH size -/
 | set (S:Int→Bool) (n:Nat)
 /-- an instance of kM class at C,aH dict at dx,aH attributes -/
 | ins (C dx:Addr) (fs:List (Str×V))
 /-- kM dict of kM instance at x -/
 | own (x:Addr)
 /-- kM dict of an exception -/
 | xd (fs:List (Str×V))
 /-- a bound method,f of x -/
 | met (f x:Addr)
 /-- a range object lo,lo + 1,.. below hi -/
 | tN (lo hi:Int)
 /-- a q4 yK is known to kM object (kM kZ; a dict while a loop walks it): read,never written while it is so -/
 | fg (o:Obj) (u:HO)
 /-- a code object's table -/
 | oJ (ps:Array Value)
 /-- any other q4,by uu is true of aH one object (a def of one's own: Cm a S n:=HO.ext fun h=>..) -/
 | ext (φ : Heap→Prop)
abbrev Hp:=Addr→Option HO
def upd (H:Hp) (a:Addr) (o:HO):Hp:=fun b=>if b = a then some o else H b
theorem ar {H:Hp} {a:Addr} {o:HO}:upd H a o a = some o:=by unfold upd; rw [if_pos rfl]
theorem ao {H:Hp} {a b:Addr} {o:HO} (h:b≠a):upd H a o b = H b:=by unfold upd; rw [if_neg h]
theorem nz {H:Hp} {a:Addr} {o u:HO}:upd (upd H a o) a u = upd H a u:=by
 funext b; unfold upd; split <;> rfl
theorem az {H:Hp} {a b:Addr} {o:HO} (h:H a = some o) (h':H b = none):a≠b:=by
 intro e; subst e; rw [h] at h'; cases h'
section
variable (P:Program) (w:World)
def aS (H:Hp) (h:Heap) (a:Addr):HO→Prop
 | .lst xs=>xs.length≤sizeLine∧∃ (aH:List Value) (n:Nat),Vals xs aH∧h.get? a = some { cls:=.type "list",data:=.seq aH.toArray n }
 | .tup xs=>xs.length≤sizeLine∧∃ aH:List Value,Vals xs aH∧IsTup h a aH.toArray
 | .dK aI=>aI.length≤sizeLine∧(a == sysModules) = false∧∃ vs,KV aI vs∧h.DictOf (jF P w) a vs
 | .dT aI=>aI.length≤sizeLine∧(a == sysModules) = false∧∃ xs:List (List Key×Addr×Value),
   Paired (fun (p:List Key×V) (q:List Key×Addr×Value)=>p.1 = q.1∧H q.2.1 = some (.tup (p.1.map kV))∧RelV p.2 q.2.2) aI xs∧
   ∃ o es ep,h.get? a = some o∧o.ExactDict∧o.data = .dict es ep∧es.toList = xs.map (entryOfKey (tupleKind (jF P w)))∧(xs.map (·.1)).Nodup
 | .set S n=>h.SetOf (intKind P w) a S n
 | .ins C dx fs=>H dx = some (.own a)∧fs.length≤1000∧dx≠a∧h.get? a = some (PySem.W.instObj C dx)∧
   ∃ mA,h.Ns1 dx mA∧(∀ f,iG (fs.lookup f) (mA f))∧PySem.Within mA (fs.map (·.1))
 | .own _=>∃ o,h.get? a = some o
 | .xd fs=>∃ mA,h.Ns1 a mA∧∀ f,iG (fs.lookup f) (mA f)
 | .tN lo hi=>∃ t u v,h.get? a = some { cls:=.type "range",data:=.fields #[.int lo t,.int hi u,.int 1 v] }
 | .fg o u=>h.get? a = some o∧aS H h a u
 | .oJ ps=>h.get? a = some { cls:=.none,data:=.fields ps }
 | .met f x=>h.get? a = some (PySem.W.methodObj (.ref f) (.ref x))
 | .ext φ=>φ h∧(∃ o,h.get? a = some o)∧∀ h1 h2:Heap,φ h1→(∀ o,h1.get? a = some o→h2.get? a = some o)→φ h2
def dB (H:Hp) (h:Heap):Prop:=∀ a o,H a = some o→aS P w H h a o
end
section
variable {P:Program} {w:World} {H H':Hp} {h h':Heap} {a:Addr} {o:HO}
theorem aS.lt (x:aS P w H h a o):a < h.objs.size:=by
 cases o with
 | lst xs=>obtain ⟨_,_,_,_,e⟩:=x; exact Heap.lt_size e
 | tup xs=>obtain ⟨_,_,_,p⟩:=x; exact p.lt
 | dK aI=>obtain ⟨_,_,_,_,o,_,_,e,_⟩:=x; exact Heap.lt_size e
 | dT aI=>obtain ⟨_,_,_,_,o,_,_,e,_⟩:=x; exact Heap.lt_size e
 | set S n=>obtain ⟨o,_,_,_,e,_⟩:=x; exact Heap.lt_size e
 | ins C dx fs=>obtain ⟨_,_,_,e,_⟩:=x; exact Heap.lt_size e
 | own y=>obtain ⟨_,e⟩:=x; exact Heap.lt_size e
 | xd fs=>obtain ⟨_,⟨_,_,_,e,_⟩,_⟩:=x; exact Heap.lt_size e
 | tN lo hi=>obtain ⟨_,_,_,e⟩:=x; exact Heap.lt_size e
 | fg ob u=>obtain ⟨e,_⟩:=x; exact Heap.lt_size e
 | oJ ps=>exact Heap.lt_size (show h.get? a = some _ from x)
 | met f y=>exact Heap.lt_size (show h.get? a = some _ from x)
 | ext φ=>obtain ⟨_,⟨_,e⟩,_⟩:=x; exact Heap.lt_size e
theorem Paired.se {α β : Type} {F G : α→β→Prop}:∀ {l₁ : List α} {l₂ : List β},Paired F l₁ l₂→(∀ a b,F a b→G a b)→Paired G l₁ l₂
 | _,_,.nil,_=>.nil
 | _,_,.cons r t,f=>.cons (f _ _ r) (Paired.se t f)
theorem aS.dw (x:aS P w H h a o) (k:∀ b u,(b = a∨H b = some (.own a))→h.get? b = some u→h'.get? b = some u)
  (ho:∀ b,H b = some (.own a)→H' b = some (.own a)) (ht:∀ b xs,H b = some (.tup xs)→H' b = some (.tup xs)):aS P w H' h' a o:=by
 induction o with
 | lst xs=>obtain ⟨z,aH,n,r,e⟩:=x; exact ⟨z,aH,n,r,k _ _ (.inl rfl) e⟩
 | tup xs=>obtain ⟨z,aH,r,ob,e,c⟩:=x; exact ⟨z,aH,r,ob,k _ _ (.inl rfl) e,c⟩
 | dK aI=>obtain ⟨z,y,vs,r,ob,es,ep,e,c⟩:=x; exact ⟨z,y,vs,r,ob,es,ep,k _ _ (.inl rfl) e,c⟩
 | dT aI=>
  obtain ⟨z,y,xs,r,ob,es,ep,e,c⟩:=x
  exact ⟨z,y,xs,Paired.se r fun p q z=>⟨z.1,ht _ _ z.2.1,z.2.2⟩,ob,es,ep,k _ _ (.inl rfl) e,c⟩
 | set S n=>obtain ⟨ob,es,ep,t,e,c⟩:=x; exact ⟨ob,es,ep,t,k _ _ (.inl rfl) e,c⟩
 | ins C dx fs=>
  obtain ⟨d,z,ne,e,mA,⟨od,es,ep,e2,c⟩,r⟩:=x
  exact ⟨ho _ d,z,ne,k _ _ (.inl rfl) e,mA,⟨od,es,ep,k _ _ (.inr d) e2,c⟩,r⟩
 | own y=>obtain ⟨ob,e⟩:=x; exact ⟨ob,k _ _ (.inl rfl) e⟩
 | xd fs=>obtain ⟨mA,⟨od,es,ep,e,c⟩,r⟩:=x; exact ⟨mA,⟨od,es,ep,k _ _ (.inl rfl) e,c⟩,r⟩
 | tN lo hi=>obtain ⟨t,u,v,e⟩:=x; exact ⟨t,u,v,k _ _ (.inl rfl) e⟩
 | fg ob u ih=>obtain ⟨e,q⟩:=x; exact ⟨k _ _ (.inl rfl) e,ih q⟩
 | oJ ps=>
  have e:h.get? a = some { cls:=.none,data:=.fields ps }:=x
  show h'.get? a = some { cls:=.none,data:=.fields ps }
  exact k a _ (.inl rfl) e
 | met f y=>
  have e:h.get? a = some (PySem.W.methodObj (.ref f) (.ref y)):=x
  show h'.get? a = some (PySem.W.methodObj (.ref f) (.ref y))
  exact k a _ (.inl rfl) e
 | ext φ=>obtain ⟨p,⟨o,e⟩,st⟩:=x; exact ⟨st _ _ p fun o q=>k _ _ (.inl rfl) q,⟨o,k _ _ (.inl rfl) e⟩,st⟩
theorem dB.lt (x:dB P w H h) (e:H a = some o):a < h.objs.size:=(x a o e).lt
theorem dB.fresh (x:dB P w H h) (e:h.objs.size≤a):H a = none:=by
 cases q:H a with
 | none=>rfl
 | some u=>exact absurd (Nat.lt_of_lt_of_le (x.lt q) e) (Nat.lt_irrefl _)
theorem dB.kept (x:dB P w H h) (k:∀ b u,h.get? b = some u→h'.get? b = some u):dB P w H h':=fun a o e=>
 (x a o e).dw (fun b u _ q=>k b u q) (fun _ q=>q) fun _ _ q=>q
theorem dB.laid (x:dB P w H h) (k:∀ b u,h.get? b = some u→h'.get? b = some u) (hp:h.objs.size≤a) (new:aS P w (upd H a o) h' a o):dB P w (upd H a o) h':=fun b u e=>by
 have hn:=x.fresh hp
 by_cases hb:b = a
 ·subst hb; rw [ar] at e; cases e; exact new
 ·rw [ao hb] at e
  exact (x b u e).dw (fun c v _ q=>k c v q) (fun c q=>by rw [ao (az q hn)]; exact q) fun c xs q=>by rw [ao (az q hn)]; exact q
end
def Rd (H:Hp) (a:Addr) (u:HO):Prop:=H a = some u∨∃ o,H a = some (.fg o u)
theorem Rd.ok {P:Program} {w:World} {H:Hp} {h:Heap} {a:Addr} {u:HO} (r:Rd H a u) (x:dB P w H h):aS P w H h a u:=by
 rcases r with r | ⟨o,r⟩
 ·exact x a u r
 ·obtain ⟨_,q⟩:=x a _ r
  exact q
def uo:Option HO→Prop
 | some (.lst _)=>True
 | some (.dK _)=>True
 | some (.dT _)=>True
 | some (.set _ _)=>True
 | some (.ins _ _ _)=>True
 | some (.ext _)=>True
 | _=>False
section
variable {P:Program} {w:World} {H:Hp} {h h':Heap} {x e:Addr} {o':HO}
theorem dB.write (ok:dB P w H h) (mu:uo (H x)) (he:e = x∨H e = some (.own x)) (k:∀ b u,b≠e→h.get? b = some u→h'.get? b = some u) (qY:∃ u,h'.get? e = some u)
  (new:aS P w (upd H x o') h' x o'):dB P w (upd H x o') h':=fun b u q=>by
 have r6:∀ c y,H c = some (.own y)→c≠x:=fun c y r z=>by subst z; rw [r] at mu; exact mu
 have vc:∀ c xs,H c = some (.tup xs)→c≠x:=fun c xs r z=>by subst z; rw [r] at mu; exact mu
 by_cases hb:b = x
 ·subst hb; rw [ar] at q; cases q; exact new
 ·rw [ao hb] at q
  by_cases qA:b = e
  ·have q':H b = some (.own x):=by
    rcases he with z | z
    ·exact absurd (qA.trans z) hb
    ·rw [qA]; exact z
   rw [q] at q'; cases q'
   obtain ⟨v,hv⟩:=qY
   exact ⟨v,by rw [qA]; exact hv⟩
  ·refine (ok b u q).dw (fun c v hc r=>k c v ?_ r) (fun c r=>by rw [ao (r6 c b r)]; exact r) fun c xs r=>by rw [ao (vc c xs r)]; exact r
   rcases hc with rfl | hc
   ·exact qA
   ·rintro rfl
    rcases he with z | z
    ·exact r6 c b hc z
    ·rw [hc] at z; cases z; exact hb rfl
end
structure Un (fs ex:List Addr) (H H':Hp) (h h':Heap):Prop where
 keep:∀ b o,h.get? b = some o→H b = none→b∉fs→b∉ex→h'.get? b = some o
 slot:∀ b o,h.get? b = some o→H b = none→b∈fs→b∉ex→∃ sl,h'.get? b = some { o with slots:=sl }
 free:∀ b o,h.get? b = some o→H b = none→b∉ex→H' b = none
 there:∀ b o,h.get? b = some o→b∉ex→∃ o',h'.get? b = some o'
 et:∀ b xs,H b = some (.tup xs)→H' b = some (.tup xs)
 d7:∀ b o u,H b = some (.fg o u)→H' b = some (.fg o u)
 eu:∀ b ps,H b = some (.oJ ps)→∃ more,H' b = some (.oJ (ps ++ more))
section
variable {fs sL ex Dv:List Addr} {H H1 H2:Hp} {h h1 h2 h':Heap} {a x e:Addr} {o:HO}
theorem Un.any (u:Un fs ex H H1 h h1) {b:Addr} {ob:Obj} (q:h.get? b = some ob) (n:H b = none) (hx:b∉ex):∃ sl,h1.get? b = some { ob with slots:=sl }:=by
 by_cases hb:b∈fs
 ·exact u.slot b ob q n hb hx
 ·exact ⟨ob.slots,u.keep b ob q n hb hx⟩
theorem Un.kept (k:∀ b u,h.get? b = some u→h'.get? b = some u):Un fs ex H H h h':=
 ⟨fun b ob q _ _ _=>k b ob q,fun b ob q _ _ _=>⟨ob.slots,k b ob q⟩,fun _ _ _ n _=>n,fun b ob q _=>⟨ob,k b ob q⟩,fun _ _ q=>q,fun _ _ _ q=>q,fun _ ps q=>⟨#[],by rw [q]; simp⟩⟩
theorem Un.refl:Un fs ex H H h h:=Un.kept fun _ _ q=>q
theorem Un.laid (k:∀ b u,h.get? b = some u→h'.get? b = some u) (hp:h.objs.size≤a) (hn:H a = none):Un fs ex H (upd H a o) h h' where
 keep:=fun b u q _ _ _=>k b u q
 slot:=fun b u q _ _ _=>⟨u.slots,k b u q⟩
 free:=fun b u q n _=>by rw [ao (Nat.ne_of_lt (Nat.lt_of_lt_of_le (Heap.lt_size q) hp))]; exact n
 there:=fun b u q _=>⟨u,k b u q⟩
 et:=fun b xs q=>by rw [ao (az q hn)]; exact q
 d7:=fun b u xs q=>by rw [ao (az q hn)]; exact q
 eu:=fun b ps q=>⟨#[],by rw [ao (az q hn),q]; simp⟩
theorem Un.write (mu:uo (H x)) (he:e = x∨H e = some (.own x)) (k:∀ b u,b≠e→h.get? b = some u→h'.get? b = some u) (qY:∃ u,h'.get? e = some u):Un fs ex H (upd H x o) h h':=by
 have hx:∀ b,H b = none→b≠x:=fun b n z=>by subst z; rw [n] at mu; exact mu
 have hb:∀ b,H b = none→b≠e:=fun b n z=>by
  subst z
  rcases he with r | r
  ·exact hx b n r
  ·rw [n] at r; cases r
 have hm:∀ b u,H b = some u→¬ uo (some u)→b≠x:=fun b u q nm z=>by subst z; rw [q] at mu; exact nm mu
 refine ⟨fun b u q n _ _=>k b u (hb b n) q,fun b u q n _ _=>⟨u.slots,k b u (hb b n) q⟩,fun b u q n _=>by rw [ao (hx b n)]; exact n,fun b u q _=>?_,
  fun b xs q=>by rw [ao (hm b _ q fun z=>z)]; exact q,fun b u xs q=>by rw [ao (hm b _ q fun z=>z)]; exact q,fun b ps q=>⟨#[],by rw [ao (hm b _ q fun z=>z),q]; simp⟩⟩
 by_cases qA:b = e
 ·subst qA; exact qY
 ·exact ⟨u,k b u qA q⟩
end
def tF (h:Heap) (H:Hp):List Addr:=(List.range h.objs.size).filter fun a=>(H a).isSome
def gI (h:Heap) (H:Hp):Heap:=PySem.W.hideAll h (tF h H)
theorem ke (h:Heap) (H:Hp):(gI h H).objs.size = h.objs.size:=PySem.W.hideAll_size _ _
theorem mE {h:Heap} {H:Hp} {b:Addr} {o:Obj} (e:h.get? b = some o) (n:H b = none):(gI h H).get? b = some o:=
 PySem.W.hideAll_get _ e fun hm=>by
  have q:(H b).isSome = true:=(List.mem_filter.mp hm).2
  rw [n] at q; simp at q
theorem nH {h:Heap} {H:Hp} {b:Addr} {o:Obj} (e:(gI h H).get? b = some o):h.get? b = some o∧H b = none:=by
 have e':h.get? b = some o:=PySem.W.of_hideAll (tF h H) e
 refine ⟨e',?_⟩
 cases q:H b with
 | none=>rfl
 | some x=>
  have hm:b∈tF h H:=List.mem_filter.mpr ⟨List.mem_range.mpr (Heap.lt_size e'),by simp [q]⟩
  have z:(gI h H).get? b = none:=PySem.W.hideAll_none (tF h H) hm
  rw [z] at e; cases e
def oB (g h:Heap) (L:Addr):List (Addr×Obj):=(List.range h.objs.size).filterMap fun a=>if a = L∨(g.get? a).isSome = true then none else (h.get? a).map fun o=>(a,o)
def rest (g h:Heap) (L d:Addr):List (Addr×Obj):=(oB g h L).filter fun p=>decide (p.1≠d)
end L2
namespace L2
open PySem PySem.Spec PyProof.Rows
structure Mod (K:PySem.W.Frag) (mg:Str→Option Value) (base:Heap):Prop where
 qh:K.In base
 glob:base.Ns mainGlobals mg
 blt:∃ mb,base.Ns builtinsNs mb∧∀ x:Str,x≠ "__name__"→mb x = bootBuiltins x
 nolimit:base.NoLimit
structure Cx where
 prog:Program
 w:World
 K:PySem.W.Frag
 mg:Str→Option Value
 base:Heap
 A:Around
 N:List Str
 s₀ : Shared
 H₀ : Hp
 env:Env
 outer:List Env
 stack:List Env
 ex:List Addr
 fn:Str→Bool
 calm:Bool
 pn:List (Addr×Obj)
 xe:Value→Shared→Prop
def dz (l:List Env):List Addr:=l.filterMap (·.frame)
abbrev Cx.fs (X:Cx):List Addr:=dz X.outer
def uk (sc:Scope) (x:Str):Prop:=sc.names.lookup x = some .local∨sc.names.lookup x = some .cell∨sc.names.lookup x = some .free
def Loc (sc:Scope) (x:Str):Prop:=sc.names.lookup x = some .local∨sc.names.lookup x = some .cell
def Look (env:Env) (h:Heap) (m:Str→Option Value) (x:Str) (u:Value):Prop:=
 (env.kindOf x = some .local∧m x = some u)∨((env.kindOf x = some .cell∨env.kindOf x = some .free)∧∃ c,env.cells.lookup x = some c∧h.IsCell c (some u))
structure Cx.Ok (X:Cx):Prop where
 mod:Mod X.K X.mg X.base
 kind:X.env.scope.kind = .function
 glob:X.env.globals = mainGlobals
 blt:X.env.builtins = builtinsNs
 above:X.s₀.heap.objs.size≤X.env.locals
 inj:∀ x y c,X.env.cells.lookup x = some c→X.env.cells.lookup y = some c→x = y
 has:∀ x,(X.env.kindOf x = some .cell∨X.env.kindOf x = some .free)→∃ c,X.env.cells.lookup x = some c
 qZ:∀ x c,X.fn x = true→X.env.cells.lookup x = some c→X.s₀.heap.objs.size≤c
 hd:X.calm = true→X.A.handled = none
 frames:X.A.frames = some X.stack
 kS:X.stack = X.outer∨(X.stack = X.env :: X.outer∧X.env.frame = some X.env.locals)
 wb:∀ b∈X.ex,b≠X.env.locals∧∀ x c,X.env.cells.lookup x = some c→c≠b
 bs:∀ b o,X.base.get? b = some o→X.s₀.heap.get? b = some o∧X.H₀ b = none
 ox:X.base.objs.size≤X.s₀.heap.objs.size
 j6:∀ b o,X.base.get? b = some o→b∉X.ex
 mG:∀ b∈X.ex,b∉X.fs
 dN:X.s₀.heap.FunFrames X.base X.outer
 pj:∀ b∈X.fs,X.H₀ b = none
structure Inv (X:Cx) (pins:List (Addr×Obj)) (σ : List (Option V)) (H:Hp) (s:Shared):Prop where
 ok:X.Ok
 os:s.os = X.s₀.os
 bare:AllBare s.gens
 base:Un X.fs X.ex X.H₀ H X.s₀.heap s.heap
 loc:∃ m,s.heap.Ns X.env.locals m∧∀ (i:Nat) (x:Str) (v:V),X.N[i]? = some x→σ[i]? = some (some v)→uk X.env.scope x→∃ u,RelV v u∧Look X.env s.heap m x u
 cell:∀ x c,X.env.cells.lookup x = some c→∃ v,s.heap.IsCell c v
 free:H X.env.locals = none
 bZ:∀ x c,X.env.cells.lookup x = some c→H c = none
 pin:∀ p∈X.pn ++ pins,s.heap.get? p.1 = some p.2∧H p.1 = none∧p.1≠X.env.locals∧p.1∉X.fs∧∀ v,p.2.data≠.cell v
 bc:dB X.prog X.w H s.heap
 len : σ.length = X.N.length
section
variable {X:Cx} {pins:List (Addr×Obj)} {σ : List (Option V)} {H H':Hp} {s:Shared} {h':Heap}
theorem Cx.Ok.ve (ok:X.Ok) {b:Addr} {o:Obj} (e:X.base.get? b = some o):b∉X.fs:=fun hb=>by
 have:=(ok.dN.mem hb).1
 rw [e] at this; cases this
theorem Inv.bs (I:Inv X pins σ H s):∀ b o,X.base.get? b = some o→s.heap.get? b = some o∧H b = none:=fun b o e=>
 ⟨I.base.keep b o (I.ok.bs b o e).1 (I.ok.bs b o e).2 (I.ok.ve e) (I.ok.j6 b o e),I.base.free b o (I.ok.bs b o e).1 (I.ok.bs b o e).2 (I.ok.j6 b o e)⟩
theorem Inv.bk (I:Inv X pins σ H s):∀ b o,X.base.get? b = some o→s.heap.get? b = some o:=fun b o e=>(I.bs b o e).1
theorem Inv.mod (I:Inv X pins σ H s):Mod X.K X.mg X.base:=I.ok.mod
theorem Inv.dy (I:Inv X pins σ H s):X.K.In s.heap:=I.ok.mod.qh.keeps I.bk
theorem Inv.lt (I:Inv X pins σ H s):X.env.locals < s.heap.objs.size:=let ⟨_,hn,_⟩:=I.loc; hn.lt
theorem Inv.sz (I:Inv X pins σ H s):X.s₀.heap.objs.size≤s.heap.objs.size:=Nat.le_trans I.ok.above (Nat.le_of_lt I.lt)
theorem Inv.vd (I:Inv X pins σ H s) {a:Addr} (h:s.heap.objs.size≤a):a∉X.fs:=fun hb=>by
 obtain ⟨_,o,ho,_⟩:=I.ok.dN.mem hb
 exact absurd (Nat.lt_of_lt_of_le (Heap.lt_size ho) (Nat.le_trans I.sz h)) (Nat.lt_irrefl _)
theorem Inv.om (I:Inv X pins σ H s):∀ x c,X.env.cells.lookup x = some c→c≠X.env.locals:=fun x c e z=>by
 obtain ⟨v,o,ho,hd⟩:=I.cell x c e
 obtain ⟨m,⟨o',es,ep,kd,Bo,_⟩,_⟩:=I.loc
 rw [z,kd] at ho; cases ho; rw [Bo] at hd; cases hd
theorem Inv.dN (I:Inv X pins σ H s):s.heap.FunFrames X.base X.outer:=by
 have all:∀ (l:List Env),(∀ b∈dz l,b∈X.fs)→X.s₀.heap.FunFrames X.base l→s.heap.FunFrames X.base l:=by
  intro l
  induction l with
  | nil=>intro _ _; trivial
  | cons env r ih=>
   intro hs hl
   obtain ⟨hk,⟨L,o,hf,hn,ho,hd⟩,hr⟩:=hl
   have hL:L∈X.fs:=hs L (by unfold dz; rw [List.filterMap_cons,hf]; exact List.mem_cons_self)
   obtain ⟨sl,e⟩:=I.base.slot L o ho (I.ok.pj L hL) hL fun z=>I.ok.mG L z hL
   exact ⟨hk,⟨L,_,hf,hn,e,hd⟩,ih (fun b hb=>hs b (by unfold dz; rw [List.filterMap_cons,hf]; exact List.mem_cons_of_mem _ hb)) hr⟩
 exact all X.outer (fun _ hb=>hb) I.ok.dN
theorem Inv.stack (I:Inv X pins σ H s):s.heap.FunFrames X.base X.stack:=by
 rcases I.ok.kS with e | ⟨e,hf⟩
 ·rw [e]; exact I.dN
 ·rw [e]
  obtain ⟨m,hn,_⟩:=I.loc
  refine .cons (by rw [I.ok.kind]; decide) hf hn ?_ I.dN
  exact Heap.get?_none_of_le (Nat.le_trans I.ok.ox I.ok.above)
theorem Inv.dv (I:Inv X pins σ H s):∀ b∈dz X.stack,b∈X.env.locals :: X.fs:=fun b hb=>by
 rcases I.ok.kS with e | ⟨e,hf⟩
 ·rw [e] at hb; exact List.mem_cons_of_mem _ hb
 ·rw [e] at hb
  unfold dz at hb
  rw [List.filterMap_cons,hf] at hb
  exact hb
theorem Inv.gq (I:Inv X pins σ H s):∀ b∈dz X.stack,H b = none:=fun b hb=>by
 rcases List.mem_cons.mp (I.dv b hb) with e | hb
 ·rw [e]; exact I.free
 ·obtain ⟨_,o,ho,_⟩:=I.ok.dN.mem hb
  exact I.base.free b o ho (I.ok.pj b hb) fun z=>I.ok.mG b z hb
theorem Inv.step {g':Array GenState} {t':Nat} {d':Drawn} {ch:List Addr} (I:Inv X pins σ H s)
  (nh:∀ b∈ch,(b∈X.ex∨X.s₀.heap.objs.size≤b)∧b≠X.env.locals∧(∀ x c,X.env.cells.lookup x = some c→c≠b)∧∀ p∈X.pn ++ pins,p.1≠b)
  (keep:∀ b o,b≠X.env.locals→b∉X.fs→b∉ch→s.heap.get? b = some o→H b = none→h'.get? b = some o)
  (slot:∀ b o,b≠X.env.locals→b∈X.fs→b∉ch→s.heap.get? b = some o→H b = none→∃ sl,h'.get? b = some { o with slots:=sl }) (free:∀ b o,b∉ch→s.heap.get? b = some o→H b = none→H' b = none)
  (there:∀ b o,b∉ch→s.heap.get? b = some o→∃ o',h'.get? b = some o')
  (et:∀ b xs,H b = some (.tup xs)→H' b = some (.tup xs)) (d7:∀ b o u,H b = some (.fg o u)→H' b = some (.fg o u)) (eu:∀ b ps,H b = some (.oJ ps)→∃ more,H' b = some (.oJ (ps ++ more)))
  (ns:∀ m,s.heap.Ns X.env.locals m→h'.Ns X.env.locals m) (bc:dB X.prog X.w H' h') (hg:AllBare g') :
  Inv X pins σ H' { s with heap:=h',gens:=g',drawn:=d',toks:=t' }:=by
 have xB:∀ b o,X.s₀.heap.get? b = some o→b≠X.env.locals:=fun b o e=>Nat.ne_of_lt (Nat.lt_of_lt_of_le (Heap.lt_size e) I.ok.above)
 have tX:∀ b o,X.s₀.heap.get? b = some o→b∉X.ex→b∉ch:=fun b o e hx hb=>by
  rcases (nh b hb).1 with z | z
  ·exact hx z
  ·exact absurd (Nat.lt_of_lt_of_le (Heap.lt_size e) z) (Nat.lt_irrefl _)
 have cellK:∀ x c,X.env.cells.lookup x = some c→∀ v,s.heap.IsCell c v→h'.IsCell c v:=fun x c e v ⟨o,ho,hd⟩=>by
  have sd:c∉ch:=fun z=>(nh c z).2.2.1 x c e rfl
  by_cases hc:c∈X.fs
  ·obtain ⟨sl,q⟩:=slot c o (I.om x c e) hc sd ho (I.bZ x c e)
   exact ⟨_,q,hd⟩
  ·exact ⟨o,keep c o (I.om x c e) hc sd ho (I.bZ x c e),hd⟩
 refine ⟨I.ok,I.os,hg,⟨fun b o e n hb hx=>?_,fun b o e n hb hx=>?_,fun b o e n hx=>?_,fun b o e hx=>?_,fun b xs e=>et b xs (I.base.et b xs e),fun b o xs e=>d7 b o xs (I.base.d7 b o xs e),fun b ps e=>?_⟩,?_,fun x c e=>?_,?_,fun x c e=>?_,fun p hp=>?_,bc,I.len⟩
 ·exact keep b o (xB b o e) hb (tX b o e hx) (I.base.keep b o e n hb hx) (I.base.free b o e n hx)
 ·obtain ⟨sl,e1⟩:=I.base.slot b o e n hb hx
  obtain ⟨uQ,e2⟩:=slot b _ (xB b o e) hb (tX b o e hx) e1 (I.base.free b o e n hx)
  exact ⟨uQ,e2⟩
 ·obtain ⟨o',e1⟩:=I.base.there b o e hx
  exact free b o' (tX b o e hx) e1 (I.base.free b o e n hx)
 ·obtain ⟨o',e1⟩:=I.base.there b o e hx
  exact there b o' (tX b o e hx) e1
 ·obtain ⟨m1,e1⟩:=I.base.eu b ps e
  obtain ⟨m2,e2⟩:=eu b _ e1
  exact ⟨m1 ++ m2,by rw [e2,Array.append_assoc]⟩
 ·obtain ⟨m,hn,hl⟩:=I.loc
  refine ⟨m,ns m hn,fun i x v e1 e2 e3=>?_⟩
  obtain ⟨u,r,l⟩:=hl i x v e1 e2 e3
  refine ⟨u,r,?_⟩
  rcases l with l | ⟨k,c,e,z⟩
  ·exact .inl l
  ·exact .inr ⟨k,c,e,cellK x c e _ z⟩
 ·obtain ⟨v,z⟩:=I.cell x c e
  exact ⟨v,cellK x c e v z⟩
 ·obtain ⟨m,⟨o,_,_,ho,_⟩,_⟩:=I.loc
  exact free _ o (fun z=>(nh _ z).2.1 rfl) ho I.free
 ·obtain ⟨v,o,ho,hd⟩:=I.cell x c e
  exact free c o (fun z=>(nh c z).2.2.1 x c e rfl) ho (I.bZ x c e)
 ·obtain ⟨e,n,ne,nf,d⟩:=I.pin p hp
  have sd:p.1∉ch:=fun z=>(nh p.1 z).2.2.2 p hp rfl
  exact ⟨keep p.1 p.2 ne nf sd e n,free p.1 p.2 sd e n,ne,nf,d⟩
theorem Inv.un {t':Nat} (I:Inv X pins σ H s) (u:Un X.fs [] H H' s.heap h') (bc:dB X.prog X.w H' h'):Inv X pins σ H' { s with heap:=h',toks:=t' }:=by
 obtain ⟨m,⟨o,es,ep,ho,r⟩,_⟩:=id I.loc
 obtain ⟨sl,hL⟩:=u.any ho I.free (by simp)
 exact I.step (g':=s.gens) (d':=s.drawn) (ch:=[]) (fun _ z=>nomatch z) (fun b o _ hb _ e n=>u.keep b o e n hb (by simp)) (fun b o _ hb _ e n=>u.slot b o e n hb (by simp)) (fun b o _ e n=>u.free b o e n (by simp)) (fun b o _ e=>u.there b o e (by simp)) u.et u.d7 u.eu (fun m' hm=>by
  obtain ⟨o',wc,wd,kd,r'⟩:=hm
  rw [ho] at kd; cases kd
  exact ⟨_,wc,wd,hL,r'⟩) bc I.bare
theorem Inv.call {g':Array GenState} {t':Nat} {d':Drawn} {ch:List Addr} (I:Inv X pins σ H s) (u:Un (dz X.stack) ch H H' s.heap h') (bc:dB X.prog X.w H' h') (hg:AllBare g')
  (nh:∀ b∈ch,(b∈X.ex∨X.s₀.heap.objs.size≤b)∧b≠X.env.locals∧(∀ x c,X.env.cells.lookup x = some c→c≠b)∧∀ p∈X.pn ++ pins,p.1≠b) :
  Inv X pins σ H' { s with heap:=h',gens:=g',drawn:=d',toks:=t' }:=by
 obtain ⟨m,⟨o,es,ep,ho,r⟩,_⟩:=id I.loc
 obtain ⟨sl,hL⟩:=u.any ho I.free fun z=>(nh _ z).2.1 rfl
 exact I.step (ch:=ch) nh (fun b o hL hb hc e n=>u.keep b o e n (fun z=>(List.mem_cons.mp (I.dv b z)).elim hL hb) hc) (fun b o _ _ hc e n=>u.any e n hc) (fun b o hc e n=>u.free b o e n hc) (fun b o hc e=>u.there b o e hc) u.et u.d7 u.eu (fun m' hm=>by
  obtain ⟨o',wc,wd,kd,r'⟩:=hm
  rw [ho] at kd; cases kd
  exact ⟨_,wc,wd,hL,r'⟩) bc hg
theorem Inv.turned {t':Nat} {it:Addr} (I:Inv X pins σ H s) (k:∀ b o,b≠it→s.heap.get? b = some o→h'.get? b = some o) (hn:H it = none) (hL:it≠X.env.locals)
  (h1:it∈X.ex∨X.s₀.heap.objs.size≤it) (h2:∀ x c,X.env.cells.lookup x = some c→c≠it) (h3:∀ p∈X.pn ++ pins,p.1≠it):Inv X pins σ H { s with heap:=h',toks:=t' }:=by
 have xy:∀ b u,H b = some u→b≠it:=fun b u e z=>by rw [z,hn] at e; cases e
 refine I.step (g':=s.gens) (d':=s.drawn) (ch:=[it]) (fun b hb=>?_) (fun b o _ _ hc e _=>k b o (fun z=>hc (by simp [z])) e) (fun b o _ _ hc e _=>⟨o.slots,k b o (fun z=>hc (by simp [z])) e⟩) (fun _ _ _ _ n=>n)
  (fun b o hc e=>⟨o,k b o (fun z=>hc (by simp [z])) e⟩) (fun _ _ e=>e) (fun _ _ _ e=>e) (fun b ps e=>⟨#[],by rw [e]; simp⟩) (fun m hm=>?_) (fun b u e=>?_) I.bare
 ·have e:b = it:=by simpa using hb
  subst e
  exact ⟨h1,hL,h2,h3⟩
 ·obtain ⟨o,es,ep,ho,r⟩:=hm
  exact ⟨o,es,ep,k _ o (Ne.symm hL) ho,r⟩
 ·refine (I.bc b u e).dw (fun c v hc q=>k c v ?_ q) (fun _ q=>q) fun _ _ q=>q
  rcases hc with z | z
  ·rw [z]; exact xy b u e
  ·exact xy c _ z
theorem Inv.tok (I:Inv X pins σ H s) (t:Nat):Inv X pins σ H { s with toks:=t }:=I.un (h':=s.heap) (t':=t) Un.refl I.bc
theorem Inv.kept {t':Nat} (I:Inv X pins σ H s) (k:∀ b u,s.heap.get? b = some u→h'.get? b = some u):Inv X pins σ H { s with heap:=h',toks:=t' }:=I.un (Un.kept k) (I.bc.kept k)
theorem Inv.laid {a:Addr} {o:HO} {t':Nat} (I:Inv X pins σ H s) (k:∀ b u,s.heap.get? b = some u→h'.get? b = some u) (hp:s.heap.objs.size≤a) (new:aS X.prog X.w (upd H a o) h' a o) :
  Inv X pins σ (upd H a o) { s with heap:=h',toks:=t' }:=I.un (Un.laid k hp (I.bc.fresh hp)) (I.bc.laid k hp new)
theorem Inv.write {x e:Addr} {o:HO} {t':Nat} (I:Inv X pins σ H s) (mu:uo (H x)) (he:e = x∨H e = some (.own x)) (k:∀ b u,b≠e→s.heap.get? b = some u→h'.get? b = some u) (qY:∃ u,h'.get? e = some u)
  (new:aS X.prog X.w (upd H x o) h' x o):Inv X pins σ (upd H x o) { s with heap:=h',toks:=t' }:=I.un (Un.write mu he k qY) (I.bc.write mu he k qY new)
theorem Inv.gy {o1:List (Addr×Obj)} (I:Inv X pins σ H s) (h:∀ p∈o1,s.heap.get? p.1 = some p.2∧H p.1 = none∧p.1≠X.env.locals∧p.1∉X.fs∧∀ v,p.2.data≠.cell v):Inv X o1 σ H s:=
 ⟨I.ok,I.os,I.bare,I.base,I.loc,I.cell,I.free,I.bZ,fun p hp=>(List.mem_append.mp hp).elim (fun z=>I.pin p (List.mem_append_left _ z)) (h p),I.bc,I.len⟩
theorem e9 {N:List Str} (hN:N.Nodup) {i j:Nat} {x:Str} (a:N[i]? = some x) (b:N[j]? = some x):i = j:=by
 obtain ⟨h1,e1⟩:=List.getElem?_eq_some_iff.mp a
 obtain ⟨h2,e2⟩:=List.getElem?_eq_some_iff.mp b
 exact (List.getElem_inj hN).mp (e1.trans e2.symm)
theorem fP {M:Model} {A:Around} {E:Value→Shared→Prop} {i:Nat} {x:Str} {v:V} {u:Value} {Q:Unit→Shared→Prop} (I:Inv X pins σ H s) (hN:X.N.Nodup) (hi:X.N[i]? = some x) (hx:Loc X.env.scope x) (r:RelV v u)
  (h:∀ s',Inv X pins (σ.set i (some v)) H s'→(∃ a,Heap.SameBut a s.heap s'.heap∧(a = X.env.locals∨X.env.cells.lookup x = some a))→Q () s') (hf:X.fn x = true∨X.env.scope.names.lookup x = some .local:=by first | exact .inl rfl | exact .inr rfl | assumption):wpAny M A (storeName X.env x u) Q E s:=by
 obtain ⟨m,hn,hl⟩:=id I.loc
 have qz:(X.env.scope.kind == .class || (X.env.scope.kind == .module && X.env.locals != X.env.globals)) = false:=by rw [I.ok.kind]; rfl
 have hiσ : i < σ.length:=by rw [I.len]; exact (List.getElem?_eq_some_iff.mp hi).1
 have om:=I.om
 have tracked:∀ {a:Addr} {h':Heap},(∃ o,s.heap.get? a = some o∧H a = none)→Heap.SameBut a s.heap h'→dB X.prog X.w H h':=fun {a h'} ha hs b ob e=>by
  obtain ⟨_,_,jI⟩:=ha
  refine (I.bc b ob e).dw (fun c w' hc q=>(hs.2 c ?_).trans q) (fun _ q=>q) fun _ _ q=>q
  rintro rfl
  rcases hc with rfl | hc
  ·rw [jI] at e; cases e
  ·rw [jI] at hc; cases hc
 rcases hx with hk | hk
 ·refine wpAny_storeName_local hk hn (fun h' qW hs=>?_) qz
  obtain ⟨oL,_,_,xO,_⟩:=id hn
  refine h _ ⟨I.ok,I.os,I.bare,⟨fun b o e n hb hx=>?_,fun b o e n hb hx=>?_,I.base.free,fun b o e hx=>?_,I.base.et,I.base.d7,I.base.eu⟩,⟨_,qW,fun j y v' e1 e2 e3=>?_⟩,fun y c e=>?_,I.free,I.bZ,fun p hp=>?_,tracked ⟨oL,xO,I.free⟩ hs,by simpa using I.len⟩ ⟨_,hs,.inl rfl⟩
  ·exact (hs.2 b (Nat.ne_of_lt (Nat.lt_of_lt_of_le (Heap.lt_size e) I.ok.above))).trans (I.base.keep b o e n hb hx)
  ·obtain ⟨sl,e1⟩:=I.base.slot b o e n hb hx
   exact ⟨sl,(hs.2 b (Nat.ne_of_lt (Nat.lt_of_lt_of_le (Heap.lt_size e) I.ok.above))).trans e1⟩
  ·obtain ⟨o',e1⟩:=I.base.there b o e hx
   exact ⟨o',(hs.2 b (Nat.ne_of_lt (Nat.lt_of_lt_of_le (Heap.lt_size e) I.ok.above))).trans e1⟩
  ·by_cases hj:j = i
   ·subst hj
    rw [hi] at e1; cases e1
    rw [List.getElem?_set_self hiσ] at e2
    cases e2
    exact ⟨u,r,.inl ⟨hk,by simp⟩⟩
   ·rw [List.getElem?_set_ne (Ne.symm hj)] at e2
    obtain ⟨u',r',q⟩:=hl j y v' e1 e2 e3
    refine ⟨u',r',?_⟩
    rcases q with ⟨k,e⟩ | ⟨k,c,e,z⟩
    ·refine .inl ⟨k,?_⟩
     have:y≠x:=fun e=>hj (e9 hN e1 (e▸hi))
     simp [this,e]
    ·exact .inr ⟨k,c,e,z.sameBut hs (om y c e)⟩
  ·obtain ⟨w',z⟩:=I.cell y c e
   exact ⟨w',z.sameBut hs (om y c e)⟩
  ·obtain ⟨e,n,ne,nf,d⟩:=I.pin p hp
   exact ⟨(hs.2 p.1 ne).trans e,n,ne,nf,d⟩
 ·have vJ:X.fn x = true:=by
   rcases hf with z | z
   ·exact z
   ·rw [z] at hk; cases hk
  obtain ⟨c,hc⟩:=I.ok.has x (.inl hk)
  obtain ⟨w',z⟩:=I.cell x c hc
  refine wpAny_storeName_cell I.ok.kind hk hc z (fun h' uh hs=>?_)
  obtain ⟨oc,xN,vB⟩:=id z
  refine h { s with heap:=h' } ⟨I.ok,I.os,I.bare,⟨fun b o e n hb hx=>?_,fun b o e n hb hx=>?_,I.base.free,fun b o e hx=>?_,I.base.et,I.base.d7,I.base.eu⟩,⟨m,hn.sameBut hs (Ne.symm (om x c hc)),fun j y v' e1 e2 e3=>?_⟩,fun y c' e=>?_,I.free,I.bZ,fun p hp=>?_,tracked ⟨oc,xN,I.bZ x c hc⟩ hs,by simpa using I.len⟩ ⟨c,hs,.inr hc⟩
  ·exact (hs.2 b (Nat.ne_of_lt (Nat.lt_of_lt_of_le (Heap.lt_size e) (I.ok.qZ x c vJ hc)))).trans (I.base.keep b o e n hb hx)
  ·obtain ⟨sl,e1⟩:=I.base.slot b o e n hb hx
   exact ⟨sl,(hs.2 b (Nat.ne_of_lt (Nat.lt_of_lt_of_le (Heap.lt_size e) (I.ok.qZ x c vJ hc)))).trans e1⟩
  ·obtain ⟨o',e1⟩:=I.base.there b o e hx
   exact ⟨o',(hs.2 b (Nat.ne_of_lt (Nat.lt_of_lt_of_le (Heap.lt_size e) (I.ok.qZ x c vJ hc)))).trans e1⟩
  ·by_cases hj:j = i
   ·subst hj
    rw [hi] at e1; cases e1
    rw [List.getElem?_set_self hiσ] at e2
    cases e2
    exact ⟨u,r,.inr ⟨.inl hk,c,hc,uh⟩⟩
   ·rw [List.getElem?_set_ne (Ne.symm hj)] at e2
    obtain ⟨u',r',q⟩:=hl j y v' e1 e2 e3
    refine ⟨u',r',?_⟩
    rcases q with q | ⟨k,c',e,z'⟩
    ·exact .inl q
    ·refine .inr ⟨k,c',e,z'.sameBut hs ?_⟩
     rintro rfl
     exact hj (e9 hN e1 (I.ok.inj _ _ _ e hc▸hi))
  ·by_cases xZ:c' = c
   ·subst xZ; exact ⟨_,uh⟩
   ·obtain ⟨w2,z2⟩:=I.cell y c' e
    exact ⟨w2,z2.sameBut hs xZ⟩
  ·obtain ⟨e,n,ne,nf,d⟩:=I.pin p hp
   refine ⟨(hs.2 p.1 ?_).trans e,n,ne,nf,d⟩
   intro q
   rw [q,xN] at e
   have q':oc = p.2:=Option.some.inj e
   exact d w' (by rw [← q']; exact vB)
theorem eQ {M:Model} {A:Around} {E:Value→Shared→Prop} {i:Nat} {x:Str} {v:V} {u:Value} {Q:Unit→Shared→Prop} (I:Inv X pins σ H s) (hN:X.N.Nodup) (hi:X.N[i]? = some x) (hx:Loc X.env.scope x) (r:RelV v u)
  (h:∀ s',Inv X pins (σ.set i (some v)) H s'→Q () s') (hf:X.fn x = true∨X.env.scope.names.lookup x = some .local:=by first | exact .inl rfl | exact .inr rfl | assumption):wpAny M A (storeName X.env x u) Q E s:=
 fP I hN hi hx r (fun s' I' _=>h s' I') hf
theorem Inv.px {s':Shared} {ch:List Addr} (I:Inv X pins σ H s) (ho:s'.os = s.os) (u:Un (dz X.stack) ch H H' s.heap s'.heap) (bc:dB X.prog X.w H' s'.heap) (hg:AllBare s'.gens)
  (nh:∀ b∈ch,(b∈X.ex∨X.s₀.heap.objs.size≤b)∧b≠X.env.locals∧(∀ x c,X.env.cells.lookup x = some c→c≠b)∧∀ p∈X.pn ++ pins,p.1≠b):Inv X pins σ H' s':=by
 obtain ⟨h',g',d',t',o'⟩:=s'
 have e:o' = s.os:=ho
 subst e
 exact I.call (g':=g') (t':=t') (d':=d') u bc hg nh
end
abbrev XK:=Value→Option Addr→Hp→Prop
abbrev St:=List (Option V)
abbrev VK:=V→Hp→Prop
abbrev TE:=St→Hp→VK→Prop
abbrev TT:=St→Hp→(Bool→Hp→Prop)→Prop
abbrev TA:=St→Hp→(List V→Hp→Prop)→Prop
structure Ends where
 nx:St→Hp→Prop
 rt:VK
 bk:St→Hp→Prop:=fun _ _=>False
 ct:St→Hp→Prop:=fun _ _=>False
abbrev TS:=Ends→St→Hp→Prop
def EP (X:Cx) (pins:List (Addr×Obj)) (σ : St) (Q:VK) (u:Value) (s':Shared):Prop:=∃ v H',Inv X pins σ H' s'∧RelV v u∧Q v H'
def TP (X:Cx) (pins:List (Addr×Obj)) (σ : St) (Q:Bool→Hp→Prop) (b:Bool) (s':Shared):Prop:=∃ H',Inv X pins σ H' s'∧Q b H'
def AP (X:Cx) (pins:List (Addr×Obj)) (σ : St) (Q:List V→Hp→Prop) (us:List Value) (s':Shared):Prop:=∃ vs H',Inv X pins σ H' s'∧Vals vs us∧Q vs H'
def SP (X:Cx) (pins:List (Addr×Obj)) (D:Ends) (f:Flow) (s':Shared):Prop:=
 match f with
 | .next=>∃ σ' H',Inv X pins σ' H' s'∧D.nx σ' H'
 | .brk=>∃ σ' H',Inv X pins σ' H' s'∧D.bk σ' H'
 | .cont=>∃ σ' H',Inv X pins σ' H' s'∧D.ct σ' H'
 | .ret u=>∃ v σ' H',Inv X pins σ' H' s'∧RelV v u∧D.rt v H'
def PE (X:Cx) (e:Expr) (t:TE):Prop:=
 ∀ (pins:List (Addr×Obj)) (s:Shared) (σ : St) (H:Hp) (Q:VK),Inv X pins σ H s→t σ H Q→wpAny (model X.prog X.w) X.A (eval e X.env) (EP X pins σ Q) X.xe s
def PT (X:Cx) (e:Expr) (t:TT):Prop:=
 ∀ (pins:List (Addr×Obj)) (s:Shared) (σ : St) (H:Hp) (Q:Bool→Hp→Prop),Inv X pins σ H s→t σ H Q→wpAny (model X.prog X.w) X.A (isTrue e X.env (eval e X.env)) (TP X pins σ Q) X.xe s
def PW (X:Cx) (e:Expr) (t:TT):Prop:=
 ∀ (whole:Sem Value) (pins:List (Addr×Obj)) (s:Shared) (σ : St) (H:Hp) (Q:Bool→Hp→Prop),Inv X pins σ H s→t σ H Q→wpAny (model X.prog X.w) X.A (isTrue e X.env whole) (TP X pins σ Q) X.xe s
theorem PW.pt {X:Cx} {e:Expr} {t:TT} (h:PW X e t):PT X e t:=h _
def PA (X:Cx) (es:List Expr) (t:TA):Prop:=
 ∀ (pos:Pos) (pins:List (Addr×Obj)) (s:Shared) (σ : St) (H:Hp) (Q:List V→Hp→Prop),Inv X pins σ H s→t σ H Q→wpAny (model X.prog X.w) X.A (spliced (backTo pos (starEach es X.env))) (AP X pins σ Q) X.xe s
def PS (X:Cx) (st:Stmt) (t:TS):Prop:=
 ∀ (pins:List (Addr×Obj)) (s:Shared) (σ : St) (H:Hp) (D:Ends),Inv X pins σ H s→t D σ H→wpAny (model X.prog X.w) X.A (exec st X.env) (SP X pins D) X.xe s
def iH (X:Cx) (st:List Stmt) (t:TS):Prop:=
 ∀ (pins:List (Addr×Obj)) (s:Shared) (σ : St) (H:Hp) (D:Ends),Inv X pins σ H s→t D σ H→wpAny (model X.prog X.w) X.A (execs st X.env) (SP X pins D) X.xe s
theorem bX {α : Type} {t:Sem α} {Q Q' : α→Shared→Prop} {M:Model} {A:Around} {E:Value→Shared→Prop} {s:Shared} (h:wpAny M A t Q E s) (hQ:∀ a s,Q a s→Q' a s):wpAny M A t Q' E s:=wpAny_mono h hQ fun _ _ x=>x
end L2
namespace L2
open PySem PySem.Spec PyProof.Rows
section
variable {X:Cx}
theorem bin {a b:Expr} {ta tb:TE} (ha:PE X a ta) (hb:PE X b tb) {pins:List (Addr×Obj)} {s:Shared} {σ : St} {H:Hp} {R:V→V→Hp→Prop} (I:Inv X pins σ H s) (h:ta σ H fun x H1=>tb σ H1 fun y H2=>R x y H2)
  {α : Type} {Q : α→Shared→Prop} {f:Value→Value→Sem α}
  (hf:∀ v u s2 x y H2,Inv X pins σ H2 s2→RelV x v→RelV y u→R x y H2→wpAny (model X.prog X.w) X.A (f v u) Q X.xe s2) :
  wpAny (model X.prog X.w) X.A (eval a X.env) (fun v s₁=>wpAny (model X.prog X.w) X.A (eval b X.env) (fun u s₂=>wpAny (model X.prog X.w) X.A (f v u) Q X.xe s₂) X.xe s₁) X.xe s:=by
 refine bX (ha pins s σ H _ I h) fun v s1 ⟨x,H1,I1,r1,q1⟩=>?_
 refine bX (hb pins s1 σ H1 _ I1 q1) fun u s2 ⟨y,H2,I2,r2,q2⟩=>?_
 exact hf v u s2 x y H2 I2 r1 r2 q2
def jU (i:Nat):TE:=fun σ H Q=>∃ v,σ[i]? = some (some v)∧Q v H
def tC (v:V):TE:=fun _ H Q=>Q v H
theorem pY {i:Nat} {x:Str} {pos:Pos} (hN:X.N[i]? = some x) (hv:uk X.env.scope x) (hd:(x == ("__debug__" : Str)) = false:=by decide) (iq:(x == ("__classdict__" : Str)) = false:=by decide):PE X (.Name x pos) (jU i):=by
 intro pins s σ H Q I h
 obtain ⟨v,e,h⟩:=h
 obtain ⟨m,hn,hl⟩:=I.loc
 obtain ⟨u,r,l⟩:=hl i x v hN e hv
 have fin:EP X pins σ Q u s:=⟨v,H,I,r,h⟩
 rcases l with ⟨hk,hm⟩ | ⟨hk,c,hc,pf⟩
 ·exact wpAny_Name (wpAny_loadName_local I.ok.kind hk hn hm fin) hd
 ·rcases hk with hk | hk
  ·exact wpAny_Name (wpAny_loadName_cell I.ok.kind hk hc pf fin) hd
  ·exact wpAny_Name (wpAny_loadName_free I.ok.kind hk hc pf fin iq) hd
theorem af {i j pos}:PE X (.Constant (.int i) j pos) (tC (.int i)):=fun _ _ _ H _ I h=>wpAny_Constant_int ⟨.int i,H,I.tok _,⟨_,rfl⟩,h⟩
theorem eZ {b j pos}:PE X (.Constant (.bool b) j pos) (tC (.bl b)):=fun _ _ _ H _ I h=>Constant_bool ⟨.bl b,H,I,rfl,h⟩
theorem lU {j pos}:PE X (.Constant .none j pos) (tC .bp):=fun _ _ _ H _ I h=>Constant_none ⟨.bp,H,I,rfl,h⟩
theorem pZ {x j pos}:PE X (.Constant (.str x) j pos) (tC (.str x)):=fun _ _ _ H _ I h=>Calls.Constant_str ⟨.str x,H,I.tok _,⟨_,rfl⟩,h⟩
def Gl (X:Cx) (x:Str):Prop:=X.env.kindOf x = some .globalImplicit
theorem cB {E:Value→Shared→Prop} {pins:List (Addr×Obj)} {s:Shared} {σ : St} {H:Hp} {x:Str} {u:Value} {pos:Pos} {Q:Value→Shared→Prop} (I:Inv X pins σ H s) (hg:Gl X x) (hm:X.mg x = some u) (h:Q u s)
  (hd:(x == ("__debug__" : Str)) = false:=by decide):wpAny (model X.prog X.w) X.A (eval (.Name x pos) X.env) Q E s:=
 Calls.Name_function_global I.ok.kind hg (Calls.loadGlobal_global (by rw [I.ok.glob]; exact I.mod.glob.keeps I.bk) hm h) hd
theorem gE {E:Value→Shared→Prop} {pins:List (Addr×Obj)} {s:Shared} {σ : St} {H:Hp} {x:Str} {u:Value} {pos:Pos} {Q:Value→Shared→Prop} (I:Inv X pins σ H s) (hg:Gl X x) (hm:X.mg x = none) (hv:bootBuiltins x = some u) (h:Q u s)
  (hn:x≠ "__name__":=by decide) (hd:(x == ("__debug__" : Str)) = false:=by decide):wpAny (model X.prog X.w) X.A (eval (.Name x pos) X.env) Q E s:=by
 obtain ⟨mb,h1,h2⟩:=I.mod.blt
 exact Calls.Name_function_global I.ok.kind hg (Calls.loadGlobal_builtin (by rw [I.ok.glob]; exact I.mod.glob.keeps I.bk) hm (by rw [I.ok.blt]; exact h1.keeps I.bk) ((h2 x hn).trans hv) h) hd
theorem bj {x:Str} {v:V} {u:Value} {pos:Pos} (hg:Gl X x) (hm:X.mg x = some u) (r:RelV v u) (hd:(x == ("__debug__" : Str)) = false:=by decide):PE X (.Name x pos) (tC v):=
 fun _ _ _ H _ I h=>cB I hg hm ⟨v,H,I,r,h⟩ hd
theorem gA {x:Str} {v:V} {u:Value} {pos:Pos} (hg:Gl X x) (hm:X.mg x = none) (hv:bootBuiltins x = some u) (r:RelV v u) (hn:x≠ "__name__":=by decide) (hd:(x == ("__debug__" : Str)) = false:=by decide):PE X (.Name x pos) (tC v):=
 fun _ _ _ H _ I h=>gE I hg hm hv ⟨v,H,I,r,h⟩ hn hd
def tK (ta tb:TE) (k:Int→Int→Hp→Prop):St→Hp→Prop:=fun σ H=>ta σ H fun x H1=>tb σ H1 fun y H2=>∃ i j,x = .int i∧y = .int j∧k i j H2
def yZ (ta tb:TE):TE:=fun σ H Q=>tK ta tb (fun i j H2=>Q (.int (i + j)) H2) σ H
def yM (ta tb:TE):TE:=fun σ H Q=>tK ta tb (fun i j H2=>Q (.int (i - j)) H2) σ H
def yR (ta tb:TE):TE:=fun σ H Q=>tK ta tb (fun i j H2=>(-(2 ^ 64) < i∧i < 2 ^ 64)∧Q (.int (i * j)) H2) σ H
variable {a b:Expr} {ta tb:TE} {pos:Pos}
def PC (X:Cx) (op:CmpOp) (a b:Expr) (t:TE):Prop:=
 ∀ (pins:List (Addr×Obj)) (s:Shared) (σ : St) (H:Hp) (Q:VK),Inv X pins σ H s→t σ H Q→
  wpAny (model X.prog X.w) X.A (eval a X.env) (fun v s₁=>wpAny (model X.prog X.w) X.A (eval b X.env) (fun u s₂=>wpAny (model X.prog X.w) X.A (compareOp op v u) (EP X pins σ Q) X.xe s₂) X.xe s₁) X.xe s
theorem ic (b:Expr) {op:CmpOp} (h:op≠.In) (h2:op≠.NotIn):behindInMarks op b = false:=by
 have e1:(op == CmpOp.In) = false:=by cases op <;> first | rfl | exact absurd rfl h
 have e2:(op == CmpOp.NotIn) = false:=by cases op <;> first | rfl | exact absurd rfl h2
 cases b <;> simp [behindInMarks,e1,e2]
def jV (p:Int→Int→Bool) (ta tb:TE):TE:=fun σ H Q=>tK ta tb (fun i j H2=>Q (.bl (p i j)) H2) σ H
abbrev CS:TE→TE→TE:=jV fun i j=>decide (i < j)
abbrev CT:TE→TE→TE:=jV fun i j=>decide (i≤j)
abbrev CV:TE→TE→TE:=jV fun i j=>decide (j < i)
abbrev CW:TE→TE→TE:=jV fun i j=>decide (j≤i)
abbrev yU:TE→TE→TE:=jV fun i j=>decide (i = j)
abbrev yQ:TE→TE→TE:=jV fun i j=>!decide (i = j)
def rB (ta:TE):TE:=fun σ H Q=>ta σ H fun x H1=>Q (.bl (decide (x = .bp))) H1
def w4 (ta:TE):TE:=fun σ H Q=>ta σ H fun x H1=>Q (.bl (!decide (x = .bp))) H1
theorem RelV.ma {x:V} {v:Value} (r:RelV x v):(v == Value.none) = decide (x = .bp):=by
 cases x with
 | bp=>cases r; rfl
 | bl _=>cases r; rfl
 | int _=>obtain ⟨t,rfl⟩:=r; rfl
 | str _=>obtain ⟨t,rfl⟩:=r; rfl
 | iM _=>obtain ⟨t,rfl⟩:=r; rfl
 | kJ _=>obtain ⟨t,rfl⟩:=r; rfl
 | ref _=>cases r; rfl
 | ty _=>cases r; rfl
theorem iZ {j pos'} (ha:PE X a ta):PC X .Is a (.Constant .none j pos') (rB ta):=by
 intro pins s σ H Q I h
 refine bX (ha pins s σ H _ I h) fun v s1 ⟨x,H1,I1,r1,q1⟩=>?_
 exact Constant_none (is_none_gen ⟨.bl _,H1,I1,by rw [r1.ma]; rfl,q1⟩)
def tB (t:TE):TT:=fun σ H Q=>t σ H fun x H1=>∃ c,x = .bl c∧Q c H1
theorem lV {op:CmpOp} {t:TE} (h:PC X op a b t) (h1:behindInMarks op b = false:=by first | exact ic _ (by decide) (by decide) | rfl):PE X (.Compare a [op] [b] pos) t:=fun pins s σ H Q I hw=>wpAny_Compare1 (h pins s σ H Q I hw) h1
theorem pX {op:CmpOp} {t:TE} (h:PC X op a b t) (h1:behindInMarks op b = false:=by first | exact ic _ (by decide) (by decide) | rfl):PT X (.Compare a [op] [b] pos) (tB t):=by
 intro pins s σ H Q I hw
 refine wpAny_isTrue_Compare1 (bX (h pins s σ H _ I hw) fun v s1 h1=>bX h1 fun u s2 h2=>bX h2 fun c s3 ⟨x,H1,I1,r1,q1⟩=>?_) h1
 obtain ⟨d,rfl,q⟩:=q1
 cases r1
 exact wpAny_truthy_bool ⟨H1,I1,q⟩
theorem eW {e:Expr} {t:TE} (h:PE X e t) (he:∀ whole,isTrue e X.env whole = (do let v ← whole; standAt e.pos; holding [v] (truthy v)):=by intro _; rfl):PT X e (tB t):=by
 intro pins s σ H Q I hw
 refine isTrue_plain (bX (h pins s σ H _ I hw) fun v s1 ⟨x,H1,I1,r1,q1⟩=>?_) (he _)
 obtain ⟨d,rfl,q⟩:=q1
 cases r1
 exact wpAny_truthy_bool ⟨H1,I1,q⟩
variable {tA tJ:TT} {rest:List Expr}
def rD (t u:TT):TT:=fun σ H Q=>t σ H fun c H1=>if c = true then u σ H1 Q else Q false H1
def wZ (t u:TT):TT:=fun σ H Q=>t σ H fun c H1=>if c = true then Q true H1 else u σ H1 Q
def rk (t:TT):TT:=fun σ H Q=>t σ H fun c H1=>Q (!c) H1
theorem pw_and1 (ha:PT X a tA):PW X (.BoolOp .And [a] pos) tA:=by
 intro wh pins s σ H Q I h
 refine isTrue_and (bX (ha pins s σ H Q I h) fun c s1 e=>?_)
 cases c with
 | true=>exact isTrue_and_nil e
 | false=>exact e
theorem pw_or1 (ha:PT X a tA):PW X (.BoolOp .Or [a] pos) tA:=by
 intro wh pins s σ H Q I h
 refine isTrue_or (bX (ha pins s σ H Q I h) fun c s1 e=>?_)
 cases c with
 | false=>exact isTrue_or_nil e
 | true=>exact e
theorem pw_and (ha:PT X a tA) (hb:PW X (.BoolOp .And (b :: rest) pos) tJ):PW X (.BoolOp .And (a :: b :: rest) pos) (rD tA tJ):=by
 intro wh pins s σ H Q I h
 refine isTrue_and (bX (ha pins s σ H _ I h) fun c s1 ⟨H1,I1,q1⟩=>?_)
 cases c with
 | true=>exact hb wh pins s1 σ H1 Q I1 q1
 | false=>exact ⟨H1,I1,q1⟩
theorem pw_or (ha:PT X a tA) (hb:PW X (.BoolOp .Or (b :: rest) pos) tJ):PW X (.BoolOp .Or (a :: b :: rest) pos) (wZ tA tJ):=by
 intro wh pins s σ H Q I h
 refine isTrue_or (bX (ha pins s σ H _ I h) fun c s1 ⟨H1,I1,q1⟩=>?_)
 cases c with
 | true=>exact ⟨H1,I1,q1⟩
 | false=>exact hb wh pins s1 σ H1 Q I1 q1
theorem lQ (ha:PT X a tA):PT X (.UnaryOp .Not a pos) (rk tA):=by
 intro pins s σ H Q I h
 exact isTrue_not (ha pins s σ H (fun c H1=>Q (!c) H1) I h)
def oP (ta tb:TE):TE:=fun σ H Q=>ta σ H fun x H1=>∃ c,x = .bl c∧if c = true then tb σ H1 Q else Q (.bl false) H1
def yP (ta tb:TE):TE:=fun σ H Q=>ta σ H fun x H1=>∃ c,x = .bl c∧if c = true then Q (.bl true) H1 else tb σ H1 Q
def oM (ta:TE):TE:=fun σ H Q=>ta σ H fun x H1=>∃ c,x = .bl c∧Q (.bl (!c)) H1
theorem iY {op} {t:TE} (h:PE X a t):PE X (.BoolOp op [a] pos) t:=fun pins s σ H Q I hw=>BoolOp_one (h pins s σ H Q I hw)
theorem gB (ha:PE X a ta) (hb:PE X (.BoolOp .And (b :: rest) pos) tb):PE X (.BoolOp .And (a :: b :: rest) pos) (oP ta tb):=by
 intro pins s σ H Q I h
 refine BoolOp_and (bX (ha pins s σ H _ I h) fun v s1 ⟨x,H1,I1,r1,q1⟩=>?_)
 obtain ⟨c,rfl,q1⟩:=q1
 cases r1
 refine wpAny_truthy_bool ?_
 cases c with
 | true=>exact hb pins s1 σ H1 Q I1 q1
 | false=>exact ⟨.bl false,H1,I1,rfl,q1⟩
theorem p0 (ha:PE X a ta):PE X (.UnaryOp .Not a pos) (oM ta):=by
 intro pins s σ H Q I h
 refine UnaryOp_ (bX (ha pins s σ H _ I h) fun v s1 ⟨x,H1,I1,r1,q1⟩=>?_)
 obtain ⟨c,rfl,q1⟩:=q1
 cases r1
 exact not_of (wpAny_truthy_bool ⟨.bl (!c),H1,I1,rfl,q1⟩)
def CU (t:TT) (ta tb:TE):TE:=fun σ H Q=>t σ H fun c H1=>if c = true then ta σ H1 Q else tb σ H1 Q
end
end L2
namespace L2
open PySem PySem.Spec PyProof.Rows
def aD (K:PySem.W.Frag) (H:Hp) (a:Addr) (xs:List V):Prop:=
 Rd H a (.lst xs)∨
  ∃ (o:Obj) (aH:Array Value) (n:Nat),K.lookup a = some o∧o.cls = .type "list"∧o.dict = none∧o.data = .seq aH n∧aH.size≤sizeLine∧Vals xs aH.toList
def SqT (K:PySem.W.Frag) (H:Hp) (a:Addr) (xs:List V):Prop:=
 Rd H a (.tup xs)∨
  ∃ (o:Obj) (aH:Array Value) (n:Nat),K.lookup a = some o∧o.cls = .type "tuple"∧o.data = .seq aH n∧aH.size≤sizeLine∧Vals xs aH.toList
def wz:Value→Option V
 | .none=>some .bp
 | .bool b=>some (.bl b)
 | .int i _=>some (.int i)
 | .str x _=>some (.str x)
 | .bytes b _=>some (.iM b)
 | .float b _=>some (.kJ b)
 | .ref a=>some (.ref a)
 | .type n=>some (.ty n)
 | _=>none
theorem RelV.abs {x:V} {u:Value} (r:RelV x u):wz u = some x:=by
 cases x with
 | bp=>cases r; rfl
 | bl _=>cases r; rfl
 | int _=>obtain ⟨t,rfl⟩:=r; rfl
 | str _=>obtain ⟨t,rfl⟩:=r; rfl
 | iM _=>obtain ⟨t,rfl⟩:=r; rfl
 | kJ _=>obtain ⟨t,rfl⟩:=r; rfl
 | ref _=>cases r; rfl
 | ty _=>cases r; rfl
theorem RelV.inj {x y:V} {u:Value} (r:RelV x u) (q:RelV y u):x = y:=Option.some.inj (r.abs.symm.trans q.abs)
theorem Vals.inj:∀ {xs ys:List V} {us:List Value},Vals xs us→Vals ys us→xs = ys
 | _,_,_,.nil,.nil=>rfl
 | _,_,_,.cons r t,.cons r' t'=>by rw [r.inj r',Vals.inj t t']
section
variable {X:Cx} {pins:List (Addr×Obj)} {σ : St} {H:Hp} {s:Shared} {a:Addr} {xs ys:List V}
theorem aD.of {K:PySem.W.Frag} (h:H a = some (.lst xs)):aD K H a xs:=.inl (.inl h)
theorem Inv.list (I:Inv X pins σ H s) (h:aD X.K H a xs):∃ aH:List Value,Vals xs aH∧PlainL s.heap a aH.toArray∧xs.length≤sizeLine:=by
 rcases h with h | ⟨o,aH,n,hk,hc,hd,hs,hz,r⟩
 ·obtain ⟨z,aH,n,r,e⟩:=h.ok I.bc
  exact ⟨aH,r,⟨_,n,e,rfl,rfl,rfl⟩,z⟩
 ·refine ⟨aH.toList,r,⟨o,n,I.dy a o hk,hc,hd,by simpa using hs⟩,?_⟩
  have e:=r.length
  simp only [Array.length_toList] at e
  omega
theorem Inv.tuple (I:Inv X pins σ H s) (h:SqT X.K H a xs):∃ aH:List Value,Vals xs aH∧IsTup s.heap a aH.toArray∧xs.length≤sizeLine:=by
 rcases h with h | ⟨o,aH,n,hk,hc,hs,hz,r⟩
 ·obtain ⟨z,aH,r,p⟩:=h.ok I.bc
  exact ⟨aH,r,p,z⟩
 ·refine ⟨aH.toList,r,⟨o,I.dy a o hk,hc,n,by simpa using hs⟩,?_⟩
  have e:=r.length
  simp only [Array.length_toList] at e
  omega
theorem Inv.mf (I:Inv X pins σ H s) (h:aD X.K H a xs) (h':aD X.K H a ys):xs = ys:=by
 obtain ⟨aH,r,⟨o,n,e,_,_,d⟩,_⟩:=I.list h
 obtain ⟨its',r',⟨o',n',e',_,_,d'⟩,_⟩:=I.list h'
 rw [e] at e'; cases e'
 rw [d] at d'
 injection d' with d1 _
 have:aH = its':=by simpa using congrArg Array.toList d1
 subst this
 exact r.inj r'
end
abbrev Cx.eP (X:Cx) (E:Value→Shared→Prop):Cx:={ X with xe:=E }
abbrev Cx.lZ (X:Cx):Cx:=X.eP fun _ _=>False
theorem Cx.Ok.eP {X:Cx} (ok:X.Ok) (E:Value→Shared→Prop):(X.eP E).Ok:=
 ⟨ok.mod,ok.kind,ok.glob,ok.blt,ok.above,ok.inj,ok.has,ok.qZ,ok.hd,ok.frames,ok.kS,ok.wb,ok.bs,ok.ox,ok.j6,ok.mG,ok.dN,ok.pj⟩
theorem Cx.Ok.cx {X:Cx} {E:Value→Shared→Prop} (ok:(X.eP E).Ok):X.Ok:=
 ⟨ok.mod,ok.kind,ok.glob,ok.blt,ok.above,ok.inj,ok.has,ok.qZ,ok.hd,ok.frames,ok.kS,ok.wb,ok.bs,ok.ox,ok.j6,ok.mG,ok.dN,ok.pj⟩
section
variable {X:Cx} {pins:List (Addr×Obj)} {σ : St} {H:Hp} {s:Shared} {E:Value→Shared→Prop}
theorem Inv.eP (I:Inv X pins σ H s) (E:Value→Shared→Prop):Inv (X.eP E) pins σ H s:=⟨I.ok.eP E,I.os,I.bare,I.base,I.loc,I.cell,I.free,I.bZ,I.pin,I.bc,I.len⟩
theorem Inv.cx (I:Inv (X.eP E) pins σ H s):Inv X pins σ H s:=⟨I.ok.cx,I.os,I.bare,I.base,I.loc,I.cell,I.free,I.bZ,I.pin,I.bc,I.len⟩
theorem SP.cx {D:Ends} {f:Flow} {s':Shared} (h:SP (X.eP E) pins D f s'):SP X pins D f s':=by
 cases f with
 | next=>obtain ⟨σ',H',I,q⟩:=h; exact ⟨σ',H',I.cx,q⟩
 | brk=>obtain ⟨σ',H',I,q⟩:=h; exact ⟨σ',H',I.cx,q⟩
 | cont=>obtain ⟨σ',H',I,q⟩:=h; exact ⟨σ',H',I.cx,q⟩
 | ret u=>obtain ⟨v,σ',H',I,r,q⟩:=h; exact ⟨v,σ',H',I.cx,r,q⟩
theorem iH.lZ {st:List Stmt} {t:TS} (h:iH X.lZ st t):iH X st t:=fun pins s σ H D I hw=>
 wpAny_mono (h pins s σ H D (I.eP _) hw) (fun _ _ q=>q.cx) fun _ _ z=>False.elim z
end
section
variable {X:Cx} {st:Stmt} {rest:List Stmt} {t u:TS} {e:Expr} {te:TE} {pos:Pos}
def oN:TS:=fun D σ H=>D.nx σ H
def pG (t u:TS):TS:=fun D σ H=>t { D with nx:=u D } σ H
theorem aB:iH X [] oN:=fun _ _ σ H _ I h=>wpAny_execs_nil ⟨σ,H,I,h⟩
theorem ah (h1:PS X st t) (h2:iH X rest u):iH X (st :: rest) (pG t u):=by
 intro pins s σ H D I h
 refine wpAny_execs_cons (bX (h1 pins s σ H { D with nx:=u D } I h) fun f s1 q=>?_)
 cases f with
 | next=>
  obtain ⟨σ',H',I',q⟩:=q
  exact h2 pins s1 σ' H' D I' q
 | ret v=>exact q
 | brk=>exact q
 | cont=>exact q
theorem aj (h1:PS X st t):iH X [st] t:=by
 intro pins s σ H D I h
 refine wpAny_execs_cons (bX (h1 pins s σ H D I h) fun f s1 q=>?_)
 cases f with
 | next=>exact wpAny_execs_nil q
 | ret v=>exact q
 | brk=>exact q
 | cont=>exact q
def uM:TS:=fun D σ H=>D.bk σ H
def xf:TS:=fun D σ H=>D.ct σ H
theorem Inv.quiet {pins:List (Addr×Obj)} {σ : St} {H:Hp} {s:Shared} (I:Inv X pins σ H s):interactive X.env = false:=by simp [interactive,I.ok.kind]
def oO (te:TE):TS:=fun D σ H=>te σ H fun _ H1=>D.nx σ H1
theorem bQ (he:PE X e te) (hs:swapsWith e none pos.line X.env = pure false:=by rfl):PS X (.Expr e pos) (oO te):=by
 intro pins s σ H D I h
 exact wpAny_Expr_any (bX (he pins s σ H _ I h) fun v s1 ⟨x,H1,I1,r1,q1⟩=>⟨σ,H1,I1,q1⟩) I.quiet hs
def ri (te:TE):TS:=fun D σ H=>te σ H D.rt
theorem aY (he:PE X e te):PS X (.Return (some e) pos) (ri te):=by
 intro pins s σ H D I h
 exact wpAny_Return_some (bX (he pins s σ H _ I h) fun v s1 ⟨x,H1,I1,r1,q1⟩=>⟨x,σ,H1,I1,r1,q1⟩)
def wX:TS:=fun D _ H=>D.rt .bp H
def pI (c:TT) (t u:TS):TS:=fun D σ H=>c σ H fun b H1=>if b = true then t D σ H1 else u D σ H1
theorem bC {c:Expr} {a b:List Stmt} {tc:TT} (hc:PT X c tc) (ha:iH X a t) (hb:iH X b u):PS X (.If c a b pos) (pI tc t u):=by
 intro pins s σ H D I h
 refine wpAny_If (bX (hc pins s σ H _ I h) fun d s1 ⟨H1,I1,q1⟩=>?_)
 cases d with
 | true=>exact ha pins s1 σ H1 D I1 q1
 | false=>exact hb pins s1 σ H1 D I1 q1
def uB:TS:=fun _ _ _=>False
end
abbrev TG:=V→St→Hp→(St→Hp→Prop)→Prop
abbrev sY:=List V→St→Hp→(St→Hp→Prop)→Prop
def PG (X:Cx) (target:Expr) (t:TG):Prop:=
 ∀ (pins:List (Addr×Obj)) (s:Shared) (σ : St) (H:Hp) (v:V) (u:Value) (Q:St→Hp→Prop),Inv X pins σ H s→RelV v u→t v σ H Q→
  wpAny (model X.prog X.w) X.A (assign target X.env u) (fun _ s'=>∃ σ' H',Inv X pins σ' H' s'∧Q σ' H') X.xe s
def DM (X:Cx) (ts:List Expr) (t:sY):Prop:=
 ∀ (pins:List (Addr×Obj)) (s:Shared) (σ : St) (H:Hp) (vs:List V) (us:List Value) (Q:St→Hp→Prop),Inv X pins σ H s→Vals vs us→t vs σ H Q→
  wpAny (model X.prog X.w) X.A (assignInOrder ((assignEach ts X.env).map (·.2)) us) (fun _ s'=>∃ σ' H',Inv X pins σ' H' s'∧Q σ' H') X.xe s
abbrev qQ:=V→V→V→Hp→(Hp→Prop)→Prop
def Co (X:Cx) (t:qQ):Prop:=
 ∀ (pins:List (Addr×Obj)) (s:Shared) (σ : St) (H:Hp) (o i v:V) (ov iv u:Value) (Q:Hp→Prop),Inv X pins σ H s→RelV o ov→RelV i iv→RelV v u→t o i v H Q→
  wpAny (model X.prog X.w) X.A (setItem ov iv u) (fun _ s'=>∃ H',Inv X pins σ H' s'∧Q H') X.xe s
abbrev um:=V→V→Hp→VK→Prop
def DL (X:Cx) (op:Operator) (t:um):Prop:=
 ∀ (pins:List (Addr×Obj)) (s:Shared) (σ : St) (H:Hp) (x y:V) (v u:Value) (Q:VK),Inv X pins σ H s→RelV x v→RelV y u→t x y H Q→
  wpAny (model X.prog X.w) X.A (inplaceOp op v u) (EP X pins σ Q) X.xe s
section
variable {X:Cx} {pos:Pos}
def fY (i:Nat):TG:=fun v σ H Q=>Q (σ.set i (some v)) H
theorem bR {i:Nat} {x:Str} (hN:X.N.Nodup) (hi:X.N[i]? = some x) (hx:Loc X.env.scope x) (hf:X.fn x = true∨X.env.scope.names.lookup x = some .local:=by first | exact .inl rfl | exact .inr rfl | assumption):PG X (.Name x pos) (fY i):=by
 intro pins s σ H v u Q I r h
 exact wpAny_assign_Name (eQ I hN hi hx r (fun s' I'=>⟨_,H,I',h⟩) hf)
def By:sY:=fun vs σ H Q=>vs = []∧Q σ H
def x5 (t:TG) (u:sY):sY:=fun vs σ H Q=>∃ v r,vs = v :: r∧t v σ H fun σ' H'=>u r σ' H' Q
def Bw (K:PySem.W.Frag) (n:Nat) (t:sY):TG:=fun v σ H Q=>∃ a xs,v = .ref a∧SqT K H a xs∧xs.length = n∧t xs σ H Q
def Bx (to ti:TE) (t:qQ):TG:=fun v σ H Q=>to σ H fun o H1=>ti σ H1 fun i H2=>t o i v H2 fun H3=>Q σ H3
def pJ (te:TE) (g:TG):TS:=fun D σ H=>te σ H fun x H1=>g x σ H1 D.nx
theorem aX {i:Nat} {x:Str} {e:Expr} {te:TE} {pos':Pos} (hN:X.N.Nodup) (hi:X.N[i]? = some x) (hx:Loc X.env.scope x) (he:PE X e te) (hs:swapsWith e (some (.Name x pos')) pos.line X.env = pure false:=by rfl) (hf:X.fn x = true∨X.env.scope.names.lookup x = some .local:=by first | exact .inl rfl | exact .inr rfl | assumption) :
  PS X (.Assign [.Name x pos'] e pos) (pJ te (fY i)):=by
 intro pins s σ H D I h
 refine wpAny_Assign_Name (bX (he pins s σ H _ I h) fun v s1 ⟨y,H1,I1,r1,q1⟩=>?_) hs
 exact eQ I1 hN hi hx r1 (fun s2 I2=>⟨_,H1,I2,q1⟩) hf
def yO (i j:Nat) (ta:TA):TS:=fun D σ H=>ta σ H fun vs H1=>∃ v w,vs = [v,w]∧D.nx ((σ.set i (some v)).set j (some w)) H1
def yY (i:Nat) (te:TE) (ti:um):TS:=fun D σ H=>∃ x,σ[i]? = some (some x)∧te σ H fun y H1=>ti x y H1 fun z H2=>D.nx (σ.set i (some z)) H2
def xh (to ti te:TE) (uy:V→V→Hp→VK→Prop) (yJ:um) (uv:qQ):TS:=fun D σ H=>to σ H fun o H1=>ti σ H1 fun i H2=>uy o i H2 fun x H3=>te σ H3 fun y H4=>yJ x y H4 fun z H5=>uv o i z H5 fun H6=>D.nx σ H6
def Cp (X:Cx) (t:V→V→Hp→VK→Prop):Prop:=
 ∀ (pins:List (Addr×Obj)) (s:Shared) (σ : St) (H:Hp) (o i:V) (ov iv:Value) (Q:VK),Inv X pins σ H s→RelV o ov→RelV i iv→t o i H Q→
  wpAny (model X.prog X.w) X.A (getItem ov iv) (EP X pins σ Q) X.xe s
def Dh (f:Int→Int→Int):um:=fun x y H Q=>∃ i j,x = .int i∧y = .int j∧Q (.int (f i j)) H
end
section
variable {X:Cx} {pos:Pos}
def uz (c:TT) (tb:TS):TS:=fun D σ H=>∃ W:Nat→St→Hp→Prop,(∃ m,W m σ H)∧∀ m σ H,W m σ H→
 c σ H fun b H1=>if b = true then ∃ N:St→Hp→Prop,(∀ σ' H',N σ' H'→∃ m',m' < m∧W m' σ' H')∧tb { D with nx:=N,ct:=N,bk:=D.nx } σ H1 else D.nx σ H1
end
structure It where
 go:Nat→Hp→Prop
 nv:Nat→Hp→V→Hp→Prop
 stop:Nat→Hp→Prop
def iL (X:Cx) (pins:List (Addr×Obj)) (H:Hp) (b:Addr):Prop:=
 H b = none∧b≠X.env.locals∧b∉X.fs∧(b∈X.ex∨X.s₀.heap.objs.size≤b)∧(∀ x c,X.env.cells.lookup x = some c→c≠b)∧∀ p∈X.pn ++ pins,p.1≠b
theorem Inv.sN {X:Cx} {pins:List (Addr×Obj)} {σ : St} {H H':Hp} {s:Shared} {b:Addr} (I:Inv X pins σ H s) (hb:s.heap.objs.size≤b) (hn:H' b = none):iL X pins H' b:=by
 refine ⟨hn,Nat.ne_of_gt (Nat.lt_of_lt_of_le I.lt hb),I.vd hb,.inr (Nat.le_trans I.sz hb),fun x c e z=>?_,fun p hp z=>?_⟩
 ·obtain ⟨v,q⟩:=I.cell x c e
  exact absurd (Nat.lt_of_lt_of_le q.lt (by rw [z]; exact hb)) (Nat.lt_irrefl _)
 ·exact absurd (Nat.lt_of_lt_of_le (Heap.lt_size (I.pin p hp).1) (by rw [z]; exact hb)) (Nat.lt_irrefl _)
structure Turn (P:Program) (w:World) (K:PySem.W.Frag) (tg:Expr) (J:It) (fp:List Addr) (it:Addr) (tn:Nat→Heap→Prop):Prop where
 mem:it∈fp
 obj:∀ i h,tn i h→∀ b∈fp,∃ o,h.get? b = some o∧∀ v,o.data≠.cell v
 keep:∀ i h h',tn i h→(∀ b∈fp,∀ o,h.get? b = some o→h'.get? b = some o)→tn i h'
 item:∀ (X:Cx),X.prog = P→X.w = w→X.K = K→X.calm = true→∀ (i:Nat) (pins:List (Addr×Obj)) (s:Shared) (σ : St) (H:Hp) (E:Value→Shared→Prop),Inv X pins σ H s→(∀ b∈fp,iL X pins H b)→tn i s.heap→J.go i H→
  wpAny (model P w) X.A (pyNext (.ref it)) (fun r s1=>∃ u,r = some u∧
   wpAny (model P w) X.A (letOwnedTupleGo tg (.ref it) u) (fun _ s2=>∃ x H',Inv X pins σ H' s2∧RelV x u∧J.nv i H x H'∧tn (i + 1) s2.heap∧∀ b∈fp,H' b = none) E s1) E s
 done:∀ (X:Cx),X.prog = P→X.w = w→X.K = K→X.calm = true→∀ (i:Nat) (pins:List (Addr×Obj)) (s:Shared) (σ : St) (H:Hp) (E:Value→Shared→Prop),Inv X pins σ H s→(∀ b∈fp,iL X pins H b)→tn i s.heap→J.stop i H→
  wpAny (model P w) X.A (pyNext (.ref it)) (fun r s1=>r = none∧Inv X pins σ H s1) E s
 self:∀ (A:Around) (i:Nat) (s:Shared) (Q:Value→Shared→Prop) (E:Value→Shared→Prop),tn i s.heap→Q (.ref it) s→wpAny (model P w) A (pyIter (.ref it)) Q E s
abbrev TI:=St→Hp→(It→Hp→Prop)→Prop
def yr (X:Cx) (pins:List (Addr×Obj)) (σ : St) (tg:Expr) (R:It→Hp→Prop) (vp:Value) (s2:Shared):Prop:=
 ∃ (it:Addr) (fp:List Addr) (tn:Nat→Heap→Prop) (J:It) (H':Hp),vp = .ref it∧Inv X pins σ H' s2∧Turn X.prog X.w X.K tg J fp it tn∧tn 0 s2.heap∧(∀ b∈fp,iL X pins H' b)∧R J H'
def PI (X:Cx) (tg iter:Expr) (wi:TI):Prop:=
 ∀ (pins:List (Addr×Obj)) (s:Shared) (σ : St) (H:Hp) (R:It→Hp→Prop),Inv X pins σ H s→wi σ H R→
  wpAny (model X.prog X.w) X.A (eval iter X.env) (fun v s1=>wpAny (model X.prog X.w) X.A (pyIter v) (yr X pins σ tg R) X.xe s1) X.xe s
theorem ph {M:Model} {A:Around} {E:Value→Shared→Prop} {s:Shared} {tg:Expr} {it:Addr} {u:Value} {o:Obj} {n:String} {vs:Array Value} {Q:Unit→Shared→Prop} (ho:s.heap.get? it = some o) (hc:o.cls = .type n) (hd:o.data = .fields vs)
  (hn:["enumerate", "zip", "dict_itemiterator", "dict_reverseitemiterator", "odict_iterator", "itertools.zip_longest", "itertools.pairwise"].contains n = false) (hQ:Q () s):wpAny M A (letOwnedTupleGo tg (.ref it) u) Q E s:=by
 unfold letOwnedTupleGo
 cases tg <;> first
  | exact wpAny_pure hQ
  | (cases u <;> first
    | exact wpAny_pure hQ
    | (
       refine wpAny_bind (wpAny_load ho ?_)
       rw [hc,hd]
       show wpAny M A (if (["enumerate", "zip", "dict_itemiterator", "dict_reverseitemiterator", "odict_iterator", "itertools.zip_longest", "itertools.pairwise"].contains n && vs[0]? == some (rawInt _)) = true then _ else _) Q E s
       rw [if_neg (by intro h; rw [hn,Bool.false_and] at h; cases h)]
       exact wpAny_pure hQ))
def pD (K:PySem.W.Frag) (a:Addr):It:=
 ⟨fun i H=>∃ xs x,aD K H a xs∧xs[i]? = some x,fun i H x H'=>H' = H∧∀ xs,aD K H a xs→xs[i]? = some x,fun i H=>∃ xs,aD K H a xs∧xs.length≤i⟩
def Cw (K:PySem.W.Frag) (a:Addr):It:=
 ⟨fun i H=>∃ xs x,SqT K H a xs∧xs[i]? = some x,fun i H x H'=>H' = H∧∀ xs,SqT K H a xs→xs[i]? = some x,fun i H=>∃ xs,SqT K H a xs∧xs.length≤i⟩
def nr (lo:Int) (n:Nat):It:=⟨fun i _=>i < n,fun i H x H'=>H' = H∧x = .int (lo + i),fun i _=>n≤i⟩
theorem jT {P:Program} {w:World} {K:PySem.W.Frag} {tg:Expr} (a it:Addr):Turn P w K tg (pD K a) [it] it (fun i h=>h.IsListIter it a i) where
 mem:=by simp
 obj:=fun i h st b hb=>by
  have e:b = it:=by simpa using hb
  subst e
  obtain ⟨o,e,c,d⟩:=st
  exact ⟨o,e,fun v z=>by rw [d] at z; cases z⟩
 keep:=fun i h h' st k=>st.at fun o e=>k it (by simp) o e
 item:=by
  intro X hP hw hK hc i pins s σ H E I hf st hg
  subst hP hw hK
  obtain ⟨xs,x,hq,hx⟩:=hg
  obtain ⟨aH,rv,p,hz⟩:=I.list hq
  obtain ⟨u,hu,ru⟩:=rv.get hx
  obtain ⟨f0,f1,f2,f3,f4,f5⟩:=hf it (by simp)
  refine wpAny_pyNext_list_item st p.isList (x:=u) (by simpa using hu) fun h' rG sb=>?_
  have I1:Inv X pins σ H { s with heap:=h' }:=I.turned (t':=s.toks) (fun b o hb e=>(sb.2 b hb).trans e) f0 f1 f3 f4 f5
  obtain ⟨o,e,c,d⟩:=id rG
  exact ⟨u,rfl,ph (s:={ s with heap:=h' }) e c d (by decide) ⟨x,H,I1,ru,⟨rfl,fun ys hy=>by rw [I.mf hy hq]; exact hx⟩,rG,fun b hb=>(hf b hb).1⟩⟩
 done:=by
  intro X hP hw hK hc i pins s σ H E I hf st hg
  subst hP hw hK
  obtain ⟨xs,hq,hx⟩:=hg
  obtain ⟨aH,rv,p,hz⟩:=I.list hq
  obtain ⟨f0,f1,f2,f3,f4,f5⟩:=hf it (by simp)
  have hl:=rv.length
  exact wpAny_pyNext_list_end (I.ok.hd hc) st p.isList (by simp; omega) fun h' eb=>⟨rfl,I.turned (t':=s.toks) (fun b o hb e=>eb b o hb e) f0 f1 f3 f4 f5⟩
 self:=fun _ _ _ _ _ st h=>wpAny_pyIter_listiter st h
theorem iO {P:Program} {w:World} {K:PySem.W.Frag} {tg:Expr} (it:Addr) (lo:Int) (n:Nat):Turn P w K tg (nr lo n) [it] it (fun i h=>IsRangeIter h it (lo + (i:Nat) * 1) ((n:Int) - (i:Nat)) 1) where
 mem:=by simp
 obj:=fun i h st b hb=>by
  have e:b = it:=by simpa using hb
  subst e
  exact ⟨_,st,fun v z=>by
   have z':Data.fields _ = Data.cell v:=z
   cases z'⟩
 keep:=fun i h h' st k=>k it (by simp) _ st
 item:=by
  intro X hP hw hK hc i pins s σ H E I hf st hg
  subst hP hw hK
  obtain ⟨f0,f1,f2,f3,f4,f5⟩:=hf it (by simp)
  have W:=Walks.range (prog:=X.prog) (w:=X.w) (I.ok.hd hc) it lo 1 n
  refine W.item i s _ _ hg st fun v h' tk hv rG kk=>?_
  obtain ⟨t,rfl⟩:=hv
  have I1:Inv X pins σ H { s with heap:=h',toks:=tk }:=I.turned (fun b o hb e=>kk b o (by simpa using hb) e) f0 f1 f3 f4 f5
  refine ⟨_,rfl,ph (s:={ s with heap:=h',toks:=tk }) (n:= "range_iterator") rG rfl rfl (by decide) ⟨.int (lo + i),H,I1,⟨t,?_⟩,⟨rfl,rfl⟩,rG,fun b hb=>(hf b hb).1⟩⟩
  rw [Int.mul_one]
 done:=by
  intro X hP hw hK hc i pins s σ H E I hf st hg
  subst hP hw hK
  obtain ⟨f0,f1,f2,f3,f4,f5⟩:=hf it (by simp)
  exact wpAny_pyNext_range_end (I.ok.hd hc) st (by have:n≤i:=hg; omega) fun h' eb=>⟨rfl,I.turned (t':=s.toks) (fun b o hb e=>eb b o hb e) f0 f1 f3 f4 f5⟩
 self:=fun _ _ _ _ _ st h=>wpAny_pyIter_rangeiter st h
end L2
namespace L2
open PySem PySem.Spec PyProof.Rows
section
variable {X:Cx} {tg:Expr}
def mC (K:PySem.W.Frag) (tl:TE):TI:=fun σ H R=>tl σ H fun x H1=>∃ a,x = .ref a∧(∃ xs,aD K H1 a xs)∧R (pD K a) H1
def AU (K:PySem.W.Frag) (tl:TE):TI:=fun σ H R=>tl σ H fun x H1=>∃ a,x = .ref a∧(∃ xs,SqT K H1 a xs)∧R (Cw K a) H1
theorem gz {l:Expr} {tl:TE} (hl:PE X l tl):PI X tg l (mC X.K tl):=by
 intro pins s σ H R I h
 refine bX (hl pins s σ H _ I h) fun v s1 ⟨x,H1,I1,r1,q1⟩=>?_
 obtain ⟨a,e,⟨xs,hq⟩,q⟩:=q1
 subst e
 cases r1
 obtain ⟨aH,rv,p,hz⟩:=I1.list hq
 refine wpAny_pyIter_list p.isList ?_
 refine ⟨s1.heap.objs.size,[s1.heap.objs.size],_,_,H1,rfl,I1.kept (t':=s1.toks) fun b o e=>Heap.get?_push_of_some _ e,jT a _,⟨_,Heap.get?_push_size _ rfl,rfl,rfl⟩,fun b hb=>?_,q⟩
 have e:b = s1.heap.objs.size:=by simpa using hb
 subst e
 exact I1.sN (Nat.le_refl _) (I1.bc.fresh (Nat.le_refl _))
theorem lg {pins:List (Addr×Obj)} {σ : St} {H:Hp} {s:Shared} {R:It→Hp→Prop} {E:Value→Shared→Prop} {lo hi:Int} {t u v:Tok} {tk:Nat} (I:Inv X pins σ H s) (h1 : -(2 ^ 62)≤lo) (h2:lo < 2 ^ 62) (h3 : -(2 ^ 62)≤hi) (h4:hi < 2 ^ 62)
  (q:R (nr lo (hi - lo).toNat) H):wpAny (model X.prog X.w) X.A (pyIter (.ref s.heap.objs.size)) (yr X pins σ tg R) E { s with heap:=s.heap.push { cls:=.type "range",data:=.fields #[.int lo t,.int hi u,.int 1 v] },toks:=tk }:=by
 refine wpAny_pyIter_range (IsRange.new ..) (small_one h1 h2 h3 h4) ?_
 have I1:Inv X pins σ H { s with heap:=s.heap.push { cls:=.type "range",data:=.fields #[.int lo t,.int hi u,.int 1 v] },toks:=tk }:=I.kept fun b o e=>Heap.get?_push_of_some _ e
 refine ⟨(s.heap.push { cls:=.type "range",data:=.fields #[.int lo t,.int hi u,.int 1 v] }).objs.size,[(s.heap.push { cls:=.type "range",data:=.fields #[.int lo t,.int hi u,.int 1 v] }).objs.size],_,_,H,rfl,
  I1.kept (t':=tk) fun b o e=>Heap.get?_push_of_some _ e,iO _ lo (hi - lo).toNat,?_,fun b hb=>?_,q⟩
 ·have e1:lo + ((0:Nat):Int) * 1 = lo:=by simp
  have e2:(((hi - lo).toNat:Nat):Int) - ((0:Nat):Int) = Builtin.Range.rangeSize lo hi 1:=by rw [rangeSize_one]; split <;> omega
  show IsRangeIter _ _ (lo + ((0:Nat):Int) * 1) ((((hi - lo).toNat:Nat):Int) - ((0:Nat):Int)) 1
  rw [e1,e2]
  exact Heap.get?_push_size _ rfl
 ·have e:b = (s.heap.push { cls:=.type "range",data:=.fields #[.int lo t,.int hi u,.int 1 v] }).objs.size:=by simpa using hb
  subst e
  exact I1.sN (Nat.le_refl _) (I1.bc.fresh (Nat.le_refl _))
def sr (ta:TA):TI:=fun σ H R=>ta σ H fun vs H1=>∃ j:Int,vs = [.int j]∧-(2 ^ 62)≤j∧j < 2 ^ 62∧R (nr 0 j.toNat) H1
def xG (ta:TA):TI:=fun σ H R=>ta σ H fun vs H1=>∃ i j:Int,vs = [.int i,.int j]∧(-(2 ^ 62)≤i∧i < 2 ^ 62∧-(2 ^ 62)≤j∧j < 2 ^ 62)∧R (nr i (j - i).toNat) H1
theorem bN {a:Expr} {ta:TA} {p pos:Pos} (hg:Gl X "range") (hm:X.mg "range" = none) (ha:PA X [a] ta) (hs:starEach [a] X.env = [(false,eval a X.env)]:=by rfl):PI X tg (.Call (.Name "range" p) [a] [] pos) (sr ta):=by
 intro pins s σ H R I h
 refine Call_ (gE I hg hm boot_range (PyProof.Rows.callWith_type1 (bX (ha pos pins s σ H _ I h) fun us s1 ⟨vs,H1,I1,r1,q1⟩=>?_) hs rfl))
 obtain ⟨j,e,q1,q2,q⟩:=q1
 subst e
 cases r1 with
 | cons r rr=>
  cases rr
  obtain ⟨t,rfl⟩:=r
  exact call_range_1 (lg I1 (by omega) (by omega) q1 q2 (by simpa using q))
def rC (wi:TI) (g:TG) (tb:TS):TS:=fun D σ H=>wi σ H fun J H1=>∃ W:Nat→Nat→St→Hp→Prop,(∃ m,W 0 m σ H1)∧∀ i m σ H,W i m σ H→
 (J.stop i H∧D.nx σ H)∨(J.go i H∧∃ N:St→Hp→Prop,(∀ σ' H',N σ' H'→∃ m',m' < m∧W (i + 1) m' σ' H')∧∀ x H',J.nv i H x H'→g x σ H' fun σ2 H2=>tb { D with nx:=N,ct:=N,bk:=D.nx } σ2 H2)
def eX (fp:List Addr) (h:Heap):List (Addr×Obj):=fp.filterMap fun b=>(h.get? b).map fun o=>(b,o)
theorem cA {fp:List Addr} {h:Heap} {b:Addr} {o:Obj} (hb:b∈fp) (e:h.get? b = some o):(b,o)∈eX fp h:=List.mem_filterMap.mpr ⟨b,hb,by rw [e]; rfl⟩
theorem j5 {fp:List Addr} {h:Heap} {p:Addr×Obj} (hp:p∈eX fp h):p.1∈fp∧h.get? p.1 = some p.2:=by
 obtain ⟨b,hb,e⟩:=List.mem_filterMap.mp hp
 cases q:h.get? b with
 | none=>rw [q] at e; cases e
 | some o=>
  rw [q] at e
  have e':(b,o) = p:=Option.some.inj e
  subst e'
  exact ⟨hb,q⟩
theorem Inv.pinned {pins:List (Addr×Obj)} {σ : St} {H:Hp} {s:Shared} {fp:List Addr} (I:Inv X pins σ H s) (hf:∀ b∈fp,iL X pins H b) (ho:∀ b∈fp,∃ o,s.heap.get? b = some o∧∀ v,o.data≠.cell v):Inv X (pins ++ eX fp s.heap) σ H s:=
 I.gy fun p hp=>(List.mem_append.mp hp).elim (fun z=>I.pin p (List.mem_append_right _ z)) fun z=>by
  obtain ⟨hb,e⟩:=j5 z
  obtain ⟨f0,f1,f2,_⟩:=hf p.1 hb
  obtain ⟨o,e',d⟩:=ho p.1 hb
  rw [e] at e'; cases e'
  exact ⟨e,f0,f1,f2,d⟩
theorem Inv.dC {pins pl:List (Addr×Obj)} {σ : St} {H:Hp} {s:Shared} (I:Inv X (pins ++ pl) σ H s):Inv X pins σ H s:=I.gy fun p hp=>I.pin p (List.mem_append_right _ (List.mem_append_left _ hp))
theorem cN {iter:Expr} {body:List Stmt} {wi:TI} {g:TG} {tb:TS} {pos:Pos} (hp:PassesOwn (model X.prog X.w) X.A X.env X.xe) (hc:X.calm = true) (hi:PI X tg iter wi) (hg:PG X tg g) (hb:iH X body tb)
  (hs:∀ x,foldedSetIterable iter X.env x = pure x:=by intro _; rfl):PS X (.For tg iter body [] pos) (rC wi g tb):=by
 intro pins s σ H D I h
 refine wpAny_For (bX (hi pins s σ H _ I h) fun v s1 h1=>bX h1 fun vp s2 h2=>?_) hs
 obtain ⟨it,fp,tn,J,H2,e,I2,T,y9,f2,W,⟨m0,w0⟩,turn⟩:=h2
 subst e
 -- uu stays true of kM iterator's objects through kM loop
 have pK:∀ {H':Hp},(∀ b∈fp,H' b = none)→∀ b∈fp,iL X pins H' b:=fun hn b hb=>⟨hn b hb,(f2 b hb).2⟩
 refine codeAny_forLoop_any (fun n s'=>∃ i σ' H',Inv X pins σ' H' s'∧tn i s'.heap∧(∀ b∈fp,H' b = none)∧W i n σ' H') ?_ m0 ⟨0,σ,H2,I2,y9,fun b hb=>(f2 b hb).1,w0⟩
 rintro n s3 ⟨i,σ3,H3,I3,xi,x8,w3⟩
 rcases turn i n σ3 H3 w3 with ⟨stop,qn⟩ | ⟨go,N,hN,step⟩
 ·refine wpAny_passesOwn hp (bX (T.done X rfl rfl rfl hc i pins s3 σ3 H3 X.xe I3 (pK x8) xi stop) fun r s4 ⟨hr,I4⟩=>?_)
  subst hr
  exact wpAny_execs_nil ⟨σ3,H3,I4,qn⟩
 ·refine wpAny_passesOwn hp (bX (T.item X rfl rfl rfl hc i pins s3 σ3 H3 X.xe I3 (pK x8) xi go) fun r s4 ⟨u,hr,h4⟩=>?_)
  subst hr
  refine wpAny_passesOwn hp (bX h4 fun _ s5 ⟨x,H5,I5,r5,y5,uN,BD⟩=>?_)
  have CF:=I5.pinned (pK BD) (T.obj _ _ uN)
  refine wpAny_passesOwn hp (bX (hg _ s5 σ3 H5 x u _ CF r5 (step x H5 y5)) fun _ s6 ⟨σ6,H6,I6,q6⟩=>?_)
  refine wpAny_passesOwn hp (bX (hb _ s6 σ6 H6 _ I6 q6) fun f s7 q7=>?_)
  have again:∀ {σ7:St} {H7:Hp},Inv X (pins ++ eX fp s5.heap) σ7 H7 s7→N σ7 H7→∃ m,m < n∧∃ i σ' H',Inv X pins σ' H' s7∧tn i s7.heap∧(∀ b∈fp,H' b = none)∧W i m σ' H':=fun {σ7 H7} I7 n7=>by
   obtain ⟨m',hm,w7⟩:=hN σ7 H7 n7
   refine ⟨m',hm,i + 1,σ7,H7,I7.dC,T.keep _ _ _ uN fun b hb o e=>(I7.pin (b,o) (List.mem_append_right _ (List.mem_append_right _ (cA hb e)))).1,fun b hb=>?_,w7⟩
   obtain ⟨o,e,d⟩:=T.obj _ _ uN b hb
   exact (I7.pin (b,o) (List.mem_append_right _ (List.mem_append_right _ (cA hb e)))).2.1
  cases f with
  | next=>obtain ⟨σ7,H7,I7,n7⟩:=q7; exact again I7 n7
  | cont=>obtain ⟨σ7,H7,I7,n7⟩:=q7; exact again I7 n7
  | brk=>obtain ⟨σ7,H7,I7,q7⟩:=q7; exact ⟨σ7,H7,I7.dC,q7⟩
  | ret v=>obtain ⟨x7,σ7,H7,I7,r7,q7⟩:=q7; exact ⟨x7,σ7,H7,I7.dC,r7,q7⟩
end
theorem iu {K:PySem.W.Frag} {a:Addr} {xs:List V} {g:TG} {tb:TS} {D:Ends} {σ : St} {H:Hp} (Pv:Nat→St→Hp→Prop) (h0:Pv 0 σ H) (hl:∀ i σ H,i≤xs.length→Pv i σ H→aD K H a xs)
  (hs:∀ i x σ H,xs[i]? = some x→Pv i σ H→g x σ H fun σ2 H2=>tb { D with nx:=Pv (i + 1),ct:=Pv (i + 1),bk:=D.nx } σ2 H2) (hd:∀ σ H,Pv xs.length σ H→D.nx σ H) :
  ∃ W:Nat→Nat→St→Hp→Prop,(∃ m,W 0 m σ H)∧∀ i m σ H,W i m σ H→
   ((pD K a).stop i H∧D.nx σ H)∨((pD K a).go i H∧∃ N:St→Hp→Prop,(∀ σ' H',N σ' H'→∃ m',m' < m∧W (i + 1) m' σ' H')∧∀ x H',(pD K a).nv i H x H'→g x σ H' fun σ2 H2=>tb { D with nx:=N,ct:=N,bk:=D.nx } σ2 H2):=by
 refine ⟨fun i m σ H=>m = xs.length - i∧i≤xs.length∧Pv i σ H,⟨xs.length,by simp,Nat.zero_le _,h0⟩,?_⟩
 rintro i m σ H ⟨rfl,hi,p⟩
 have q:=hl i σ H hi p
 by_cases dq:i < xs.length
 ·refine .inr ⟨⟨xs,xs[i],q,by simp [dq]⟩,Pv (i + 1),fun σ' H' p'=>⟨xs.length - (i + 1),by omega,rfl,dq,p'⟩,fun x H' y=>?_⟩
  obtain ⟨e,y⟩:=y
  subst e
  exact hs i x σ _ (y xs q) p
 ·have e:i = xs.length:=by omega
  subst e
  exact .inl ⟨⟨xs,q,Nat.le_refl _⟩,hd σ H p⟩
theorem bP {lo:Int} {n:Nat} {g:TG} {tb:TS} {D:Ends} {σ : St} {H:Hp} (Pv:Nat→St→Hp→Prop) (h0:Pv 0 σ H)
  (hs:∀ i σ H,i < n→Pv i σ H→g (.int (lo + i)) σ H fun σ2 H2=>tb { D with nx:=Pv (i + 1),ct:=Pv (i + 1),bk:=D.nx } σ2 H2) (hd:∀ σ H,Pv n σ H→D.nx σ H) :
  ∃ W:Nat→Nat→St→Hp→Prop,(∃ m,W 0 m σ H)∧∀ i m σ H,W i m σ H→
   ((nr lo n).stop i H∧D.nx σ H)∨((nr lo n).go i H∧∃ N:St→Hp→Prop,(∀ σ' H',N σ' H'→∃ m',m' < m∧W (i + 1) m' σ' H')∧∀ x H',(nr lo n).nv i H x H'→g x σ H' fun σ2 H2=>tb { D with nx:=N,ct:=N,bk:=D.nx } σ2 H2):=by
 refine ⟨fun i m σ H=>m = n - i∧i≤n∧Pv i σ H,⟨n,by simp,Nat.zero_le _,h0⟩,?_⟩
 rintro i m σ H ⟨rfl,hi,p⟩
 by_cases dq:i < n
 ·refine .inr ⟨dq,Pv (i + 1),fun σ' H' p'=>⟨n - (i + 1),by omega,rfl,dq,p'⟩,fun x H' y=>?_⟩
  obtain ⟨e,y⟩:=y
  subst e y
  exact hs i σ _ dq p
 ·have e:i = n:=by omega
  subst e
  exact .inl ⟨Nat.le_refl _,hd σ H p⟩
end L2
namespace L2
open PySem PySem.Spec PyProof.Rows
abbrev R2:=V→V→Hp→VK→Prop
def fL (X:Cx) (f:Value→Value→Sem Value) (r:R2):Prop:=
 ∀ (pins:List (Addr×Obj)) (s:Shared) (σ : St) (H:Hp) (x y:V) (v u:Value) (Q:VK),Inv X pins σ H s→RelV x v→RelV y u→r x y H Q→
  wpAny (model X.prog X.w) X.A (f v u) (EP X pins σ Q) X.xe s
def wB (X:Cx) (f:Value→Sem Value) (r:V→Hp→VK→Prop):Prop:=
 ∀ (pins:List (Addr×Obj)) (s:Shared) (σ : St) (H:Hp) (x:V) (v:Value) (Q:VK),Inv X pins σ H s→RelV x v→r x H Q→
  wpAny (model X.prog X.w) X.A (f v) (EP X pins σ Q) X.xe s
def cU (X:Cx) (f:Value) (r:List V→Hp→VK→Prop):Prop:=
 ∀ (pins:List (Addr×Obj)) (s:Shared) (σ : St) (H:Hp) (xs:List V) (us:List Value) (Q:VK),Inv X pins σ H s→Vals xs us→r xs H Q→
  wpAny (model X.prog X.w) X.A (call f us) (EP X pins σ Q) X.xe s
def Ci (X:Cx) (r:V→Hp→(Bool→Hp→Prop)→Prop):Prop:=
 ∀ (pins:List (Addr×Obj)) (s:Shared) (σ : St) (H:Hp) (x:V) (v:Value) (Q:Bool→Hp→Prop),Inv X pins σ H s→RelV x v→r x H Q→
  wpAny (model X.prog X.w) X.A (truthy v) (TP X pins σ Q) X.xe s
def rj (r:R2) (ta tb:TE):TE:=fun σ H Q=>ta σ H fun x H1=>tb σ H1 fun y H2=>r x y H2 Q
def wV (r:V→Hp→VK→Prop) (ta:TE):TE:=fun σ H Q=>ta σ H fun x H1=>r x H1 Q
def rI (C:Int→Int→Prop) (g:Int→Int→V):R2:=fun x y H Q=>∃ i j,x = .int i∧y = .int j∧C i j∧Q (g i j) H
def oZ (g:Int→Int→V):R2:=fun x y H Q=>∃ i j,x = .int i∧y = .int j∧Q (g i j) H
def rU (g:Int→V):V→Hp→VK→Prop:=fun x H Q=>∃ i,x = .int i∧Q (g i) H
section
variable {X:Cx} {a b c:Expr} {ta tb tc:TE} {pos:Pos}
theorem qN (ha:PE X a ta) (hb:PE X b tb) {pins:List (Addr×Obj)} {s:Shared} {σ : St} {H:Hp} {R:V→V→Hp→Prop} (I:Inv X pins σ H s)
  (h:ta σ H fun x H1=>tb σ H1 fun y H2=>R x y H2) {Q:Value→Shared→Prop} {f:Value→Value→Sem Value}
  (hf:∀ v u s2 x y H2,Inv X pins σ H2 s2→RelV x v→RelV y u→R x y H2→wpAny (model X.prog X.w) X.A (f v u) Q X.xe s2) :
  wpAny (model X.prog X.w) X.A (eval a X.env) (fun v s₁=>wpAny (model X.prog X.w) X.A (eval b X.env) (fun u s₂=>wpAny (model X.prog X.w) X.A (f v u) Q X.xe s₂) X.xe s₁) X.xe s:=by
 refine bX (ha pins s σ H _ I h) fun v s1 ⟨x,H1,I1,r1,q1⟩=>?_
 refine bX (hb pins s1 σ H1 _ I1 q1) fun u s2 ⟨y,H2,I2,r2,q2⟩=>?_
 exact hf v u s2 x y H2 I2 r1 r2 q2
theorem aq {op:Operator} {r:R2} (ho:fL X (binaryOp op) r) (ha:PE X a ta) (hb:PE X b tb):PE X (.BinOp a op b pos) (rj r ta tb):=by
 intro pins s σ H Q I h
 exact wpAny_BinOp (qN ha hb I h fun v u s2 x y H2 I2 rx ry q=>ho pins s2 σ H2 x y v u Q I2 rx ry q)
theorem o6 {op:UnaryOp} {r:V→Hp→VK→Prop} (ho:wB X (unaryOp op) r) (ha:PE X a ta):PE X (.UnaryOp op a pos) (wV r ta):=by
 intro pins s σ H Q I h
 exact UnaryOp_ (bX (ha pins s σ H _ I h) fun v s1 ⟨x,H1,I1,r1,q1⟩=>ho pins s1 σ H1 x v Q I1 r1 q1)
theorem tU {f:Value→Value→Sem Value} {C:Int→Int→Prop} {g:Int→Int→Int}
  (rule:∀ (i j:Int) (t u:Tok) (s:Shared) (Q:Value→Shared→Prop) (E:Value→Shared→Prop),C i j→Q (.int (g i j) s.toks) { s with toks:=s.toks + 1 }→wpAny (model X.prog X.w) X.A (f (.int i t) (.int j u)) Q E s) :
  fL X f (rI C fun i j=>.int (g i j)):=by
 intro pins s σ H x y v u Q I rx ry h
 obtain ⟨i,j,rfl,rfl,hc,q⟩:=h
 obtain ⟨t,rfl⟩:=rx
 obtain ⟨t',rfl⟩:=ry
 exact rule i j t t' s _ _ hc ⟨.int (g i j),H,I.tok _,⟨_,rfl⟩,q⟩
theorem r0 {f:Value→Value→Sem Value} {g:Int→Int→Int}
  (rule:∀ (i j:Int) (t u:Tok) (s:Shared) (Q:Value→Shared→Prop) (E:Value→Shared→Prop),Q (.int (g i j) s.toks) { s with toks:=s.toks + 1 }→wpAny (model X.prog X.w) X.A (f (.int i t) (.int j u)) Q E s) :
  fL X f (oZ fun i j=>.int (g i j)):=by
 intro pins s σ H x y v u Q I rx ry h
 obtain ⟨i,j,rfl,rfl,q⟩:=h
 obtain ⟨t,rfl⟩:=rx
 obtain ⟨t',rfl⟩:=ry
 exact rule i j t t' s _ _ ⟨.int (g i j),H,I.tok _,⟨_,rfl⟩,q⟩
theorem p6 {f:Value→Value→Sem Value} {g:Int→Int→Bool}
  (rule:∀ (i j:Int) (t u:Tok) (s:Shared) (Q:Value→Shared→Prop) (E:Value→Shared→Prop),Q (.bool (g i j)) s→wpAny (model X.prog X.w) X.A (f (.int i t) (.int j u)) Q E s) :
  fL X f (oZ fun i j=>.bl (g i j)):=by
 intro pins s σ H x y v u Q I rx ry h
 obtain ⟨i,j,rfl,rfl,q⟩:=h
 obtain ⟨t,rfl⟩:=rx
 obtain ⟨t',rfl⟩:=ry
 exact rule i j t t' s _ _ ⟨.bl (g i j),H,I,rfl,q⟩
def CN (i j:Int):Prop:=0 < j∧j < 1073741824
def yA (i j:Int):Prop:=j≠0∧j.natAbs < 1073741824
def wK (i j:Int):Prop:=0≤j∧j≤1000000∧i.natAbs < 2 ^ 64
def CM (i j:Int):Prop:=(-(2 ^ 64) < i∧i < 2 ^ 64)∨(-(2 ^ 64) < j∧j < 2 ^ 64)
theorem bB:fL X (binaryOp .Add) (oZ fun i j=>.int (i + j)):=r0 fun _ _ _ _ _ _ _ q=>add_int q
theorem p5:fL X (binaryOp .Sub) (oZ fun i j=>.int (i - j)):=r0 fun _ _ _ _ _ _ _ q=>sub_int q
theorem aK:fL X (binaryOp .Mod) (rI (fun _ j=>0 < j) fun i j=>.int (i % j)):=tU fun i j _ _ _ _ _ hc q=>by
 have h1:(0:Int) < j:=hc
 exact mod_int' (by omega) (by rw [Int.fmod_eq_emod_of_nonneg i (by omega)]; exact q)
theorem gC:fL X (binaryOp .Pow) (rI wK fun i j=>.int (i ^ j.toNat)):=tU fun _ _ _ _ _ _ _ hc q=>pow_int_small hc.1 hc.2.1 hc.2.2 q
theorem yG {f:Value→Sem Value} {g:Int→Int}
  (rule:∀ (i:Int) (t:Tok) (s:Shared) (Q:Value→Shared→Prop) (E:Value→Shared→Prop),Q (.int (g i) s.toks) { s with toks:=s.toks + 1 }→wpAny (model X.prog X.w) X.A (f (.int i t)) Q E s) :
  wB X f (rU fun i=>.int (g i)):=by
 intro pins s σ H x v Q I rx h
 obtain ⟨i,rfl,q⟩:=h
 obtain ⟨t,rfl⟩:=rx
 exact rule i t s _ _ ⟨.int (g i),H,I.tok _,⟨_,rfl⟩,q⟩
theorem kL:wB X (unaryOp .USub) (rU fun i=>.int (-i)):=yG fun _ _ _ _ _ q=>neg_int q
end
def rL:V→V→Bool
 | .bp,.bp=>true | .bp,.int _=>true | .int _,.bp=>true | .bp,.bl _=>true | .bl _,.bp=>true | .bp,.str _=>true | .str _,.bp=>true
 | .int _,.int _=>true | .bl _,.bl _=>true | .str _,.str _=>true | .iM _,.iM _=>true
 | .int _,.str _=>true | .str _,.int _=>true | .bl _,.str _=>true | .str _,.bl _=>true
 | _,_=>false
def xr:R2:=fun x y H Q=>rL x y = true∧Q (.bl (decide (x = y))) H
def xo:R2:=fun x y H Q=>rL x y = true∧Q (.bl (!decide (x = y))) H
theorem eN {i j:Int}:decide (V.int i = V.int j) = (i == j):=by
 rw [Bool.eq_iff_iff]
 simp
theorem mM {i j:Bool}:decide (V.bl i = V.bl j) = (i == j):=by
 rw [Bool.eq_iff_iff]
 simp
theorem jM {i j:Str}:decide (V.str i = V.str j) = (i == j):=by
 rw [Bool.eq_iff_iff]
 simp
theorem jN {i j:Array UInt8}:decide (V.iM i = V.iM j) = (i.toList == j.toList):=by
 rw [Bool.eq_iff_iff]
 cases i
 cases j
 simp
section
variable {X:Cx} {a b c:Expr} {ta tb tc:TE} {pos:Pos}
theorem ay {pins:List (Addr×Obj)} {σ : St} {H:Hp} {s:Shared} {Q:VK} {k k':Bool} (I:Inv X pins σ H s) (q:Q (.bl k) H) (e:k = k'):EP X pins σ Q (.bool k') s:=by
 subst e
 exact ⟨.bl k,H,I,rfl,q⟩
theorem dk:fL X (compareOp .Eq) xr:=by
 intro pins s σ H x y v u Q I rx ry h
 obtain ⟨hs,q⟩:=h
 cases x with
 | bp=>
  cases rx
  cases y with
  | bp=>cases ry; exact PySem.EqNone.eq_none_none (ay I q (by simp))
  | bl j=>cases ry; exact PySem.EqNone.eq_none_bool (ay I q (by simp))
  | int j=>obtain ⟨t',rfl⟩:=ry; exact PySem.EqNone.eq_none_int (ay I q (by simp))
  | str j=>obtain ⟨t',rfl⟩:=ry; exact PySem.EqNone.eq_none_str (ay I q (by simp))
  | _=>exact absurd (show false = true from hs) Bool.false_ne_true
 | bl i=>
  cases rx
  cases y with
  | bp=>cases ry; exact PySem.EqNone.eq_bool_none (ay I q (by simp))
  | bl j=>cases ry; exact eq_bool (ay I q mM)
  | str j=>obtain ⟨t',rfl⟩:=ry; exact PySem.EqMixed.eq_bool_str (ay I q (by simp))
  | _=>exact absurd (show false = true from hs) Bool.false_ne_true
 | int i=>
  obtain ⟨t,rfl⟩:=rx
  cases y with
  | bp=>cases ry; exact PySem.EqNone.eq_int_none (ay I q (by simp))
  | int j=>obtain ⟨t',rfl⟩:=ry; exact eq_int (ay I q eN)
  | str j=>obtain ⟨t',rfl⟩:=ry; exact PySem.EqMixed.eq_int_str (ay I q (by simp))
  | _=>exact absurd (show false = true from hs) Bool.false_ne_true
 | str i=>
  obtain ⟨t,rfl⟩:=rx
  cases y with
  | bp=>cases ry; exact PySem.EqNone.eq_str_none (ay I q (by simp))
  | bl j=>cases ry; exact PySem.EqMixed.eq_str_bool (ay I q (by simp))
  | int j=>obtain ⟨t',rfl⟩:=ry; exact PySem.EqMixed.eq_str_int (ay I q (by simp))
  | str j=>obtain ⟨t',rfl⟩:=ry; exact eq_str (ay I q jM)
  | _=>exact absurd (show false = true from hs) Bool.false_ne_true
 | iM i=>
  obtain ⟨t,rfl⟩:=rx
  cases y with
  | iM j=>obtain ⟨t',rfl⟩:=ry; exact PySem.W.eq_bytes (ay I q jN)
  | _=>exact absurd (show false = true from hs) Bool.false_ne_true
 | _=>cases y <;> exact absurd (show false = true from hs) Bool.false_ne_true
theorem o7:fL X (compareOp .NotEq) xo:=by
 intro pins s σ H x y v u Q I rx ry h
 obtain ⟨hs,q⟩:=h
 cases x with
 | bp=>
  cases rx
  cases y with
  | bp=>cases ry; exact PySem.EqNone.ne_none_none (ay I q (by simp))
  | bl j=>cases ry; exact PySem.EqNone.ne_none_bool (ay I q (by simp))
  | int j=>obtain ⟨t',rfl⟩:=ry; exact PySem.EqNone.ne_none_int (ay I q (by simp))
  | str j=>obtain ⟨t',rfl⟩:=ry; exact PySem.EqNone.ne_none_str (ay I q (by simp))
  | _=>exact absurd (show false = true from hs) Bool.false_ne_true
 | bl i=>
  cases rx
  cases y with
  | bp=>cases ry; exact PySem.EqNone.ne_bool_none (ay I q (by simp))
  | bl j=>cases ry; exact ne_bool (ay I q (congrArg not mM))
  | str j=>obtain ⟨t',rfl⟩:=ry; exact PySem.EqMixed.ne_bool_str (ay I q (by simp))
  | _=>exact absurd (show false = true from hs) Bool.false_ne_true
 | int i=>
  obtain ⟨t,rfl⟩:=rx
  cases y with
  | bp=>cases ry; exact PySem.EqNone.ne_int_none (ay I q (by simp))
  | int j=>obtain ⟨t',rfl⟩:=ry; exact ne_int (ay I q (congrArg not eN))
  | str j=>obtain ⟨t',rfl⟩:=ry; exact PySem.EqMixed.ne_int_str (ay I q (by simp))
  | _=>exact absurd (show false = true from hs) Bool.false_ne_true
 | str i=>
  obtain ⟨t,rfl⟩:=rx
  cases y with
  | bp=>cases ry; exact PySem.EqNone.ne_str_none (ay I q (by simp))
  | bl j=>cases ry; exact PySem.EqMixed.ne_str_bool (ay I q (by simp))
  | int j=>obtain ⟨t',rfl⟩:=ry; exact PySem.EqMixed.ne_str_int (ay I q (by simp))
  | str j=>obtain ⟨t',rfl⟩:=ry; exact ne_str (ay I q (congrArg not jM))
  | _=>exact absurd (show false = true from hs) Bool.false_ne_true
 | iM i=>
  obtain ⟨t,rfl⟩:=rx
  cases y with
  | iM j=>obtain ⟨t',rfl⟩:=ry; exact PySem.W.ne_bytes (ay I q (congrArg not jN))
  | _=>exact absurd (show false = true from hs) Bool.false_ne_true
 | _=>cases y <;> exact absurd (show false = true from hs) Bool.false_ne_true
theorem h8:fL X (compareOp .Lt) (oZ fun i j=>.bl (decide (i < j))):=p6 fun _ _ _ _ _ _ _ q=>lt_int q
theorem o8:fL X (compareOp .Gt) (oZ fun i j=>.bl (decide (j < i))):=p6 fun _ _ _ _ _ _ _ q=>gt_int q
theorem o9:fL X (compareOp .GtE) (oZ fun i j=>.bl (decide (j≤i))):=p6 fun _ _ _ _ _ _ _ q=>ge_int q
def isObj:HO→Bool
 | .lst _=>true
 | .ins _ _ _=>true
 | _=>false
theorem aL (b:Expr) {op:CmpOp} (h:op≠.In:=by decide) (h2:op≠.NotIn:=by decide):behindInMarks op b = false:=by
 have e1:(op == CmpOp.In) = false:=by cases op <;> first | rfl | exact absurd rfl h
 have e2:(op == CmpOp.NotIn) = false:=by cases op <;> first | rfl | exact absurd rfl h2
 cases b <;> simp [behindInMarks,e1,e2]
theorem jD {op:CmpOp} {r:R2} (ho:fL X (compareOp op) r) (ha:PE X a ta) (hb:PE X b tb) (hm:behindInMarks op b = false):PE X (.Compare a [op] [b] pos) (rj r ta tb):=by
 intro pins s σ H Q I h
 exact wpAny_Compare1 (qN ha hb I h fun v u s2 x y H2 I2 rx ry q=>ho pins s2 σ H2 x y v u Q I2 rx ry q) hm
def oK (t:TE):TT:=fun σ H Q=>t σ H fun x H'=>∃ k,x = .bl k∧Q k H'
theorem ax {op:CmpOp} {r:R2} (ho:fL X (compareOp op) r) (ha:PE X a ta) (hb:PE X b tb) (hm:behindInMarks op b = false):PT X (.Compare a [op] [b] pos) (oK (rj r ta tb)):=by
 intro pins s σ H Q I h
 refine wpAny_isTrue_Compare1 (bX (ha pins s σ H _ I h) fun v s1 ⟨x,H1,I1,r1,q1⟩=>bX (hb pins s1 σ H1 _ I1 q1) fun u s2 ⟨y,H2,I2,r2,q2⟩=>
  bX (ho pins s2 σ H2 x y v u _ I2 r1 r2 q2) fun c s3 ⟨z,H3,I3,r3,k,e,q3⟩=>?_) hm
 subst e
 cases r3
 exact wpAny_truthy_bool ⟨H3,I3,q3⟩
def uK (r r':R2) (ta tb tc:TE):TE:=fun σ H Q=>ta σ H fun x H1=>tb σ H1 fun y H2=>r x y H2 fun z H3=>∃ k,z = .bl k∧
 (if k = true then tc σ H3 fun w' H4=>r' y w' H4 Q else Q (.bl false) H3)
def Cg (K:PySem.W.Frag) (x:V) (H:Hp) (k:Bool):Prop:=
 match x with
 | .bp=>k = false
 | .bl b=>k = b
 | .int i=>k = (i != 0)
 | .str y=>y.length≤sizeLine∧k = ((y.length:Int) != 0)
 | .iM y=>y.size≤sizeLine∧k = ((y.size:Int) != 0)
 | .ref p=>(∃ xs,aD K H p xs∧k = !xs.isEmpty)∨(∃ xs,SqT K H p xs∧k = !xs.isEmpty)∨∃ aI,H p = some (.dK aI)∧k = !aI.isEmpty
 | _=>False
theorem i8:(sizeLine:Nat) < 2 ^ 63:=by rw [sizeLine_eq]; decide
def tf (b:Expr):Prop:=∀ o i,subscripted b false o i = operate [o,i] (getItem o i)
theorem vals1 {x:V} {us:List Value} (r:Vals [x] us):∃ u,us = [u]∧RelV x u:=by
 cases r with
 | cons r1 r2=>cases r2; exact ⟨_,rfl,r1⟩
theorem vals2 {x y:V} {us:List Value} (r:Vals [x,y] us):∃ u w',us = [u,w']∧RelV x u∧RelV y w':=by
 cases r with
 | cons r1 r2=>
  cases r2 with
  | cons r3 r4=>cases r4; exact ⟨_,_,rfl,r1,r3⟩
theorem ko (hc:X.calm = true):cU X (.builtin "min") (fun xs H Q=>∃ i j,xs = [.int i,.int j]∧Q (.int (if j < i then j else i)) H):=by
 intro pins s σ H xs us Q I r h
 obtain ⟨i,j,rfl,q⟩:=h
 obtain ⟨u,w',rfl,⟨t,rfl⟩,⟨t',rfl⟩⟩:=vals2 r
 refine min_two_ints (I.ok.hd hc) fun h' tk k=>⟨_,H,I.kept k,?_,q⟩
 by_cases hj:j < i
 ·rw [if_pos hj,if_pos hj]; exact ⟨_,rfl⟩
 ·rw [if_neg hj,if_neg hj]; exact ⟨_,rfl⟩
def wH (K:PySem.W.Frag) (x:V) (H:Hp) (n:Nat):Prop:=
 match x with
 | .str y=>y.length≤sizeLine∧n = y.length
 | .iM y=>y.size≤sizeLine∧n = y.size
 | .ref p=>(∃ xs,aD K H p xs∧n = xs.length)∨∃ xs,SqT K H p xs∧n = xs.length
 | _=>False
theorem aA:cU X (.builtin "len") (fun xs H Q=>∃ x n,xs = [x]∧wH X.K x H n∧Q (.int n) H):=by
 intro pins s σ H xs us Q I r h
 obtain ⟨x,n,rfl,e,q⟩:=h
 obtain ⟨u,rfl,rx⟩:=vals1 r
 have hl:=i8
 have hs:sizeLine = 16777216:=sizeLine_eq
 cases x with
 | str y=>
  obtain ⟨t,rfl⟩:=rx
  obtain ⟨hy,e'⟩:y.length≤sizeLine∧n = y.length:=e
  subst e'
  exact len_str (by omega) ⟨.int _,H,I.tok _,⟨_,rfl⟩,q⟩
 | iM y=>
  obtain ⟨t,rfl⟩:=rx
  obtain ⟨hy,e'⟩:y.size≤sizeLine∧n = y.size:=e
  subst e'
  exact PySem.W.len_bytes (by omega) ⟨.int _,H,I.tok _,⟨_,rfl⟩,q⟩
 | ref p=>
  cases rx
  have e':(∃ xs,aD X.K H p xs∧n = xs.length)∨∃ xs,SqT X.K H p xs∧n = xs.length:=e
  rcases e' with ⟨xs,hx,e'⟩ | ⟨xs,hx,e'⟩
  ·subst e'
   obtain ⟨aH,r',pl,hz⟩:=I.list hx
   have hlen:=r'.length
   exact Calls.call_len_list pl.isList (by simp only [List.size_toArray]; omega) ⟨.int xs.length,H,I.tok _,⟨_,by simp only [List.size_toArray]; rw [hlen]⟩,q⟩
  ·subst e'
   obtain ⟨aH,r',pl,hz⟩:=I.tuple hx
   have hlen:=r'.length
   exact len_tuple pl (by simp only [List.size_toArray]; omega) ⟨.int xs.length,H,I.tok _,⟨_,by simp only [List.size_toArray]; rw [hlen]⟩,q⟩
 | _=>exact (show False from e).elim
end
end L2
namespace L2
open PySem PySem.Spec PyProof.Rows
structure qT (h:Heap) (x dx C:Addr) (mA:Str→Option Value):Prop where
 obj:h.get? x = some (PySem.W.instObj C dx)
 ns:h.Ns1 dx mA
 ne:dx≠x
theorem fU {h:Heap} {dx:Addr} {mA:Str→Option Value} (n:h.Ns1 dx mA):∃ od,h.get? dx = some od∧∀ name,PySem.W.lookIn name od = some (mA name):=by
 obtain ⟨o,es,ep,ho,hd,hk,_,hm⟩:=n
 refine ⟨o,ho,fun name=>?_⟩
 have e:=hm name
 unfold nsFind findBy at e
 rw [← Array.find?_toList] at e
 unfold PySem.W.lookIn
 rw [hd]
 dsimp only
 split
 ·rename_i y q
  rw [q] at e
  exact congrArg some e
 ·rename_i q
  rw [q] at e
  have a:es.toList.any (·.refKey) = false:=by
   rw [List.any_eq_false]
   intro y hy
   obtain ⟨z,t,vI⟩:=hk y (Array.mem_toList_iff.mp hy)
   simp [DictEntry.refKey,vI]
  have a':¬ es.toList.any (·.refKey) = true:=by rw [a]; exact Bool.false_ne_true
  rw [if_neg a']
  exact congrArg some e
theorem qT.look {h:Heap} {x dx C:Addr} {mA:Str→Option Value} (I:qT h x dx C mA):∃ od,PySem.W.InstAt h x (PySem.W.instObj C dx) C (some od)∧∀ name,PySem.W.lookIn name od = some (mA name):=
 let ⟨od,ho,hl⟩:=fU I.ns
 ⟨od,⟨I.obj,rfl,rfl,ho⟩,hl⟩
def pW (f:Str) (v:V):List (Str×V)→List (Str×V)
 | []=>[(f,v)]
 | (g,x) :: r=>if g = f then (g,v) :: r else (g,x) :: pW f v r
theorem iG.some_of {v:V} {o:Option Value} (r:iG (some v) o):∃ u,o = some u∧RelV v u:=by
 cases o with
 | none=>exact (show False from r).elim
 | some u=>exact ⟨u,rfl,r⟩
theorem kg {v:V} {u:Value} (r:RelV v u):PySem.W.handedIn u = true:=by
 cases v with
 | bp=>cases (show u = Value.none from r); rfl
 | bl b=>cases (show u = Value.bool b from r); rfl
 | int i=>obtain ⟨t,e⟩:=(show ∃ t,u = Value.int i t from r); cases e; rfl
 | str x=>obtain ⟨t,e⟩:=(show ∃ t,u = Value.str x t from r); cases e; rfl
 | iM b=>obtain ⟨t,e⟩:=(show ∃ t,u = Value.bytes b t from r); cases e; rfl
 | kJ b=>obtain ⟨t,e⟩:=(show ∃ t,u = Value.float b t from r); cases e; rfl
 | ref a=>cases (show u = Value.ref a from r); rfl
 | ty n=>cases (show u = Value.type n from r); rfl
section
variable {P:Program} {w:World} {H H':Hp} {h h':Heap} {a C dx:Addr} {fs sL:List (Str×V)}
theorem nO (bc:dB P w H h) (e:H a = some (.ins C dx fs)):∃ mA,qT h a dx C mA∧(∀ f,iG (fs.lookup f) (mA f))∧PySem.Within mA (fs.map (·.1))∧fs.length≤1000∧H dx = some (.own a):=by
 obtain ⟨d,z,ne,ob,mA,n,r,q⟩:=(show aS P w H h a (.ins C dx fs) from bc a _ e)
 exact ⟨mA,⟨ob,n,ne⟩,r,q,z,d⟩
end
structure qU (K:PySem.W.Frag) (C:Addr):Prop where
 pg:PySem.W.plainGet K C Str.empty = true
 hd:PySem.W.hasDictIn K C = true
 po:PySem.W.plainOver K C = true
 sa:PySem.W.findIn K (.ref C) "__setattr__" = some (some (.builtin "object.__setattr__"))
theorem qU.get {K:PySem.W.Frag} {C:Addr} (c:qU K C) (f:Str):PySem.W.plainGet K C f = true:=c.pg
def jk (K:PySem.W.Frag) (C:Addr) (f:Str):Prop:=PySem.W.findIn K (.ref C) f = some none
structure CL (K:PySem.W.Frag) (C:Addr) (f:Str) (v:V) (u:Value):Prop where
 at_:PySem.W.findIn K (.ref C) f = some (some u)
 rel:RelV v u
 get:PySem.W.specialIn K u "__get__" = some none
 cp:PySem.W.copiedNames.contains f = false
structure Meth (K:PySem.W.Frag) (C:Addr) (m:Str) (f:Addr):Prop where
 at_:PySem.W.findIn K (.ref C) m = some (some (.ref f))
 fn:PySem.W.isFn K (.ref f) = true
 kp:PySem.W.keepIn K (.ref f) = true
section
variable {X:Cx} {pins:List (Addr×Obj)} {σ : St} {H:Hp} {s:Shared} {a C dx:Addr} {fs:List (Str×V)} {f:Str} {v:V} {A:Around} {E:Value→Shared→Prop}
theorem oz {prog:Program} {w:World} {env:Env} {e:Expr} {f:Str} {pos:Pos} {s:Shared} {Q:Value→Shared→Prop} (hb:attributeBase e f env (eval e env) = eval e env)
  (h:wpAny (model prog w) A (eval e env) (fun o s₁=>wpAny (model prog w) A (getAttr o f true) Q E s₁) E s):wpAny (model prog w) A (eval (.Attribute e f pos) env) Q E s:=
 Attribute_any_ h (by rw [arm_eval_Attribute,hb])
end
def yT (K:PySem.W.Frag) (ta:TE) (f:Str):TE:=fun σ H Q=>ta σ H fun x H1=>∃ a C dx fs v,x = .ref a∧H1 a = some (.ins C dx fs)∧qU K C∧jk K C f∧fs.lookup f = some v∧Q v H1
def yW (K:PySem.W.Frag) (ta:TE) (f:Str):TE:=fun σ H Q=>ta σ H fun x H1=>∃ a C dx fs v u,x = .ref a∧H1 a = some (.ins C dx fs)∧qU K C∧CL K C f v u∧fs.lookup f = none∧Q v H1
def zj (K:PySem.W.Frag) (ta tv:TE) (f:Str):TS:=fun D σ H=>tv σ H fun y H1=>ta σ H1 fun x H2=>∃ a C dx fs,x = .ref a∧H2 a = some (.ins C dx fs)∧qU K C∧jk K C f∧fs.length < 1000∧
 D.nx σ (upd H2 a (.ins C dx (pW f y fs)))
def CD (X:Cx) (op:Operator) (rd:V→V→Hp→VK→Prop):Prop:=
 ∀ (pins:List (Addr×Obj)) (s:Shared) (σ : St) (H:Hp) (x y:V) (u v:Value) (Q:VK),Inv X pins σ H s→RelV x u→RelV y v→rd x y H Q→wpAny (model X.prog X.w) X.A (inplaceOp op u v) (EP X pins σ Q) X.xe s
def tL (K:PySem.W.Frag) (ta tv:TE) (rd:V→V→Hp→VK→Prop) (f:Str):TS:=fun D σ H=>ta σ H fun x H1=>∃ a C dx fs v,x = .ref a∧H1 a = some (.ins C dx fs)∧qU K C∧jk K C f∧fs.lookup f = some v∧
 tv σ H1 fun y H2=>rd v y H2 fun z H3=>∃ x9 sL,H3 a = some (.ins C x9 sL)∧sL.length < 1000∧D.nx σ (upd H3 a (.ins C x9 (pW f z sL)))
section
variable {X:Cx} {o e value:Expr} {f:Str} {pos pos' yI:Pos} {ta tv:TE}
def zG:V→V→Hp→VK→Prop:=fun x y H Q=>∃ i j,x = .int i∧y = .int j∧Q (.int (i + j)) H
def zp:V→V→Hp→VK→Prop:=fun x y H Q=>∃ i j,x = .int i∧y = .int j∧Q (.int (i - j)) H
end
section
variable {X:Cx} {pins:List (Addr×Obj)} {σ : St} {H:Hp} {s:Shared} {A:Around} {E:Value→Shared→Prop} {Q:Value→Shared→Prop} {c:Value} {b:Bool}
inductive dU (K:PySem.W.Frag) (H:Hp):V→Value→Prop where
 | bp:dU K H .bp (.type "NoneType")
 | bl (x:Bool):dU K H (.bl x) (.type "bool")
 | int (i:Int):dU K H (.int i) (.type "int")
 | str (x:Str):dU K H (.str x) (.type "str")
 | kJ (x:UInt64):dU K H (.kJ x) (.type "float")
 | lst {a:Addr} {xs:List V} (e:H a = some (.lst xs)):dU K H (.ref a) (.type "list")
 | fg {a:Addr} {o:Obj} {xs:List V} (e:H a = some (.fg o (.lst xs))):dU K H (.ref a) (.type "list")
 | tup {a:Addr} {xs:List V} (e:H a = some (.tup xs)):dU K H (.ref a) (.type "tuple")
 | dK {a:Addr} {aI:List (Key×V)} (e:H a = some (.dK aI)):dU K H (.ref a) (.type "dict")
 | dT {a:Addr} {aI:List (List Key×V)} (e:H a = some (.dT aI)):dU K H (.ref a) (.type "dict")
 | ins {a C dx:Addr} {fs:List (Str×V)} (e:H a = some (.ins C dx fs)) (cl:qU K C) (ha:PySem.W.findIn K (.ref C) "__class__" = some (some (.builtin "object.__class__")))
   (hn:PySem.W.specialIn K (.builtin "object.__class__") "__get__" = some (some (.builtin "getset_descriptor.__get__"))) (ua:PySem.W.takesIn K (.builtin "object.__class__") = some true)
   (hm:PySem.W.mroIn K C (.type "object") = some true):dU K H (.ref a) (.ref C)
theorem kb {x:V} {u t:Value} (I:Inv X pins σ H s) (rx:RelV x u) (ty:dU X.K H x t) (e:PySem.W.kitOne X.K t c = some b) (h:∀ tk,Q (.bool b) { s with toks:=tk }) :
  wpAny (model X.prog X.w) A (call (.builtin "isinstance") [u,c]) Q E s:=by
 cases ty with
 | bp=>cases (show u = Value.none from rx); exact PySem.W.kia_one PySem.W.kitx_none I.dy True.intro e (fun z=>nomatch z) h
 | bl y=>cases (show u = Value.bool y from rx); exact PySem.W.kia_one PySem.W.kitx_bool I.dy True.intro e (fun z=>nomatch z) h
 | int i=>obtain ⟨t,q⟩:=(show ∃ t,u = Value.int i t from rx); cases q; exact PySem.W.kia_one PySem.W.kitx_int I.dy True.intro e (fun z=>nomatch z) h
 | str y=>obtain ⟨t,q⟩:=(show ∃ t,u = Value.str y t from rx); cases q; exact PySem.W.kia_one PySem.W.kitx_str I.dy True.intro e (fun z=>nomatch z) h
 | kJ y=>obtain ⟨t,q⟩:=(show ∃ t,u = Value.float y t from rx); cases q; exact PySem.W.kia_one PySem.W.kitx_float I.dy True.intro e (fun z=>nomatch z) h
 | @lst a xs ea=>
  cases (show u = Value.ref a from rx)
  obtain ⟨_,_,n,_,h1⟩:=(show aS X.prog X.w H s.heap a (.lst xs) from I.bc a _ ea)
  exact PySem.W.kia_one PySem.W.kitx_list I.dy ⟨_,h1,rfl⟩ e (fun z=>nomatch z) h
 | @fg a ob xs ea=>
  cases (show u = Value.ref a from rx)
  obtain ⟨_,_,_,n,_,h1⟩:=(show aS X.prog X.w H s.heap a (.fg ob (.lst xs)) from I.bc a _ ea)
  exact PySem.W.kia_one PySem.W.kitx_list I.dy ⟨_,h1,rfl⟩ e (fun z=>nomatch z) h
 | @tup a xs ea=>
  cases (show u = Value.ref a from rx)
  obtain ⟨_,_,_,p⟩:=(show aS X.prog X.w H s.heap a (.tup xs) from I.bc a _ ea)
  obtain ⟨o,h1,h2,_⟩:=p
  exact PySem.W.kia_one PySem.W.kitx_tuple I.dy ⟨o,h1,h2⟩ e (fun z=>nomatch z) h
 | @dK a aI ea=>
  cases (show u = Value.ref a from rx)
  obtain ⟨_,_,vs,_,p⟩:=(show aS X.prog X.w H s.heap a (.dK aI) from I.bc a _ ea)
  obtain ⟨o,es,ep,h1,h2,_⟩:=p
  exact PySem.W.kia_one PySem.W.kitx_dict I.dy ⟨o,h1,h2.1⟩ e (fun z=>nomatch z) h
 | @dT a aI ea=>
  cases (show u = Value.ref a from rx)
  obtain ⟨_,_,xs,_,o,es,ep,h1,h2,_⟩:=(show aS X.prog X.w H s.heap a (.dT aI) from I.bc a _ ea)
  exact PySem.W.kia_one PySem.W.kitx_dict I.dy ⟨o,h1,h2.1⟩ e (fun z=>nomatch z) h
 | @ins a C dx fs ea cl ha hn ua hm=>
  cases (show u = Value.ref a from rx)
  obtain ⟨mA,O,_⟩:=nO I.bc ea
  obtain ⟨od,J,_⟩:=O.look
  exact PySem.W.kia_one (PySem.W.kitx_own (cl.get _) cl.hd ha hn ua hm) I.dy J e (fun z=>nomatch z) h
end
end L2
namespace L2
open PySem PySem.Spec PyProof.Rows
structure bM (k:Nat) (A:Around):Prop where
 hd:A.handled = none
 dp:A.depth + 3 * k + 5 < recursionLimit
 un:A.units + 16 * k + 200 < cLine
theorem bM.mono {j k:Nat} {A:Around} (r:bM k A) (h:j≤k):bM j A:=⟨r.hd,by have:=r.dp; omega,by have:=r.un; omega⟩
theorem bM.deeper {k:Nat} {A:Around} (r:bM (k + 1) A) (env:Env):bM k (A.deeper env):=
 ⟨r.hd,by have:=r.dp; show A.depth + 1 + 3 * k + 5 < _; omega,by have:=r.un; show A.units + 3 + 16 * k + 200 < _; omega⟩
theorem i7 {A:Around} {C:Addr} {us:List Value} {kw:List (Str×Value)}:(A.under (.builtin "type.__call__" ⟨.ref C :: us,kw⟩)).depth = A.depth + 1:=by
 first | rfl | simp [Around.under,Code.weight,Code.isCreation,Code.isGuard,Code.isCaller,Code.frames,Code.isFrame,guardIds]
theorem i6 {A:Around} {C:Addr} {us:List Value} {kw:List (Str×Value)}:(A.under (.builtin "type.__call__" ⟨.ref C :: us,kw⟩)).units = A.units + 1:=by
 first | rfl | simp [Around.under,Code.cUnits,Code.frames,Code.isFrame]
theorem bM.make {k:Nat} {A:Around} (r:bM (k + 1) A) (C:Addr) (us:List Value) (kw:List (Str×Value)):bM k (A.under (.builtin "type.__call__" ⟨.ref C :: us,kw⟩)):=
 ⟨r.hd,by have:=r.dp; rw [i7]; omega,by have:=r.un; rw [i6]; omega⟩
theorem bM.depth {k:Nat} {A:Around} (r:bM k A):A.depth < recursionLimit:=by have:=r.dp; omega
theorem bM.units {k:Nat} {A:Around} (r:bM k A):A.units + 64 < cLine:=by have:=r.un; omega
def pH:TA:=fun _ H Q=>Q [] H
def kP (ta:TE) (tr:TA):TA:=fun σ H Q=>ta σ H fun x H1=>tr σ H1 fun xs H2=>Q (x :: xs) H2
section
variable {X:Cx} {e:Expr} {es:List Expr} {te:TE} {t:TA} {pos:Pos}
theorem ag:PA X [] pH:=fun _ _ _ _ H Q I h=>Calls.spliced_nil ⟨[],H,I,.nil,h⟩
theorem aa (ha:PE X e te) (hr:PA X es t) (hs:starEach (e :: es) X.env = (false,eval e X.env) :: starEach es X.env:=by rfl):PA X (e :: es) (kP te t):=by
 intro pos pins s σ H Q I h
 rw [hs]
 show wpAny _ _ (spliced ((false,eval e X.env) :: backTo pos (starEach es X.env))) _ _ s
 refine Calls.spliced_cons (bX (ha pins s σ H _ I h) fun u s1 ⟨x,H1,I1,r1,q1⟩=>?_)
 exact bX (hr pos pins s1 σ H1 _ I1 q1) fun us s2 ⟨xs,H2,I2,r2,q2⟩=>⟨x :: xs,H2,I2,.cons r1 r2,q2⟩
def rf (t:TA):TE:=fun σ H Q=>t σ H fun xs H1=>xs.length≤sizeLine∧∀ p,H1 p = none→Q (.ref p) (upd H1 p (.tup xs))
def rp (t:TA):TE:=fun σ H Q=>t σ H fun xs H1=>xs.length≤sizeLine∧∀ p,H1 p = none→Q (.ref p) (upd H1 p (.lst xs))
theorem lT {x1} (h:PA X es t):PE X (.Tuple es x1 pos) (rf t):=by
 intro pins s σ H Q I hq
 refine wpAny_Tuple_spliced (bX (h pos pins s σ H _ I hq) fun us s1 ⟨xs,H1,I1,r,z,q⟩=>⟨by rw [← r.length]; exact z,?_⟩)
 have hf:H1 s1.heap.objs.size = none:=I1.bc.fresh (Nat.le_refl _)
 refine ⟨.ref s1.heap.objs.size,upd H1 s1.heap.objs.size (.tup xs),I1.laid (t':=s1.toks) (fun b u e=>Heap.get?_push_of_some _ e) (Nat.le_refl _) ?_,rfl,q _ hf⟩
 exact ⟨z,us,r,⟨_,Heap.get?_push_size _ rfl,rfl,_,rfl⟩⟩
theorem eY (h:PA X es t):PE X (.List es pos) (rp t):=by
 intro pins s σ H Q I hq
 refine wpAny_List_spliced (bX (h pos pins s σ H _ I hq) fun us s1 ⟨xs,H1,I1,r,z,q⟩=>⟨by rw [← r.length]; exact z,?_⟩)
 have hf:H1 s1.heap.objs.size = none:=I1.bc.fresh (Nat.le_refl _)
 refine ⟨.ref s1.heap.objs.size,upd H1 s1.heap.objs.size (.lst xs),I1.laid (t':=s1.toks) (fun b u e=>Heap.get?_push_of_some _ e) (Nat.le_refl _) ?_,rfl,q _ hf⟩
 exact ⟨z,us,0,r,Heap.get?_push_size _ rfl⟩
end
abbrev Sp:=List V→Hp→VK→XK→Prop
abbrev fN:=List Env→Hp→Shared→XK→Value→Shared→Prop
structure jr (P:Program) (w:World) (K:PySem.W.Frag) (mg:Str→Option Value) (base:Heap) (A:Around) (outer:List Env) (s:Shared) (H:Hp):Prop where
 frames:A.frames = some outer
 mod:Mod K mg base
 bs:∀ b o,base.get? b = some o→s.heap.get? b = some o∧H b = none
 ox:base.objs.size≤s.heap.objs.size
 dN:s.heap.FunFrames base outer
 pj:∀ b∈dz outer,H b = none
 bc:dB P w H s.heap
 bare:AllBare s.gens
def CE (outer:List Env) (P:Program) (w:World) (H:Hp) (s:Shared) (Q:VK) (u:Value) (s':Shared):Prop:=
 ∃ v H',s'.os = s.os∧AllBare s'.gens∧Un (dz outer) [] H H' s.heap s'.heap∧dB P w H' s'.heap∧RelV v u∧Q v H'
def CR (CX:fN) (outer:List Env) (P:Program) (w:World) (H:Hp) (s:Shared) (Q:VK) (E:XK) (r:Result) (s':Shared):Prop:=
 match r with
 | .ok (.ret u)=>CE outer P w H s Q u s'
 | .ok _=>False
 | .error e=>CX outer H s E e s'
structure dZ (P:Program) (w:World) (K:PySem.W.Frag) (mg:Str→Option Value) (base:Heap) (CX:fN) (k:Nat) (f:Addr) (fd:FuncData) (ps:List Str) (sp:Sp):Prop where
 len:∀ vs H Q E,sp vs H Q E→vs.length = ps.length
 run:∀ (A:Around) (outer:List Env) (s:Shared) (H:Hp) (args:Args) (us:List Value) (vs:List V) (Q:VK) (E:XK),bM k A→jr P w K mg base A outer s H→BindsTo s fd args (ps.zip us)→Vals vs us→sp vs H Q E→
  codeAny (model P w) A (.call (.ref f) args) (CR CX outer P w H s Q E) s
theorem jr.make {P:Program} {w:World} {K:PySem.W.Frag} {mg:Str→Option Value} {base:Heap} {A:Around} {outer:List Env} {s:Shared} {H:Hp} (e:jr P w K mg base A outer s H) (C:Addr) (us:List Value) (kw:List (Str×Value)) :
  jr P w K mg base (A.under (.builtin "type.__call__" ⟨.ref C :: us,kw⟩)) outer s H:=⟨by first | exact e.frames | (simpa [Around.under,Code.envs,Code.isFrame,pushEnvs] using e.frames),e.mod,e.bs,e.ox,e.dN,e.pj,e.bc,e.bare⟩
section
variable {X:Cx} {pins:List (Addr×Obj)} {σ : St} {H:Hp} {s s':Shared}
theorem Inv.qI (I:Inv X pins σ H s):jr X.prog X.w X.K X.mg X.base X.A X.stack s H:=
 ⟨I.ok.frames,I.ok.mod,I.bs,Nat.le_trans I.ok.ox I.sz,I.stack,I.gq,I.bc,I.bare⟩
theorem Inv.after {Q:VK} {u:Value} (I:Inv X pins σ H s) (h:CE X.stack X.prog X.w H s Q u s'):EP X pins σ Q u s':=by
 obtain ⟨v,H',os,bare,un,bc,r,q⟩:=h
 obtain ⟨hh,g,d,t,zX⟩:=s'
 obtain rfl:zX = s.os:=os
 exact ⟨v,H',I.call (h':=hh) (g':=g) (d':=d) (t':=t) (ch:=[]) un bc bare (fun b z=>absurd z (by simp)),r,q⟩
end
def kQ (sp:Sp) (kK:List V) (E:XK) (t:TA):TE:=fun σ H Q=>t σ H fun vs H1=>sp (vs ++ kK) H1 Q E
def w9 (C:Addr) (m:Str) (sp:Sp) (kK:List V) (E:XK) (ta:TE) (t:TA):TE:=fun σ H Q=>ta σ H fun x H1=>∃ a dx fs,x = .ref a∧H1 a = some (.ins C dx fs)∧fs.lookup m = none∧
 t σ H1 fun vs H2=>sp (x :: (vs ++ kK)) H2 Q E
def xa (C:Addr) (sp:Sp) (kK:List V) (E:XK) (t:TA):TE:=fun σ H Q=>t σ H fun vs H1=>∀ x dx,H1 x = none→H1 dx = none→dx≠x→
 sp (.ref x :: (vs ++ kK)) (upd (upd H1 dx (.own x)) x (.ins C dx [])) (fun v H2=>v = .bp∧Q (.ref x) H2) E
def Binds (K:PySem.W.Frag) (fd:FuncData) (ps:List Str) (ds:List Value):Prop:=
 ∀ (s:Shared) (us:List Value),K.In s.heap→(us ++ ds).length = ps.length→BindsTo s fd ⟨us,[]⟩ (ps.zip (us ++ ds))
theorem Binds.all {K:PySem.W.Frag} {fd:FuncData} {ps:List Str} (h:∀ us:List Value,us.length = ps.length→bindArgs fd ⟨us,[]⟩ = pure (ps.zip us)):Binds K fd ps []:=fun s us _ hl=>by
 rw [List.append_nil] at hl ⊢
 exact .of_eq (h us hl)
def Passes (CX:fN) (X:Cx) (E:XK):Prop:=∀ (pins:List (Addr×Obj)) (σ : St) (H:Hp) (s:Shared) (e:Value) (s':Shared),Inv X pins σ H s→CX X.stack H s E e s'→X.xe e s'
section
variable {X:Cx} {CX:fN} {k:Nat} {f C:Addr} {fd:FuncData} {ps:List Str} {sp:Sp} {kK:List V} {ds:List Value} {E:XK} {x m:Str} {p pos apos:Pos} {e o:Expr} {es:List Expr} {ta:TE} {t:TA}
theorem pM {pins:List (Addr×Obj)} {σ : St} {H:Hp} {s:Shared} {Q:VK} {us:List Value} {vs:List V} (F:dZ X.prog X.w X.K X.mg X.base CX k f fd ps sp) (hr:bM k X.A) (hb:Binds X.K fd ps ds) (hd:Vals kK ds) (hx:Passes CX X E)
  (I:Inv X pins σ H s) (r:Vals vs us) (h:sp (vs ++ kK) H Q E):wpAny (model X.prog X.w) X.A (call (.ref f) us) (EP X pins σ Q) X.xe s:=by
 have r2:Vals (vs ++ kK) (us ++ ds):=r.append hd
 have hl:(us ++ ds).length = ps.length:=by rw [← r2.length]; exact F.len _ _ _ _ h
 refine wpAny_call (codeAny_mono (F.run X.A X.stack s H ⟨us,[]⟩ (us ++ ds) (vs ++ kK) Q E hr I.qI (hb s us I.dy hl) r2 h) fun r s' hq=>?_)
 cases r with
 | error e=>exact hx pins σ H s e s' I hq
 | ok fl=>
  cases fl with
  | ret u=>exact I.after hq
  | next=>exact False.elim hq
  | brk=>exact False.elim hq
  | cont=>exact False.elim hq
theorem nF (F:dZ X.prog X.w X.K X.mg X.base CX k f fd ps sp) (hr:bM k X.A) (hg:Gl X x) (hm:X.mg x = some (.ref f)) (hk:PySem.W.keepIn X.K (.ref f) = true) (hb:Binds X.K fd ps ds) (hd:Vals kK ds) (hx:Passes CX X E)
  (ha:PA X (e :: es) t) (gJ:(x == ("__debug__" : Str)) = false:=by decide) (he:starEach (e :: es) X.env = (false,eval e X.env) :: starEach es X.env:=by rfl) (fX:(backTo pos (starEach es X.env)).any (·.1) = false:=by rfl) :
  PE X (.Call (.Name x p) (e :: es) [] pos) (kQ sp kK E t):=by
 intro pins s σ H Q I h
 refine wpAny_Call_Name_kw (cB I hg hm ?_ gJ)
 refine PySem.W.callWith_K (h₀:=X.base) I.ok.mod.qh hk (bX (ha pos pins s σ H _ I h) fun us s1 ⟨vs,H1,I1,r,q⟩=>⟨I1.dy,?_⟩) he fX
 exact pM F hr hb hd hx I1 r q
structure Mk (K:PySem.W.Frag) (C f:Addr):Prop where
 makes:PySem.W.makesIn K C = true
 init:PySem.W.findIn K (.ref C) "__init__" = some (some (.ref f))
 fn:PySem.W.isFn K (.ref f) = true
 kp:PySem.W.keepIn K (.ref C) = true
end
def PK (X:Cx) (xE:List Keyword) (t:TA):Prop:=
 ∀ (pos:Pos) (pins:List (Addr×Obj)) (s:Shared) (σ : St) (H:Hp) (Q:List V→Hp→Prop),Inv X pins σ H s→t σ H Q→wpAny (model X.prog X.w) X.A (evalAll ((backToKw pos (keywordEach xE X.env)).map (·.2))) (AP X pins σ Q) X.xe s
section
variable {X:Cx} {CX:fN} {k:Nat} {f C:Addr} {fd:FuncData} {ps ks:List Str} {sp:Sp} {E:XK} {x m:Str} {p pos apos AF:Pos} {e o:Expr} {es:List Expr} {xE:List Keyword} {te ta:TE} {t tk:TA} {nm:Option Str}
structure wI (K:PySem.W.Frag) (fd:FuncData) (ps ks:List Str) (g:List Value→List Value→List Value) (gV:List V→List V→List V):Prop where
 to:∀ (s:Shared) (us ws:List Value),K.In s.heap→(g us ws).length = ps.length→BindsTo s fd ⟨us,ks.zip ws⟩ (ps.zip (g us ws))
 rel:∀ {vs:List V} {us:List Value} {zs:List V} {ws:List Value},Vals vs us→Vals zs ws→Vals (gV vs zs) (g us ws)
def uL (sp:Sp) (gV:List V→List V→List V) (E:XK) (t tk:TA):TE:=fun σ H Q=>t σ H fun vs H1=>tk σ H1 fun zs H2=>sp (gV vs zs) H2 Q E
variable {g:List Value→List Value→List Value} {gV:List V→List V→List V}
end
structure aM (N P:List Str) (sc:Scope):Prop where
 kind:sc.kind = .function
 co:sc.isCoroutine = false
 gen:sc.isGenerator = false
 nd:N.Nodup
 pre:N.take P.length = P
 par:∀ x∈P,sc.names.lookup x = some .local∨sc.names.lookup x = some .cell
 p9:∀ y∈sc.names,y.2≠.free
theorem gh {kindOf:Str→Option NameKind} {x:Str}:∀ {binds:List (Str×Value)} {m:Str→Option Value},(∀ v,(x,v)∉binds)→bindL kindOf binds m x = m x
 | [],_,_=>rfl
 | (n,v) :: r,m,h=>by
  unfold bindL
  rw [gh fun w hw=>h w (List.mem_cons_of_mem _ hw)]
  split
  ·have:x≠n:=by rintro rfl; exact h v List.mem_cons_self
   simp [this]
  ·rfl
theorem gj {kindOf:Str→Option NameKind} {x:Str}:∀ {binds:List (Str×Value)} {m:Str→Option Value},(∀ v,(x,v)∉binds)→bindC kindOf binds m x = m x
 | [],_,_=>rfl
 | (n,v) :: r,m,h=>by
  unfold bindC
  rw [gj fun w hw=>h w (List.mem_cons_of_mem _ hw)]
  split
  ·rfl
  ·have:x≠n:=by rintro rfl; exact h v List.mem_cons_self
   simp [this]
theorem gi {kindOf:Str→Option NameKind} {x:Str} {v:Value}:∀ {P:List Str} {vs:List Value} {i:Nat} {m:Str→Option Value},P.Nodup→P[i]? = some x→vs[i]? = some v→kindOf x = some .local→
  bindL kindOf (P.zip vs) m x = some v
 | [],_,_,_,_,h,_,_=>by simp at h
 | _ :: _,[],_,_,_,_,h,_=>by simp at h
 | p :: P,w :: vs,0,m,nd,h1,h2,hk=>by
  simp at h1 h2; subst h1; subst h2
  show bindL kindOf ((p,w) :: P.zip vs) m p = _
  unfold bindL
  rw [gh fun v hv=>(List.nodup_cons.mp nd).1 (List.of_mem_zip hv).1,if_pos hk]
  simp
 | p :: P,w :: vs,i + 1,m,nd,h1,h2,hk=>by
  show bindL kindOf ((p,w) :: P.zip vs) m x = _
  unfold bindL
  exact gi (i:=i) (List.nodup_cons.mp nd).2 (by simpa using h1) (by simpa using h2) hk
theorem gk {kindOf:Str→Option NameKind} {x:Str} {v:Value}:∀ {P:List Str} {vs:List Value} {i:Nat} {m:Str→Option Value},P.Nodup→P[i]? = some x→vs[i]? = some v→kindOf x≠some .local→
  bindC kindOf (P.zip vs) m x = some v
 | [],_,_,_,_,h,_,_=>by simp at h
 | _ :: _,[],_,_,_,_,h,_=>by simp at h
 | p :: P,w :: vs,0,m,nd,h1,h2,hk=>by
  simp at h1 h2; subst h1; subst h2
  show bindC kindOf ((p,w) :: P.zip vs) m p = _
  unfold bindC
  rw [gj fun v hv=>(List.nodup_cons.mp nd).1 (List.of_mem_zip hv).1,if_neg hk]
  simp
 | p :: P,w :: vs,i + 1,m,nd,h1,h2,hk=>by
  show bindC kindOf ((p,w) :: P.zip vs) m x = _
  unfold bindC
  exact gk (i:=i) (List.nodup_cons.mp nd).2 (by simpa using h1) (by simpa using h2) hk
def start (N:List Str) (vs:List V):St:=vs.map some ++ List.replicate (N.length - vs.length) none
def dA (CX:fN) (P:Program) (w:World) (K:PySem.W.Frag) (mg:Str→Option Value) (base:Heap) (N:List Str) (qual:Str) (scope:Scope) (f:Addr) (cd:Value) (A:Around) (outer:List Env) (s:Shared) (H:Hp) (E:XK):Cx where
 prog:=P
 w:=w
 K:=K
 mg:=mg
 base:=base
 A:=A.deeper (envOfC qual scope s.heap.objs.size f cd)
 N:=N
 s₀:=s
 H₀:=H
 env:=envOfC qual scope s.heap.objs.size f cd
 outer:=outer
 stack:=envOfC qual scope s.heap.objs.size f cd :: outer
 ex:=[]
 calm:=true
 fn:=fun _=>true
 pn:=[]
 xe:=fun e s'=>wpAny (model P w) (A.deeper (envOfC qual scope s.heap.objs.size f cd)) (leaving (envOfC qual scope s.heap.objs.size f cd) e) (fun _ rO=>CX outer H s E e rO) (fun e' rO=>CX outer H s E e' rO) s'
theorem iB {sc:Scope} {n:Nat} {x:Str} (h:sc.names.lookup x = some .cell):∃ c,(cellsFrom n sc.names []).lookup x = some c:=by
 have q:=PySem.W.cellsFrom_some sc.names n [] (.inl h)
 exact Option.isSome_iff_exists.mp q
theorem kc {CX:fN} {P:Program} {w:World} {K:PySem.W.Frag} {mg:Str→Option Value} {base:Heap} {N ps:List Str} {qual:Str} {scope:Scope} {f:Addr} {cd:Value} {A:Around} {outer:List Env} {s s1:Shared} {H:Hp} {E:XK} {us:List Value} {vs:List V}
  (S:aM N ps scope) (hd:A.handled = none) (e0:jr P w K mg base A outer s H) (hl:vs.length = ps.length) (r:Vals vs us)
  (x:InCallC s s.heap.objs.size (bindL (envOfC qual scope s.heap.objs.size f cd).kindOf (ps.zip us) fun _=>none) (cellsFrom (s.heap.objs.size + 1) scope.names []) (bindC (envOfC qual scope s.heap.objs.size f cd).kindOf (ps.zip us) fun _=>none) s1) :
  Inv (dA CX P w K mg base N qual scope f cd A outer s H E) [] (start N vs) H s1:=by
 have fX:ps.length≤N.length:=by have:=congrArg List.length S.pre; rw [List.length_take] at this; omega
 obtain ⟨h1,tk,rfl,hk⟩:=x.done
 have r9:∀ b:Addr,b∉(dA CX P w K mg base N qual scope f cd A outer s H E).ex:=fun b z=>absurd (show b∈([]:List Addr) from z) (by simp)
 refine ⟨⟨e0.mod,S.kind,rfl,rfl,Nat.le_refl _,fun y z c h1 h2=>?_,fun y hy=>?_,fun y c _ h=>?_,fun _=>hd,Around.frames_deeper e0.frames,.inr ⟨rfl,rfl⟩,fun b z=>absurd z (r9 b),e0.bs,e0.ox,fun b _ _=>r9 b,fun b z=>absurd z (r9 b),e0.dN,e0.pj⟩,
  rfl,e0.bare,Un.kept hk,⟨_,x.toInCall.ns,fun i y v h1 h2 h3=>?_⟩,fun y c h=>⟨_,x.cell y c h⟩,e0.bc.fresh (Nat.le_refl _),fun y c h=>?_,fun p hp=>absurd (show p∈([]:List (Addr×Obj)) from hp) (by simp),e0.bc.kept hk,?_⟩
 ·exact name_of_addr x.apart (PySem.mem_of_lookup h1) (PySem.mem_of_lookup h2)
 ·have hy:scope.names.lookup y = some .cell∨scope.names.lookup y = some .free:=hy
  rcases hy with hy | hy
  ·exact iB hy
  ·exact absurd rfl (S.p9 _ (PySem.mem_of_lookup hy))
 ·exact Nat.le_of_lt (x.above y c (PySem.mem_of_lookup h))
 ·have hi:i < vs.length:=by
   unfold start at h2
   by_cases hi:i < vs.length
   ·exact hi
   ·rw [List.getElem?_append_right (by simpa using hi)] at h2
    rw [List.getElem?_replicate] at h2
    split at h2 <;> cases h2
  have ha:vs[i]? = some v:=by
   unfold start at h2
   rw [List.getElem?_append_left (by simpa using hi),List.getElem?_map] at h2
   cases e:vs[i]? with
   | none=>rw [e] at h2; cases h2
   | some a=>rw [e] at h2; cases h2; rfl
  obtain ⟨u,hu,rv⟩:=r.get ha
  have hp:ps[i]? = some y:=by
   rw [← S.pre,List.getElem?_take_of_lt (by omega)]; exact h1
  have xC:ps.Nodup:=by rw [← S.pre]; exact S.nd.sublist (List.take_sublist _ _)
  refine ⟨u,rv,?_⟩
  rcases S.par y (List.mem_of_getElem? hp) with k | k
  ·exact .inl ⟨k,gi xC hp hu k⟩
  ·obtain ⟨c,e⟩:=iB (n:=s.heap.objs.size + 1) k
   refine .inr ⟨.inl k,c,e,?_⟩
   have q:=x.cell y c e
   rw [gk xC hp hu (by show scope.names.lookup y≠_; rw [k]; decide)] at q
   exact q
 ·exact e0.bc.fresh (Nat.le_of_lt (x.above y c (PySem.mem_of_lookup h)))
 ·unfold start
  show _ = N.length
  rw [List.length_append,List.length_map,List.length_replicate]
  omega
theorem jJ {CX:fN} {P:Program} {w:World} {K:PySem.W.Frag} {mg:Str→Option Value} {base:Heap} {k:Nat} {f:Addr} {name qual:Str} {params:Arguments} {body:List Stmt} {scope:Scope} {dV kV doc pm bV ct oc:Value} {an od:Option Addr}
  {jE:Array (Option Value)} {N ps:List Str} {sp:Sp} (lk:K.lookup f = some ⟨oc,od,.func (PySem.W.fnOf name qual params body scope dV kV doc pm an bV ct),jE⟩) (iq:PySem.W.codeIn K bV qual = true) (S:aM N ps scope)
  (len:∀ vs H Q E,sp vs H Q E→vs.length = ps.length)
  (dM:∀ (A:Around) (outer:List Env) (s:Shared) (H:Hp) (vs:List V) (Q:VK) (E:XK),bM k (A.deeper (envOfC qual scope s.heap.objs.size f bV))→sp vs H Q E→
   ∃ t,iH (dA CX P w K mg base N qual scope f bV A outer s H E) body t∧t { nx:=fun _ H'=>Q .bp H',rt:=Q } (start N vs) H) :
  dZ P w K mg base CX (k + 1) f (PySem.W.fnOf name qual params body scope dV kV doc pm an bV ct) ps sp:=by
 refine ⟨len,fun A outer s H args us vs Q E hr e0 hb r jH=>?_⟩
 have hl:=len _ _ _ _ jH
 have KX:K.In s.heap:=e0.mod.qh.keeps fun b o e=>(e0.bs b o e).1
 have lim:s.heap.NoLimit:=e0.mod.nolimit.keeps fun b o e=>(e0.bs b o e).1
 have sF:∀ y∈ps.zip us,scope.names.lookup y.1 = some .local∨(scope.names.lookup y.1 = some .cell∧((cellsFrom (s.heap.objs.size + 1) scope.names []).lookup y.1).isSome = true):=fun ⟨n,v⟩ hy=>by
  rcases S.par n (List.of_mem_zip hy).1 with q | q
  ·exact .inl q
  ·exact .inr ⟨q,PySem.W.cellsFrom_some _ _ _ (.inl q)⟩
 refine codeAny_call_function hr.depth (KX _ _ lk) rfl S.co S.gen rfl (PySem.W.codeRec_of KX iq) (hb _ _ _ _ ?_)
 refine wpAny_newFunctionEnv_cells S.kind sF fun env he s1 x=>?_
 subst he
 refine ⟨lim.keeps x.toInCall.keep,codeAny_func ?_⟩
 obtain ⟨t,ht,hq⟩:=dM A outer s H vs Q E (hr.deeper _) jH
 have I:Inv (dA CX P w K mg base N qual scope f bV A outer s H E) [] (start N vs) H s1:=kc S hr.hd e0 hl r x
 refine wpAny_mono (ht [] s1 (start N vs) H _ I hq) (fun fl s' hs=>?_) fun e s' hs=>hs
 have fin:∀ {σ':St} {H':Hp} {v:V} {u:Value},Inv (dA CX P w K mg base N qual scope f bV A outer s H E) [] σ' H' s'→RelV v u→Q v H'→CE outer P w H s Q u s':=
  fun {σ' H' v u} J rv q=>⟨v,H',J.os,J.bare,J.base,J.bc,rv,q⟩
 cases fl with
 | ret u=>
  obtain ⟨v,σ',H',J,rv,q⟩:=hs
  exact fin J rv q
 | next=>
  obtain ⟨σ',H',J,q⟩:=hs
  exact fin (v:=V.bp) (u:=Value.none) J rfl q
 | brk=>
  obtain ⟨_,_,_,q⟩:=hs
  exact False.elim q
 | cont=>
  obtain ⟨_,_,_,q⟩:=hs
  exact False.elim q
end L2
namespace L2
open PySem PySem.Spec PyProof.Rows
section
variable {X:Cx} {x:Str} {p pos:Pos} {e:Expr} {es:List Expr} {t:TA} {id T:String} {r:List V→Hp→VK→Prop}
def tI (r:List V→Hp→VK→Prop) (t:TA):TE:=fun σ H Q=>t σ H fun vs H1=>r vs H1 Q
theorem au (hc:cU X (.builtin id) r) (hg:Gl X x) (hm:X.mg x = none) (hv:bootBuiltins x = some (.builtin id)) (ha:PA X (e :: es) t) (hn:x≠ "__name__":=by decide) (gJ:(x == ("__debug__" : Str)) = false:=by decide)
  (he:starEach (e :: es) X.env = (false,eval e X.env) :: starEach es X.env:=by rfl) (fX:(backTo pos (starEach es X.env)).any (·.1) = false:=by rfl):PE X (.Call (.Name x p) (e :: es) [] pos) (tI r t):=by
 intro pins s σ H Q I h
 refine wpAny_Call_Name_kw (gE I hg hm hv ?_ hn gJ)
 exact PyProof.Rows.callWith_builtin1 (bX (ha pos pins s σ H _ I h) fun us s1 ⟨vs,H1,I1,r1,q1⟩=>hc pins s1 σ H1 vs us Q I1 r1 q1) he fX
theorem d6 (hc:cU X (.type T) r) (hg:Gl X x) (hm:X.mg x = none) (hv:bootBuiltins x = some (.type T)) (ha:PA X (e :: es) t) (hn:x≠ "__name__":=by decide) (gJ:(x == ("__debug__" : Str)) = false:=by decide)
  (he:starEach (e :: es) X.env = (false,eval e X.env) :: starEach es X.env:=by rfl) (fX:(backTo pos (starEach es X.env)).any (·.1) = false:=by rfl):PE X (.Call (.Name x p) (e :: es) [] pos) (tI r t):=by
 intro pins s σ H Q I h
 refine wpAny_Call_Name_kw (gE I hg hm hv ?_ hn gJ)
 exact PyProof.Rows.callWith_type1 (bX (ha pos pins s σ H _ I h) fun us s1 ⟨vs,H1,I1,r1,q1⟩=>hc pins s1 σ H1 vs us Q I1 r1 q1) he fX
end
end L2
namespace HT
open PySem PyProof.Rows
def lexLt:List Int→List Int→Bool
 | [],[]=>false
 | [],_ :: _=>true
 | _ :: _,[]=>false
 | x :: xs,y :: ys=>if x = y then lexLt xs ys else decide (x < y)
section
variable {prog:Program} {w:World} {A:Around} {E:Value→Shared→Prop} {s:Shared}
def rM (n d:Nat):Option Int→Nat
 | none=>d
 | some v=>if v < 0 then (v + (n:Int)).toNat else min v.toNat n
end
end HT
namespace L2
open PySem PySem.Spec PyProof.Rows
abbrev TO:=St→Hp→(Option Int→Hp→Prop)→Prop
def PO (X:Cx) (e:Option Expr) (t:TO):Prop:=
 ∀ (pins:List (Addr×Obj)) (s:Shared) (σ : St) (H:Hp) (Q:Option Int→Hp→Prop),Inv X pins σ H s→t σ H Q→
  wpAny (model X.prog X.w) X.A (evalPart e X.env) (fun u s'=>∃ o H',Inv X pins σ H' s'∧IsPart u o∧Q o H') X.xe s
def tG:TO:=fun _ H Q=>Q none H
def wY (t:TE):TO:=fun σ H Q=>t σ H fun x H1=>∃ i,x = .int i∧Q (some i) H1
theorem intsAre_of {ns:List Int}:∀ {us:List Value},Vals (ns.map V.int) us→IntsAre us ns:=by
 induction ns with
 | nil=>intro us r; rw [List.map_nil] at r; cases r; exact .nil
 | cons n ns ih=>
  intro us r
  rw [List.map_cons] at r
  cases r with
  | cons r1 r2=>
   obtain ⟨t,e⟩:=r1
   subst e
   exact .cons n t (ih r2)
section
variable {X:Cx} {e:Expr} {te:TE} {lo hi:Option Expr} {tl th:TO} {pos p2:Pos}
def DE (X:Cx) (r:V→Option Int→Option Int→Hp→VK→Prop):Prop:=
 ∀ (pins:List (Addr×Obj)) (s:Shared) (σ : St) (H:Hp) (x:V) (v vl vu:Value) (lo hi:Option Int) (sl:Addr) (Q:VK),Inv X pins σ H s→RelV x v→s.heap.IsSliceOf sl vl vu .none→IsPart vl lo→IsPart vu hi→r x lo hi H Q→
  ∃ T id,typeLookup (.type T) "__getitem__" = pure (some (.builtin id))∧s.TypeIs v T∧wpAny (model X.prog X.w) X.A (getItem v (.ref sl)) (EP X pins σ Q) X.xe s
def CQ (r:V→Option Int→Option Int→Hp→VK→Prop) (te:TE) (tl th:TO):TE:=fun σ H Q=>te σ H fun x H1=>tl σ H1 fun l H2=>th σ H2 fun u H3=>r x l u H3 Q
def sS (xs:List V) (lo hi:Option Int):List V:=(xs.drop (HT.rM xs.length 0 lo)).take (HT.rM xs.length xs.length hi - HT.rM xs.length 0 lo)
def zq (K:PySem.W.Frag):V→Option Int→Option Int→Hp→VK→Prop:=fun x lo hi H Q=>∃ a xs,x = .ref a∧SqT K H a xs∧
 ¬ (HT.rM xs.length 0 lo = 0∧HT.rM xs.length xs.length hi = xs.length)∧∀ p,H p = none→Q (.ref p) (upd H p (.tup (sS xs lo hi)))
def zw (K:PySem.W.Frag):R2:=fun x y H Q=>∃ a b ns ms,x = .ref a∧y = .ref b∧SqT K H a (ns.map V.int)∧SqT K H b (ms.map V.int)∧Q (.bl (HT.lexLt ns ms)) H
def xt (K:PySem.W.Frag):R2:=fun x y H Q=>∃ a b xs ys,x = .ref a∧y = .ref b∧SqT K H a xs∧SqT K H b ys∧xs≠[]∧xs.length + ys.length≤sizeLine∧
 (ys = []→Q (.ref a) H)∧(ys≠[]→∀ p,H p = none→Q (.ref p) (upd H p (.tup (xs ++ ys))))
end
end L2
namespace L2
open PySem PySem.Spec PyProof.Rows
def qp (n:Nat) (i:Int):Option Nat:=if 0≤i then (if i < n then some i.toNat else none) else if -(n:Int)≤i then some (i + n).toNat else none
def nq {α : Type} (xs:List α) (i:Int):Option α:=(qp xs.length i).bind fun j=>xs[j]?
theorem nM {n:Nat} {i:Int} {j:Nat} (h:qp n i = some j):seqIndex? i n = some j∧j < n∧-(n:Int)≤i∧i < n:=by
 unfold qp at h
 by_cases h0:0≤i
 ·rw [if_pos h0] at h
  by_cases h1:i < n
  ·rw [if_pos h1] at h
   have e:i.toNat = j:=Option.some.inj h
   exact ⟨by rw [seqIndex_of h0 h1,e],by omega,by omega,h1⟩
  ·rw [if_neg h1] at h; cases h
 ·rw [if_neg h0] at h
  by_cases h1 : -(n:Int)≤i
  ·rw [if_pos h1] at h
   have e:(i + n).toNat = j:=Option.some.inj h
   exact ⟨by rw [seqIndex_neg (by omega) h1,e],by omega,h1,by omega⟩
  ·rw [if_neg h1] at h; cases h
theorem oA {α : Type} {xs:List α} {i:Int} {v : α} (h:nq xs i = some v):∃ j,seqIndex? i xs.length = some j∧xs[j]? = some v∧j < xs.length∧-(xs.length:Int)≤i∧i < xs.length:=by
 unfold nq at h
 cases e:qp xs.length i with
 | none=>rw [e] at h; cases h
 | some j=>
  rw [e] at h
  obtain ⟨h1,h2,h3,h4⟩:=nM e
  exact ⟨j,h1,h,h2,h3,h4⟩
theorem de {α : Type} {xs:List α} {j:Nat} {v : α} (h:xs[j]? = some v):nq xs (j:Int) = some v:=by
 have hj:j < xs.length:=(List.getElem?_eq_some_iff.mp h).1
 have e:qp xs.length (j:Int) = some j:=by
  unfold qp
  rw [if_pos (by omega),if_pos (by omega)]; simp
 unfold nq; rw [e]; exact h
def oF (b:Expr):Prop:=∀ o i,subscripted b false o i = operate [o,i] (getItem o i)
def yw (X:Cx) (r:R2):Prop:=
 ∀ (value slice:Expr) (pins:List (Addr×Obj)) (s:Shared) (σ : St) (H:Hp) (x y:V) (v u:Value) (Q:VK),Inv X pins σ H s→RelV x v→RelV y u→r x y H Q→
  subscripted slice false v u = operate [v,u] (getItem v u)→wpAny (model X.prog X.w) X.A (subscriptTail value slice v u) (EP X pins σ Q) X.xe s
def yu (X:Cx) (id:String) (r:V→List V→Hp→VK→Prop):Prop:=
 ∀ (pins:List (Addr×Obj)) (s:Shared) (σ : St) (H:Hp) (x:V) (xs:List V) (v:Value) (us:List Value) (Q:VK),Inv X pins σ H s→RelV x v→Vals xs us→r x xs H Q→
  wpAny (model X.prog X.w) X.A (call (.builtin id) (v :: us)) (EP X pins σ Q) X.xe s
section
variable {X:Cx} {a b:Expr} {ta tb:TE} {pos:Pos}
theorem bY {r:R2} (hr:yw X r) (ha:PE X a ta) (hb:PE X b tb) (hs:oF b):PE X (.Subscript a b pos) (rj r ta tb):=by
 intro pins s σ H Q I h
 exact Subscript_ (qN ha hb I h fun v u s2 x y H2 I2 rx ry q=>hr a b pins s2 σ H2 x y v u Q I2 rx ry q (hs _ _))
def pV (K:PySem.W.Frag):R2:=fun x y H Q=>∃ p xs i v,x = .ref p∧y = .int i∧aD K H p xs∧nq xs i = some v∧Q v H
def uW (K:PySem.W.Frag):R2:=fun x y H Q=>∃ p xs i v,x = .ref p∧y = .int i∧SqT K H p xs∧nq xs i = some v∧Q v H
def uX:R2:=fun x y H Q=>∃ z i c,x = .str z∧y = .int i∧z.length≤sizeLine∧nq z.cps.toList i = some c∧Q (.str ⟨#[c]⟩) H
theorem bb:yw X (pV X.K):=by
 intro value slice pins s σ H x y v u Q I rx ry h hs
 obtain ⟨p,xs,i,z,rfl,rfl,hq,he,q⟩:=h
 cases rx
 obtain ⟨t,rfl⟩:=ry
 obtain ⟨aH,r,pl,hz⟩:=I.list hq
 obtain ⟨j,h1,h2,h3,h4,h5⟩:=oA he
 obtain ⟨w,ew,rP⟩:=r.get h2
 have hl:=r.length
 have hn:=i8
 have fin:EP X pins σ Q w s:=⟨z,H,I,rP,q⟩
 by_cases h0:0≤i
 ·have hj:i.toNat = j:=by
   rw [seqIndex_of h0 h5] at h1
   exact Option.some.inj h1
  exact item_listR pl.isList h0 (by omega) (by rw [hj]; simpa using ew) fin hs
 ·have hj:(i + (aH.toArray.size:Int)).toNat = j:=by
   rw [seqIndex_neg (by omega) h4] at h1
   rw [List.size_toArray,← hl]
   exact Option.some.inj h1
  exact subscriptTail_builtinR (x:=w) pl.isList.typeIs slot_list_getitem.lookup
   (wpAny_getItem_list_neg (Q:=fun r s'=>r = w∧EP X pins σ Q r s') pl.isList (by omega) (by rw [List.size_toArray] <;> omega) (by omega) (by rw [hj]; simpa using ew) ⟨rfl,fin⟩) hs
def C0 (K:PySem.W.Frag):R2:=fun x y H Q=>pV K x y H Q∨uW K x y H Q∨uX x y H Q
def xn:V→V→V→Hp→(Hp→Prop)→Prop:=fun o i v H Q=>∃ p xs k j,o = .ref p∧i = .int k∧H p = some (.lst xs)∧qp xs.length k = some j∧Q (upd H p (.lst (xs.set j v)))
def zr (K:PySem.W.Frag):V→Option Int→Option Int→Hp→VK→Prop:=fun x lo hi H Q=>∃ a xs,x = .ref a∧aD K H a xs∧∀ p,H p = none→Q (.ref p) (upd H p (.lst (sS xs lo hi)))
def dO:V→Bool
 | .bp=>true
 | .bl _=>true
 | .int _=>true
 | .str _=>true
 | _=>false
def oh:V→V→Bool
 | .bp,.bp=>true
 | .bl a,.bl b=>a == b
 | .bl a,.int b=>(if a then 1 else 0) == b
 | .int a,.bl b=>a == (if b then 1 else 0)
 | .int a,.int b=>a == b
 | .str a,.str b=>a == b
 | _,_=>false
theorem qH {A:Around} {s:Shared} {y x:V} {u v:Value} (ry:RelV y u) (rx:RelV x v) (fy:dO y = true) (fx:dO x = true):SeqAt.EqAt A s u v (oh y x):=by
 cases y with
 | bp=>
  cases ry
  cases x with
  | bp=>cases rx; exact SeqAt.EqAt.same _
  | bl b=>cases rx; exact SeqAt.EqAt.none_bool b
  | int b=>obtain ⟨t,rfl⟩:=rx; exact SeqAt.EqAt.none_int b t
  | str b=>obtain ⟨t,rfl⟩:=rx; exact SeqAt.EqAt.none_str b t
  | _=>exact absurd (show false = true from fx) Bool.false_ne_true
 | bl a=>
  cases ry
  cases x with
  | bp=>cases rx; exact SeqAt.EqAt.bool_none a
  | bl b=>cases rx; exact SeqAt.EqAt.bool_bool a b
  | int b=>obtain ⟨t,rfl⟩:=rx; exact SeqAt.EqAt.bool_int a b t
  | str b=>obtain ⟨t,rfl⟩:=rx; exact SeqAt.EqAt.bool_str a b t
  | _=>exact absurd (show false = true from fx) Bool.false_ne_true
 | int a=>
  obtain ⟨t',rfl⟩:=ry
  cases x with
  | bp=>cases rx; exact SeqAt.EqAt.int_none a t'
  | bl b=>cases rx; exact SeqAt.EqAt.int_bool a t' b
  | int b=>obtain ⟨t,rfl⟩:=rx; exact SeqAt.EqAt.int_int a t' b t
  | str b=>obtain ⟨t,rfl⟩:=rx; exact SeqAt.EqAt.int_str a t' b t
  | _=>exact absurd (show false = true from fx) Bool.false_ne_true
 | str a=>
  obtain ⟨t',rfl⟩:=ry
  cases x with
  | bp=>cases rx; exact SeqAt.EqAt.str_none a t'
  | bl b=>cases rx; exact SeqAt.EqAt.str_bool a t' b
  | int b=>obtain ⟨t,rfl⟩:=rx; exact SeqAt.EqAt.str_int a t' b t
  | str b=>obtain ⟨t,rfl⟩:=rx; exact SeqAt.EqAt.str_str a t' b t
  | _=>exact absurd (show false = true from fx) Bool.false_ne_true
 | _=>exact absurd (show false = true from fy) Bool.false_ne_true
def jh (x:V) (u:Value):Bool:=match u with
 | .none=>oh .bp x
 | .bool b=>oh (.bl b) x
 | .int i _=>oh (.int i) x
 | .str z _=>oh (.str z) x
 | _=>false
theorem mK {x y:V} {u:Value} (r:RelV y u) (f:dO y = true):jh x u = oh y x:=by
 cases y with
 | bp=>cases r; rfl
 | bl b=>cases r; rfl
 | int i=>obtain ⟨t,rfl⟩:=r; rfl
 | str z=>obtain ⟨t,rfl⟩:=r; rfl
 | _=>exact absurd (show false = true from f) Bool.false_ne_true
theorem dS {x:V}:∀ {xs:List V} {us:List Value},Vals xs us→xs.all dO = true→us.any (jh x) = xs.any fun y=>oh y x
 | _,_,.nil,_=>rfl
 | y :: xs,u :: us,.cons r t,f=>by
  rw [List.all_cons,Bool.and_eq_true] at f
  rw [List.any_cons,List.any_cons,mK r f.1,dS t f.2]
theorem cO {A:Around} {s:Shared} {x:V} {v:Value} (rx:RelV x v) (fx:dO x = true):∀ {xs:List V} {us:List Value},Vals xs us→xs.all dO = true→∀ u∈us,SeqAt.EqAt A s u v (jh x u)
 | _,_,.nil,_=>fun u hu=>by cases hu
 | y :: xs,u :: us,.cons r t,f=>fun u' hu=>by
  rw [List.all_cons,Bool.and_eq_true] at f
  rcases List.mem_cons.mp hu with rfl | hu
  ·rw [mK r f.1]; exact qH r rx f.1 fx
  ·exact cO rx fx t f.2 u' hu
def tZ (x:V) (xs:List V):Bool:=xs.any fun y=>oh y x
def uZ (K:PySem.W.Frag) (neg:Bool):R2:=fun x y H Q=>∃ p xs,y = .ref p∧(aD K H p xs∨SqT K H p xs)∧dO x = true∧xs.all dO = true∧Q (.bl (if neg then !tZ x xs else tZ x xs)) H
theorem j3:fL X (compareOp .In) (uZ X.K false):=by
 intro pins s σ H x y v u Q I rx ry h
 obtain ⟨p,xs,rfl,hq,fx,fs,q⟩:=h
 cases ry
 rcases hq with hq | hq
 ·obtain ⟨aH,r,pl,hz⟩:=I.list hq
  refine SeqAt.in_listAt (jh x) pl.isList (fun w hw=>cO rx fx r fs w (by simpa using hw)) ⟨.bl _,H,I,rfl,?_⟩
  rw [show aH.toArray.any (jh x) = aH.any (jh x) by simp,dS r fs]
  exact q
 ·obtain ⟨aH,r,pl,hz⟩:=I.tuple hq
  refine SeqAt.in_tupleAt (jh x) pl (fun w hw=>cO rx fx r fs w (by simpa using hw)) ⟨.bl _,H,I,rfl,?_⟩
  rw [show aH.toArray.any (jh x) = aH.any (jh x) by simp,dS r fs]
  exact q
theorem dG:fL X (compareOp .NotIn) (uZ X.K true):=by
 intro pins s σ H x y v u Q I rx ry h
 obtain ⟨p,xs,rfl,hq,fx,fs,q⟩:=h
 cases ry
 rcases hq with hq | hq
 ·obtain ⟨aH,r,pl,hz⟩:=I.list hq
  refine SeqAt.notIn_listAt (jh x) pl.isList (fun w hw=>cO rx fx r fs w (by simpa using hw)) ⟨.bl _,H,I,rfl,?_⟩
  rw [show aH.toArray.any (jh x) = aH.any (jh x) by simp,dS r fs]
  exact q
 ·obtain ⟨aH,r,pl,hz⟩:=I.tuple hq
  refine SeqAt.notIn_tupleAt (jh x) pl (fun w hw=>cO rx fx r fs w (by simpa using hw)) ⟨.bl _,H,I,rfl,?_⟩
  rw [show aH.toArray.any (jh x) = aH.any (jh x) by simp,dS r fs]
  exact q
theorem gR:cU X (.type "list") (fun xs H Q=>∃ p ys,xs = [.ref p]∧(aD X.K H p ys∨SqT X.K H p ys)∧∀ l,H l = none→Q (.ref l) (upd H l (.lst ys))):=by
 intro pins s σ H xs us Q I r h
 obtain ⟨p,ys,rfl,hq,q⟩:=h
 obtain ⟨u,rfl,rx⟩:=vals1 r
 cases rx
 have fin:∀ (aH:List Value),Vals ys aH→ys.length≤sizeLine→∀ (h':Heap) (c':Nat),(∀ b o',s.heap.get? b = some o'→h'.get? b = some o')→
   h'.get? s.heap.objs.size = some { cls:=.type "list",dict:=none,data:=.seq aH.toArray c',slots:=#[] }→EP X pins σ Q (.ref s.heap.objs.size) { s with heap:=h' }:=fun aH r' hz h' c' kp e=>
  ⟨.ref s.heap.objs.size,_,I.laid (t':=s.toks) kp (Nat.le_refl _) (show aS X.prog X.w _ h' _ (.lst ys) from ⟨hz,aH,c',r',e⟩),rfl,q _ (I.bc.fresh (Nat.le_refl _))⟩
 rcases hq with hq | hq
 ·obtain ⟨aH,r',pl,hz⟩:=I.list hq
  have hlen:=r'.length
  obtain ⟨o,ho,hc,n,hd⟩:=pl.isList
  exact call_list_seq p (.inl rfl) ho hc hd (fun h' c' kp e=>fin aH r' hz h' c' kp e) (by simp only [List.size_toArray] <;> omega)
 ·obtain ⟨aH,r',pl,hz⟩:=I.tuple hq
  have hlen:=r'.length
  obtain ⟨o,ho,hc,n,hd⟩:=pl
  exact call_list_seq p (.inr rfl) ho hc hd (fun h' c' kp e=>fin aH r' hz h' c' kp e) (by simp only [List.size_toArray] <;> omega)
def tE (K:PySem.W.Frag) (T:String) (x:V) (H:Hp):Prop:=match x with
 | .str _=>T = "str"
 | .int _=>T = "int"
 | .ref p=>(T = "list"∧∃ xs,aD K H p xs)∨(T = "tuple"∧∃ o,K.lookup p = some o∧o.cls = .type "tuple"∧o.dict = none)∨
   (T = "dict"∧((∃ aI,H p = some (.dK aI))∨∃ aI,H p = some (.dT aI)))∨(T = "set"∧∃ S n,H p = some (.set S n))
 | _=>False
theorem pF {pins:List (Addr×Obj)} {σ : St} {H:Hp} {s:Shared} {T:String} {x:V} {v:Value} (I:Inv X pins σ H s) (r:RelV x v) (ty:tE X.K T x H) :
  s.TypeIs v T∧∀ a,v = .ref a→∃ ob,s.heap.get? a = some ob∧ob.dict = none:=by
 cases x with
 | str z=>
  obtain ⟨t,rfl⟩:=r
  cases (show T = "str" from ty)
  exact ⟨typeIs_str s z t,fun _ e=>nomatch e⟩
 | int i=>
  obtain ⟨t,rfl⟩:=r
  cases (show T = "int" from ty)
  exact ⟨typeIs_int s i t,fun _ e=>nomatch e⟩
 | ref p=>
  cases r
  rcases ty with ⟨rfl,xs,hq⟩ | ⟨rfl,o,hk,hc,hd⟩ | ⟨rfl,hk⟩ | ⟨rfl,S,n,hk⟩
  ·obtain ⟨aH,_,pl,_⟩:=I.list hq
   refine ⟨pl.isList.typeIs,fun a e=>?_⟩
   cases e
   obtain ⟨o,n,e,c,hd,_⟩:=pl
   exact ⟨o,e,hd⟩
  ·refine ⟨⟨o,I.dy p o hk,hc⟩,fun a e=>?_⟩
   cases e
   exact ⟨o,I.dy _ o hk,hd⟩
  ·have z:∃ o,s.heap.get? p = some o∧o.ExactDict:=by
    rcases hk with ⟨aI,hk⟩ | ⟨aI,hk⟩
    ·obtain ⟨_,_,_,_,o,_,_,e,ex,_⟩:=I.bc p _ hk
     exact ⟨o,e,ex⟩
    ·obtain ⟨_,_,_,_,o,_,_,e,ex,_⟩:=I.bc p _ hk
     exact ⟨o,e,ex⟩
   obtain ⟨o,e,ex⟩:=z
   refine ⟨⟨o,e,ex.1⟩,fun a e2=>?_⟩
   cases e2
   exact ⟨o,e,ex.2.1⟩
  ·obtain ⟨o,_,_,_,e,ex,_⟩:=I.bc p _ hk
   refine ⟨⟨o,e,ex.1⟩,fun a e2=>?_⟩
   cases e2
   exact ⟨o,e,ex.2.1⟩
 | _=>exact False.elim ty
def yX (K:PySem.W.Frag) (T:String) (r:V→List V→Hp→VK→Prop) (to:TE):TE:=fun σ H Q=>to σ H fun x H1=>tE K T x H1∧r x [] H1 Q
def xg (K:PySem.W.Frag) (T:String) (r:V→List V→Hp→VK→Prop) (to:TE) (t:TA):TE:=fun σ H Q=>to σ H fun x H1=>tE K T x H1∧t σ H1 fun xs H2=>r x xs H2 Q
variable {o e:Expr} {es:List Expr} {to:TE} {t:TA} {name:Str} {apos cb:Pos} {T id:String} {r:V→List V→Hp→VK→Prop}
theorem el (pa:PlainAttrs T) (slot:Slot T name id) (A0:typeOf (.builtin id) = pure (.type "method_descriptor")) (hm:yu X id r) (ho:PE X o to) (ha:PA X (e :: es) t)
  (ir:attributeBase o name X.env (eval o X.env) = eval o X.env:=by rfl)
  (vK:((backTo cb (starEach (e :: es) X.env)).all (fun x=>!x.1) && (backToKw cb (keywordEach [] X.env)).all (fun x=>x.1.isSome)
   && decide ((e :: es).length + ([]:List Keyword).length + (if ([]:List Keyword).isEmpty then 0 else 1) < 30)) = true:=by rfl)
  (sE:(apos.endLine == cb.line) = true:=by rfl) (hs:starEach (e :: es) X.env = (false,eval e X.env) :: starEach es X.env:=by rfl) (qv:(backTo cb (starEach es X.env)).any (·.1) = false:=by rfl) :
  PE X (.Call (.Attribute o name apos) (e :: es) [] cb) (xg X.K T r to t):=by
 intro pins s σ H Q I h
 refine wpAny_Call_method_late ir vK sE rfl (bX (ho pins s σ H _ I h) fun v s1 ⟨x,H1,I1,r1,ty,q1⟩=>?_)
 obtain ⟨h1,h2⟩:=pF I1 r1 ty
 refine ⟨T,id,pa,slot,A0,h1,h2,?_⟩
 have hA:=ha cb pins s1 σ H1 _ I1 q1
 rw [hs] at hA ⊢
 refine Calls.callWith_builtin (by show (false || (backTo cb (starEach es X.env)).any (·.1)) = false; rw [qv] <;> rfl) (Calls.evalArgs_plain ?_)
 exact bX hA fun us s2 ⟨vs,H2,I2,r2,q2⟩=>hm pins s2 σ H2 x vs v us Q I2 r1 r2 q2
/- xs.append(e),list.index on a module's tuple .. are yu facts of 06m -/
end
end L2
namespace L2
open PySem PySem.Spec PyProof.Rows
def wG (X:Cx) (id:String) (r:V→List V→Hp→VK→Prop):Prop:=
 ∀ (pins:List (Addr×Obj)) (s:Shared) (σ : St) (H:Hp) (x:V) (xs:List V) (v:Value) (us:List Value) (Q:VK),Inv X pins σ H s→RelV x v→Vals xs us→r x xs H Q→
  wpAny (model X.prog X.w) X.A (call (.builtin id) (v :: us)) (EP X pins σ Q) X.xe s
theorem Vals.one:∀ {x:V} {us:List Value},Vals [x] us→∃ u,us = [u]∧RelV x u
 | _,_,.cons r .nil=>⟨_,rfl,r⟩
theorem Vals.eraseIdx:∀ {xs:List V} {us:List Value} (i:Nat),Vals xs us→Vals (xs.eraseIdx i) (us.eraseIdx i)
 | _,_,_,.nil=>.nil
 | _,_,0,.cons _ t=>t
 | _,_,i + 1,.cons r t=>.cons r (Vals.eraseIdx i t)
theorem fW {α : Type}:∀ (l:List α) (i:Nat),(l.eraseIdx i).length≤l.length
 | [],_=>Nat.le_refl _
 | _ :: _,0=>Nat.le_succ _
 | _ :: r,i + 1=>Nat.succ_le_succ (fW r i)
section
variable {X:Cx} {pins:List (Addr×Obj)} {σ : St} {H:Hp} {s:Shared} {l b:Addr} {xs ys zs:List V}
theorem Inv.qd {aH its':List Value} {n:Nat} {f:Array Value→Array Value} {t':Nat} (I:Inv X pins σ H s) (hH:H l = some (.lst xs))
  (e:s.heap.get? l = some { cls:=.type "list",data:=.seq aH.toArray n }) (hf:f aH.toArray = its'.toArray) (hv:Vals ys its') (hz:ys.length≤sizeLine) :
  Inv X pins σ (upd H l (.lst ys)) { s with heap:=s.heap.update l (Obj.mapSeq f),toks:=t' }:=by
 have q:=PySem.IsL.update e f
 rw [hf] at q
 refine I.write (x:=l) (e:=l) (by rw [hH]; exact trivial) (.inl rfl) (fun b' u hb hu=>(Heap.get?_update_other s.heap (Obj.mapSeq f) (Ne.symm hb)).trans hu) ⟨_,q⟩ ?_
 exact ⟨hz,its',_,hv,q⟩
theorem Inv.qc (I:Inv X pins σ H s) (hH:H l = some (.lst xs)):xs.length≤sizeLine∧∃ (aH:List Value) (n:Nat),Vals xs aH∧xs.length = aH.length∧s.heap.get? l = some { cls:=.type "list",data:=.seq aH.toArray n }:=by
 obtain ⟨z,aH,n,r,e⟩:=I.bc l _ hH
 exact ⟨z,aH,n,r,r.length,e⟩
end
section
variable {X:Cx}
def nD:V→List V→Hp→VK→Prop:=fun x vs H Q=>∃ l xs y,x = .ref l∧vs = [y]∧H l = some (.lst xs)∧xs.length < sizeLine∧Q .bp (upd H l (.lst (xs ++ [y])))
theorem j7:wG X "list.append" nD:=by
 intro pins s σ H x vs v us Q I rx rv h
 obtain ⟨l,xs,y,rfl,rfl,hH,hz,q⟩:=h
 cases rx
 obtain ⟨u,rfl,ru⟩:=rv.one
 obtain ⟨z,aH,n,r,hl,e⟩:=I.qc hH
 refine call_meets F.slot_list_append ⟨_,e,rfl⟩ F.entry_list_append (F.args_list_append_2 _ _) (PySem.list_append l aH.toArray n u (by rw [List.size_toArray]; omega)) ⟨e,?_⟩
 refine ⟨.bp,_,I.qd (its':=aH ++ [u]) hH e (by simp) (r.append (.cons ru .nil)) ?_,rfl,q⟩
 rw [List.length_append,List.length_singleton]
 omega
def tT:V→List V→Hp→VK→Prop:=fun x vs H Q=>∃ l b xs zs,x = .ref l∧vs = [.ref b]∧H l = some (.lst xs)∧H b = some (.lst zs)∧xs.length + zs.length≤sizeLine∧Q .bp (upd H l (.lst (xs ++ zs)))
def zu:V→List V→Hp→VK→Prop:=fun x vs H Q=>∃ l xs y,x = .ref l∧vs = []∧H l = some (.lst xs)∧xs[xs.length - 1]? = some y∧Q y (upd H l (.lst xs.dropLast))
def lL:V→List V→Hp→VK→Prop:=fun x vs H Q=>∃ l xs i k y,x = .ref l∧vs = [.int i]∧H l = some (.lst xs)∧-(2 ^ 63)≤i∧i < 2 ^ 63∧seqIndex? i xs.length = some k∧xs[k]? = some y∧Q y (upd H l (.lst (xs.eraseIdx k)))
theorem md:wG X "list.pop" lL:=by
 intro pins s σ H x vs v us Q I rx rv h
 obtain ⟨l,xs,i,k,y,rfl,rfl,hH,h1,h2,hk,hy,q⟩:=h
 cases rx
 obtain ⟨u,rfl,ru⟩:=rv.one
 obtain ⟨t,rfl⟩:=ru
 obtain ⟨z,aH,n,r,hl,e⟩:=I.qc hH
 obtain ⟨w,hw,rP⟩:=r.get hy
 refine call_meets F.slot_list_pop ⟨_,e,rfl⟩ F.entry_list_pop (F.args_list_pop_2 _ _)
  (MeetsSeq.list_pop_at l aH.toArray n i t k w (fitsIndex_both h1 h2) (by rw [List.size_toArray,← hl]; exact hk) (by rw [← Array.getElem?_toList]; exact hw) (by rw [List.size_toArray]; omega)) ⟨e,?_⟩
 refine ⟨y,_,I.qd (its':=aH.eraseIdx k) hH e ?_ (r.eraseIdx k) ?_,rP,q⟩
 ·show aH.toArray.eraseIdxIfInBounds k = (aH.eraseIdx k).toArray
  rw [List.eraseIdxIfInBounds_toArray]
 ·have:=fW xs k
  omega
def rV:V→List V→Hp→VK→Prop:=fun x vs H Q=>∃ l xs,x = .ref l∧vs = []∧H l = some (.lst xs)∧Q .bp (upd H l (.lst xs.reverse))
def u3:V→List V→Hp→VK→Prop:=fun x vs H Q=>∃ l xs,x = .ref l∧vs = []∧H l = some (.lst xs)∧Q .bp (upd H l (.lst []))
def zE:R2:=fun x y H Q=>∃ l b xs zs,x = .ref l∧y = .ref b∧H l = some (.lst xs)∧H b = some (.lst zs)∧xs.length + zs.length≤sizeLine∧∀ p,H p = none→Q (.ref p) (upd H p (.lst (xs ++ zs)))
def zt:R2:=fun x y H Q=>∃ l k xs,x = .ref l∧y = .int k∧H l = some (.lst xs)∧-(2 ^ 63)≤k∧k < 2 ^ 63∧xs.length * k.toNat≤sizeLine∧
 ∀ p,H p = none→Q (.ref p) (upd H p (.lst (List.replicate k.toNat xs).flatten))
end
end L2
namespace L2
open PySem PySem.Spec PyProof.Rows
section
variable {κ : Type} [DecidableEq κ]
def jS (aI:List (κ×V)) (k : κ):Option V:=(aI.find? fun kv=>decide (kv.1 = k)).map (·.2)
def putK (aI:List (κ×V)) (k : κ) (v:V):List (κ×V):=
 if (aI.any fun kv=>decide (kv.1 = k)) = true then aI.map (fun kv=>if kv.1 = k then (kv.1,v) else kv) else aI ++ [(k,v)]
def mL (aI:List (κ×V)) (k : κ):List (κ×V):=aI.filter fun kv=>decide (kv.1≠k)
end
abbrev KT (H:Hp):List (List Key×V)→List (List Key×Addr×Value)→Prop:=Paired fun p q=>p.1 = q.1∧H q.2.1 = some (.tup (p.1.map kV))∧RelV p.2 q.2.2
def kG (H:Hp) (a:Addr) (y:V) (r:Option V):Prop:=
 (∃ aI k,Rd H a (.dK aI)∧y = kV k∧r = jS aI k)∨∃ aI k b,Rd H a (.dT aI)∧y = .ref b∧H b = some (.tup (k.map kV))∧r = jS aI k
def tq (H:Hp) (a:Addr) (y v:V) (H':Hp):Prop:=
 (∃ aI k,H a = some (.dK aI)∧y = kV k∧aI.length < sizeLine∧H' = upd H a (.dK (putK aI k v)))∨
 ∃ aI k b,H a = some (.dT aI)∧y = .ref b∧H b = some (.tup (k.map kV))∧aI.length < sizeLine∧H' = upd H a (.dT (putK aI k v))
def Cq (i:Expr):Prop:=∀ ov iv,subscripted i false ov iv = operate [ov,iv] (getItem ov iv)
def xc (td ty:TE):TE:=fun σ H Q=>td σ H fun x H1=>ty σ H1 fun y H2=>∃ a v,x = .ref a∧kG H2 a y (some v)∧Q v H2
def yV (ty td:TE):TE:=fun σ H Q=>ty σ H fun y H1=>td σ H1 fun x H2=>∃ a o,x = .ref a∧kG H2 a y o∧Q (.bl o.isSome) H2
def tH (ty td:TE):TE:=fun σ H Q=>ty σ H fun y H1=>td σ H1 fun x H2=>∃ a o,x = .ref a∧kG H2 a y o∧Q (.bl (!o.isSome)) H2
def xj (td ty tv:TE):TS:=fun D σ H=>tv σ H fun v H1=>td σ H1 fun x H2=>ty σ H2 fun y H3=>∃ a H4,x = .ref a∧tq H3 a y v H4∧D.nx σ H4
def xl (td ty tv:TE) (rd:V→V→Hp→VK→Prop):TS:=fun D σ H=>td σ H fun x H1=>ty σ H1 fun y H2=>∃ a v,x = .ref a∧kG H2 a y (some v)∧
 tv σ H2 fun y2 H3=>rd v y2 H3 fun z H4=>∃ H5,tq H4 a y z H5∧D.nx σ H5
def xk (td ty:TE):TS:=fun D σ H=>td σ H fun x H1=>ty σ H1 fun y H2=>∃ a aI k,x = .ref a∧H2 a = some (.dK aI)∧y = kV k∧(jS aI k).isSome = true∧D.nx σ (upd H2 a (.dK (mL aI k)))
def uH:TE:=fun _ H Q=>∀ p,H p = none→Q (.ref p) (upd H p (.dK []))
def uG:TE:=fun _ H Q=>∀ p,H p = none→Q (.ref p) (upd H p (.dT []))
def gn:List (TE×TE)→St→Hp→(List (V×V)→Hp→Prop)→Prop
 | [],_,H,Q=>Q [] H
 | (tk,tv) :: r,σ,H,Q=>tk σ H fun x H1=>tv σ H1 fun y H2=>gn r σ H2 fun ps H3=>Q ((x,y) :: ps) H3
abbrev VV:List (V×V)→List (Value×Value)→Prop:=Paired fun p q=>RelV p.1 q.1∧RelV p.2 q.2
def DK (X:Cx) (pos:Pos) (keys:List (Option Expr)) (values:List Expr) (uw:List (TE×TE)):Prop:=
 ∀ (pins:List (Addr×Obj)) (s:Shared) (σ : St) (H:Hp) (Q:List (V×V)→Hp→Prop),Inv X pins σ H s→gn uw σ H Q→
  wpAny (model X.prog X.w) X.A (evalPairs (pairTrees keys values X.env pos)) (fun vs s'=>∃ ps H',Inv X pins σ H' s'∧VV ps vs∧Q ps H') X.xe s
def qb (aI more:List (Key×V)):List (Key×V):=more.foldl (fun acc kv=>putK acc kv.1 kv.2) aI
def xb (uw:List (TE×TE)):TE:=fun σ H Q=>∀ p,H p = none→gn uw σ (upd H p (.dK [])) fun ps H2=>H2 p = some (.dK [])∧∃ aI:List (Key×V),ps = aI.map (fun kv=>(kV kv.1,kv.2))∧aI.length≤15∧Q (.ref p) (upd H2 p (.dK (qb [] aI)))
structure M1 (X:Cx) (o:Expr) (m:Str) (apos:Pos) (e:Expr) (cb:Pos):Prop where
 base:attributeBase o m X.env (eval o X.env) = eval o X.env
 v9:((backTo cb (starEach [e] X.env)).all (fun x=>!x.1) && (backToKw cb (keywordEach [] X.env)).all (fun x=>x.1.isSome)
  && decide (([e]:List Expr).length + ([]:List Keyword).length + (if ([]:List Keyword).isEmpty then 0 else 1) < 30)) = true
 line:(apos.endLine == cb.line) = true
 trees:backTo cb (starEach [e] X.env) = [(false,eval e X.env)]
structure M2 (X:Cx) (o:Expr) (m:Str) (apos:Pos) (e f:Expr) (cb:Pos):Prop where
 base:attributeBase o m X.env (eval o X.env) = eval o X.env
 v9:((backTo cb (starEach [e,f] X.env)).all (fun x=>!x.1) && (backToKw cb (keywordEach [] X.env)).all (fun x=>x.1.isSome)
  && decide (([e,f]:List Expr).length + ([]:List Keyword).length + (if ([]:List Keyword).isEmpty then 0 else 1) < 30)) = true
 line:(apos.endLine == cb.line) = true
 trees:backTo cb (starEach [e,f] X.env) = [(false,eval e X.env),(false,eval f X.env)]
def tj (H:Hp) (a:Addr):Prop:=(∃ aI,Rd H a (.dK aI))∨∃ aI,Rd H a (.dT aI)
def uJ (td ty:TE):TE:=fun σ H Q=>td σ H fun x H1=>∃ a,x = .ref a∧tj H1 a∧ty σ H1 fun y H2=>∃ o,kG H2 a y o∧Q (o.getD .bp) H2
def uI (td ty tx:TE):TE:=fun σ H Q=>td σ H fun x H1=>∃ a,x = .ref a∧tj H1 a∧ty σ H1 fun y H2=>tx σ H2 fun z H3=>∃ o,kG H3 a y o∧Q (o.getD z) H3
def uF (td ty:TE):TE:=fun σ H Q=>td σ H fun x H1=>∃ a,x = .ref a∧tj H1 a∧ty σ H1 fun y H2=>∃ aI k v,H2 a = some (.dK aI)∧y = kV k∧jS aI k = some v∧Q v (upd H2 a (.dK (mL aI k)))
def uE (td ty tx:TE):TE:=fun σ H Q=>td σ H fun x H1=>∃ a,x = .ref a∧tj H1 a∧ty σ H1 fun y H2=>tx σ H2 fun z H3=>∃ aI k,H3 a = some (.dK aI)∧y = kV k∧
 (∀ v,jS aI k = some v→Q v (upd H3 a (.dK (mL aI k))))∧(jS aI k = none→Q z H3)
end L2
namespace yD
open PySem PySem.W PySem.Calls PyProof.Rows
theorem eE {P:Params} {h:Heap}:∀ (ns:List Int) (vs:List Value),WellAll P h vs (ns.map WData.int)→IntsAre vs ns:=by
 intro ns
 induction ns with
 | nil=>
  intro vs w
  rw [List.map_nil] at w
  cases w
  exact .nil
 | cons n ns ih=>
  intro vs w
  rw [List.map_cons] at w
  cases w with
  | cons a b=>
   cases a
   exact .cons _ _ (ih _ b)
theorem jX {l:OpenLaw} {n:Nat} (hn:l.most = some n) {P:Params} {h:Heap} {args:List WData} {vals:List Value}
  (nP:l.row.toRowW.claim.pre args = true) (vr:WellAll P h vals args) :
  ∃ a vs ns,vals = [Value.ref a]∧args = [WData.list (ns.map WData.int)]∧h.get? a = some { cls:=.type "list",data:=.seq vs.toArray }∧IntsAre vs ns∧ns.length≤n:=by
 have A3:WShape.hasAll [] args [.list .int] = true:=(pre_splitW nP).1
 have hc:l.pre.holds [] { args:=args } = true:=(pre_splitW nP).2
 obtain ⟨d,r,rfl,h1,h2⟩:=hasAllW_cons A3
 obtain rfl:=hasAllW_nil h2
 obtain ⟨xs,rfl,h3⟩:=hasW_list h1
 obtain ⟨ns,rfl⟩:=items_int h3
 have hlen:ns.length≤n:=by
  unfold OpenLaw.pre at hc
  have h4:(WTm.not (.lt (.lit (.int (n:Int))) (.len (.arg 0)))).holds [] { args:=[.list (ns.map .int)] } = true:=by
   have h4:=(holds_andW hc).1
   rw [hn] at h4
   exact h4
  have h5:=condW_of h4 (w_not (w_lt w_lit (w_len_list (w_arg rfl))))
  rw [List.length_map] at h5
  refine Nat.le_of_not_lt fun q=>?_
  have q':(n:Int) < ((ns.length:Nat):Int):=by omega
  first
   | (rw [decide_eq_true q'] at h5; exact absurd h5 (by decide))
   | (simp at h5; omega)
 cases vr with
 | cons w1 w2=>
  cases w2
  cases w1 with
  | list ho vN=>exact ⟨_,_,ns,rfl,rfl,ho,eE ns _ vN,hlen⟩
theorem j2 (l:OpenLaw) (args:List WData):l.row.toRowW.claim.post args (.bool true) args = true:=
 postW_of (r:=l.row.toRowW) (X:=(true == true))
  (show WShape.has [] (.bool true) .bool = true by first | rfl | decide | simp [WShape.has,WShape.arms,WShape.armsAll])
  (show (WTm.eq .res (.lit (.bool true))).value [] { args:=args,res:=some (.bool true),after:=args } = some (.bool (true == true)) from w_eq_bool (w_res rfl) w_lit) rfl
theorem iE {l:OpenLaw} {n:Nat} {q:Program} {loose:List Str} {XP:(Str→Option Value)→Heap→Prop} {YP:World→Heap→Prop} {d:DefRec}
  (hn:l.most = some n) (qy:d.params.defaults = [])
  (call:∀ (w:World) (s₀ s₁ : Shared) (mg mb:Str→Option Value) (fa:Addr) (o:Obj) (pm cd doc:Value) (a:Addr) (vs:List Value) (ns:List Int),
   Ground q loose [] XP w s₀ mg mb s₁.heap→YP w s₁.heap→
   s₁.heap.get? fa = some o→o.data = .func (docDef d.name d.params d.body d.scope pm cd doc)→s₁.heap.CodeRec cd d.name→mg d.name = some (.ref fa)→
   s₁.heap.get? a = some { cls:=.type "list",data:=.seq vs.toArray }→IntsAre vs ns→ns.length≤n→s₁.gens = #[]→
   codeAny (model l.prog w) callerA (.call (.ref fa) ⟨[.ref a],[]⟩) (fun r s'=>r = .ok (.ret (.bool true))∧OldK s₁.heap s'.heap∧s'.os = s₁.os∧AllBare s'.gens) s₁) :
  WalkO q loose XP YP l.row.toRowW d [] (fun f vs=>PySem.call f vs):=by
 intro w s₀ s₁ mg mb G Y fa o pm cd doc dV kV ho hd iq hD sD hg args vals as nP Be Dm vr Dr
 obtain rfl:dV = .none:=Dflts.none hD qy
 obtain rfl:kV = .none:=Dflts.noKw hD
 obtain ⟨a,vs,ns,rfl,rfl,qw,hints,hlen⟩:=jX hn nP vr
 refine enter_call (codeAny_mono (call w s₀ s₁ mg mb fa o pm cd doc a vs ns G Y ho (fd_plain hd) iq sD qw hints hlen hg) fun r s' hq=>?_)
 obtain ⟨rfl,h2,h3,h4⟩:=hq
 exact ⟨.inl ⟨.bool true,.bool true,[],rfl,fun _=>rfl,.bool true,j2 l _,fun _=>⟨List.Pairwise.nil,fun _ hm=>(nomatch hm)⟩⟩,h2,h3,h4⟩
section
variable {prog:Program} {w:World} {A:Around} {E:Value→Shared→Prop} {s:Shared} {K:Frag}
def vf (h:Heap):Heap:={ h with objs:=#[] }
def ledger (h:Heap) (L d:Addr):List (Addr×Obj):=(List.range h.objs.size).filterMap fun a=>if a = L∨a = d then none else (h.get? a).map fun o=>(a,o)
end
end yD
namespace L2
open PySem PySem.Spec PyProof.Rows
theorem fO:∀ {vs:List Value} {ns:List Int},IntsAre vs ns→Vals (ns.map V.int) vs
 | _,_,.nil=>.nil
 | _,_,.cons n t h=>.cons ⟨t,rfl⟩ (fO h)
def qS (H:Hp):Prop:=∀ b,H b = none∨∃ o xs,H b = some (.fg o (.lst xs))
theorem mi {P:Program} {w:World} {K:PySem.W.Frag} {mg mb:Str→Option Value} {CX:fN} {k:Nat} {fa a:Addr} {fd:FuncData} {x:Str} {sp:Sp} {s₁ : Shared} {vs:List Value} {ns:List Int}
  (KX:K.In s₁.heap) (qV:s₁.heap.Ns mainGlobals mg) (hb:s₁.heap.Ns builtinsNs mb) (Br:∀ x:Str,x≠ "__name__"→mb x = bootBuiltins x) (vE:s₁.heap.NoLimit) (hg:s₁.gens = #[])
  (ha:s₁.heap.get? a = some { cls:=.type "list",data:=.seq vs.toArray }) (hi:IntsAre vs ns) (hl:ns.length≤sizeLine) (hr:bM k callerA)
  (F:∀ base:Heap,K.In base→base.Ns mainGlobals mg→dZ P w K mg base CX k fa fd [x] sp) (sI:∀ (s:Shared) (u:Value),BindsTo s fd ⟨[u],[]⟩ [(x,u)])
  (jH:∀ H:Hp,qS H→aD K H a (ns.map V.int)→sp [.ref a] H (fun v _=>v = .bl true) fun _ _ _=>False)
  (vU:∀ H e s',CX [] H s₁ (fun _ _ _=>False) e s'→False) :
  codeAny (model P w) callerA (.call (.ref fa) ⟨[.ref a],[]⟩) (fun r s'=>r = .ok (.ret (.bool true))∧OldK s₁.heap s'.heap∧s'.os = s₁.os∧AllBare s'.gens) s₁:=by
 have rv:=fO hi
 have vj:=hi.length
 -- from an abstract heap in wN nothing but kM kZ may be tracked
 have core:∀ H:Hp,qS H→aD K H a (ns.map V.int)→dB P w H s₁.heap→(∀ b,H b≠none→b = a)→(H a≠none→K.lookup a = none)→
   codeAny (model P w) callerA (.call (.ref fa) ⟨[.ref a],[]⟩) (fun r s'=>r = .ok (.ret (.bool true))∧OldK s₁.heap s'.heap∧s'.os = s₁.os∧AllBare s'.gens) s₁:=by
  intro H hO hS bc hA hK
  have jP:∀ {b:Addr} {o:Obj},s₁.heap.get? b = some o→H b = none→(gI s₁.heap H).get? b = some o:=fun e n=>mE e n
  have r9:∀ {b:Addr} {o:Obj} {es:Array DictEntry} {ep:Nat},s₁.heap.get? b = some o→o.data = .dict es ep→H b = none:=fun {b o es ep} e d=>by
   cases q:H b with
   | none=>rfl
   | some u=>
    have e':b = a:=hA b (by rw [q]; simp)
    subst e'
    rw [ha] at e; cases e
    have d':Data.seq vs.toArray _ = Data.dict es ep:=d
    cases d'
  have tV:∀ {b:Addr} {m:Str→Option Value},s₁.heap.Ns b m→(gI s₁.heap H).Ns b m:=fun {b m} ⟨o,es,ep,e,d,r⟩=>⟨o,es,ep,jP e (r9 e d),d,r⟩
  have x4:K.In (gI s₁.heap H):=fun b o e=>jP (KX b o e) (by
   cases q:H b with
   | none=>rfl
   | some u=>
    have e':b = a:=hA b (by rw [q]; simp)
    subst e'
    rw [hK (by rw [q]; simp)] at e; cases e)
  have hM:Mod K mg (gI s₁.heap H):=⟨x4,tV qV,⟨mb,tV hb,Br⟩,let ⟨mc,h1,h2⟩:=vE; ⟨mc,tV h1,h2⟩⟩
  have e0:jr P w K mg (gI s₁.heap H) callerA [] s₁ H:=⟨rfl,hM,fun b o e=>nH e,Nat.le_of_eq (ke _ _),trivial,fun b hb=>absurd (show b∈([]:List Addr) from hb) (by simp),bc,.of_eq hg⟩
  refine codeAny_mono ((F _ x4 (tV qV)).run callerA [] s₁ H ⟨[.ref a],[]⟩ [.ref a] [.ref a] _ _ hr e0 (sI s₁ (.ref a)) (.cons rfl .nil) (jH H hO hS)) fun r s' h=>?_
  cases r with
  | error e=>exact (vU H e s' h).elim
  | ok fl=>
   cases fl with
   | next=>exact False.elim h
   | brk=>exact False.elim h
   | cont=>exact False.elim h
   | ret u=>
    obtain ⟨v,H',os,bare,un,vA,r',q⟩:=h
    have q':v = .bl true:=q
    subst q'
    obtain rfl:u = Value.bool true:=r'
    refine ⟨rfl,OldK.of_keep fun b o e=>?_,os,bare⟩
    cases q:H b with
    | none=>exact un.keep b o e q (by intro z; exact absurd (show b∈([]:List Addr) from z) (by simp)) (by simp)
    | some u=>
     rcases hO b with z | ⟨ob,xs,z⟩
     ·rw [q] at z; cases z
     ·have z2:=un.d7 b ob _ z
      obtain ⟨e1,_⟩:=bc b _ z
      obtain ⟨e2,_⟩:=vA b _ z2
      rw [e] at e1; cases e1
      exact e2
 cases hk:K.lookup a with
 | some o=>
  -- kM kZ is one of kM module's own objects
  have e:=KX a o hk
  rw [ha] at e
  cases e
  refine core (fun _=>none) (fun _=>.inl rfl) (.inr ⟨_,vs.toArray,_,hk,rfl,rfl,rfl,by rw [List.size_toArray,vj]; exact hl,by simpa using rv⟩) (fun b u z=>by have z':(none:Option HO) = some u:=z; cases z') (fun b z=>absurd rfl z) fun z=>absurd rfl z
 | none=>
  refine core (fun b=>if b = a then some (.fg { cls:=.type "list",data:=.seq vs.toArray } (.lst (ns.map V.int))) else none) (fun b=>?_) (.inl (.inr ⟨{ cls:=.type "list",data:=.seq vs.toArray },if_pos rfl⟩)) (fun b u z=>?_) (fun b z=>?_) fun _=>hk
  ·by_cases hb:b = a
   ·exact .inr ⟨_,_,if_pos hb⟩
   ·exact .inl (if_neg hb)
  ·by_cases hb:b = a
   ·have z':=(if_pos hb).symm.trans z
    cases z'
    subst hb
    exact ⟨ha,by rw [List.length_map]; exact hl,vs,_,rv,ha⟩
   ·have z':=(if_neg hb).symm.trans z
    cases z'
  ·by_cases hb:b = a
   ·exact hb
   ·exact absurd (if_neg hb) z
end L2
namespace L2
open PySem PySem.Spec PyProof.Rows
abbrev DP {K:PySem.W.Frag} {h:Heap} (_:K.In h):PySem.W.Frag:=K
theorem ny {l:PySem.W.OpenLaw} {n k:Nat} {q:Program} {loose:List Str} {XP:(Str→Option Value)→Heap→Prop} {YP:World→Heap→Prop} {d:DefRec} {K:Params→PySem.W.Frag} {CX:World→fN} {sp:World→Sp} {x:Str}
  (hn:l.most = some n) (Bb:n≤sizeLine) (qy:d.params.defaults = []) (hr:bM k callerA)
  (hY:∀ (w:World) (h:Heap),YP w h→(K w.params).In h)
  (F:∀ (w:World) (mg:Str→Option Value) (fa:Addr) (h:Heap),(K w.params).In h→h.Ns mainGlobals mg→mg d.name = some (.ref fa)→
   ∃ fd:FuncData,(∀ (s:Shared) (u:Value),BindsTo s fd ⟨[u],[]⟩ [(x,u)])∧
    ∀ base:Heap,(K w.params).In base→base.Ns mainGlobals mg→dZ l.prog w (K w.params) mg base (CX w) k fa fd [x] (sp w))
  (jH:∀ (w:World) (H:Hp) (a:Addr) (ns:List Int),ns.length≤n→qS H→aD (K w.params) H a (ns.map V.int)→sp w [.ref a] H (fun v _=>v = .bl true) fun _ _ _=>False)
  (vU:∀ (w:World) (H:Hp) (s:Shared) (e:Value) (s':Shared),CX w [] H s (fun _ _ _=>False) e s'→False) :
  PySem.W.WalkO q loose XP YP l.row.toRowW d [] (fun f vs=>PySem.call f vs):=by
 refine yD.iE hn qy fun w s₀ s₁ mg mb fa o pm cd doc a vs ns G Y ho hd iq sD qw hints hlen hg=>?_
 have KX:=hY w _ Y
 obtain ⟨fd,hb,hF⟩:=F w mg fa _ KX G.T.g sD
 exact mi KX G.T.g G.T.b G.T.builtins G.T.nolimit hg qw hints (Nat.le_trans hlen Bb) hr hF hb (fun H hO hS=>jH w H a ns hlen hO hS) fun H e s'=>vU w H s₁ e s'
end L2
namespace L2
open PySem PySem.Spec PyProof.Rows
def inClass (s:Stmt) (j:Nat):Stmt:=match s with
 | .ClassDef _ _ _ body _ _ _ _ _ _ _=>body.getD j (.Pass ⟨0,0,0,0⟩)
 | _=>.Pass ⟨0,0,0,0⟩
def aR (s:Stmt):Arguments:=match s with
 | .FunctionDef _ a _ _ _ _ _ _ _ _=>a
 | _=>{ posonlyargs:=[],args:=[],vararg:=none,kwonlyargs:=[],kw_defaults:=[],kwarg:=none,defaults:=[] }
def aC (s:Stmt):List Stmt:=match s with
 | .FunctionDef _ _ b _ _ _ _ _ _ _=>b
 | _=>[]
def ai (s:Stmt):Scope:=match s with
 | .FunctionDef _ _ _ _ _ _ sc _ _ _=>sc
 | _=>{ kind:=.function,names:=[],isGenerator:=false,isCoroutine:=false }
abbrev DU:fN:=fun _ _ _ _ _ _=>False
abbrev E0:XK:=fun _ _ _=>False
structure nu (K:PySem.W.Frag) (x qual:Str) (st:Stmt) (f:Addr) (fd:FuncData):Prop where
 ex:∃ (oc:Value) (od:Option Addr) (kV doc pm:Value) (an:Option Addr) (bV ct:Value) (jE:Array (Option Value)),
  fd = PySem.W.fnOf x qual (aR st) (aC st) (ai st) .none kV doc pm an bV ct∧K.lookup f = some ⟨oc,od,.func fd,jE⟩∧PySem.W.codeIn K bV qual = true
 kp:PySem.W.keepIn K (.ref f) = true
section
variable {P:Program} {w:World} {K:PySem.W.Frag} {mg:Str→Option Value} {base:Heap}
theorem nu.binds {x qual:Str} {st:Stmt} {f:Addr} {fd:FuncData} {ps:List Str} (F:nu K x qual st f fd)
  (h:∀ (kV doc pm:Value) (an:Option Addr) (bV ct:Value) (us:List Value),us.length = ps.length→bindArgs (PySem.W.fnOf x qual (aR st) (aC st) (ai st) .none kV doc pm an bV ct) ⟨us,[]⟩ = pure (ps.zip us)):Binds K fd ps []:=by
 obtain ⟨oc,od,kV,doc,pm,an,bV,ct,jE,rfl,lk,iq⟩:=F.ex
 exact .all (h kV doc pm an bV ct)
theorem aJ {x qual:Str} {st:Stmt} {f:Addr} {oc:Value} {od an:Option Addr} {jE:Array (Option Value)} {kV doc pm bV ct:Value} (l:K.lookup f = some ⟨oc,od,.func (PySem.W.fnOf x qual (aR st) (aC st) (ai st) .none kV doc pm an bV ct),jE⟩)
  (c:PySem.W.codeIn K bV qual = true) (k:PySem.W.keepIn K (.ref f) = true):nu K x qual st f (PySem.W.fnOf x qual (aR st) (aC st) (ai st) .none kV doc pm an bV ct):=⟨⟨oc,od,kV,doc,pm,an,bV,ct,jE,rfl,l,c⟩,k⟩
end
section
variable {X:Cx}
theorem pv (i:Nat) {x:Str} {pos:Pos} (hN:X.N[i]? = some x:=by rfl) (hv:uk X.env.scope x:=by first | exact Or.inl rfl | exact Or.inr (Or.inl rfl) | exact Or.inr (Or.inr rfl)) (hd:(x == ("__debug__" : Str)) = false:=by decide)
  (iq:(x == ("__classdict__" : Str)) = false:=by decide):PE X (.Name x pos) (jU i):=pY hN hv hd iq
end
theorem nN {A B:Prop} (h:B):if false = true then A else B:=by
 rw [if_neg Bool.false_ne_true]
 exact h
theorem qq {A B:Prop} (h:A):if true = true then A else B:=by
 rw [if_pos rfl]
 exact h
def av (H H':Hp):Prop:=∀ b o,H b = some o→H' b = some o
theorem av.trans {H H1 H2:Hp} (a:av H H1) (b:av H1 H2):av H H2:=fun c o h=>b c o (a c o h)
theorem av.free {H H':Hp} (e:av H H') {l:Addr} (h:H' l = Option.none):H l = Option.none:=by
 cases q:H l with
 | none=>rfl
 | some o=>
  rw [e l o q] at h
  cases h
theorem av.seq {K:PySem.W.Frag} {H H':Hp} {a:Addr} {xs:List V} (e:av H H') (h:aD K H a xs):aD K H' a xs:=by
 rcases h with (h | ⟨o,h⟩) | h
 ·exact .inl (.inl (e _ _ h))
 ·exact .inl (.inr ⟨o,e _ _ h⟩)
 ·exact .inr h
end L2

section
namespace L2
open PySem PySem.Spec PyProof.Rows
def Sz (n:Nat) (x:Int):Prop:=x.natAbs < 2 ^ n
theorem Sz.mono {m n:Nat} {x:Int} (h:Sz m x) (Bc:m≤n):Sz n x:=Nat.lt_of_lt_of_le h (Nat.pow_le_pow_right (by decide) Bc)
section
variable {X:Cx}
theorem dH:fL X (binaryOp .Mult) (rI IntMulOk fun i j=>.int (i * j)):=tU fun _ _ _ _ _ _ _ hc q=>mul_int q hc
def wM (_ j:Int):Prop:=j≠0∧Sz 9000 j
theorem wM.np {i j:Int} (h:wM i j):Builtin.divisionGoesByPylong i j = false:=by
 refine PyProof.noPylong_of_log2 ?_
 have h0:j.natAbs≠0:=fun e=>h.1 (Int.natAbs_eq_zero.mp e)
 exact (Nat.log2_lt h0).mpr h.2
def wL (_ j:Int):Prop:=0 < j∧Sz 9000 j
theorem bK:fL X (binaryOp .FloorDiv) (rI wL fun i j=>.int (i / j)):=tU fun i j _ _ _ _ _ hc q=>by
 have h1:(0:Int) < j:=hc.1
 exact floordiv_int (by omega) (by rw [Int.fdiv_eq_ediv_of_nonneg i (by omega)]; exact q) (.inl (wM.np ⟨by omega,hc.2⟩))
end
structure dX (P:Program) (w:World) (K:PySem.W.Frag) (mg:Str→Option Value) (base:Heap) (CX:fN) (x:Str) (k:Nat) (ps:List Str) (sp:Sp):Prop where
 ex:∃ f fd,dZ P w K mg base CX k f fd ps sp∧mg x = some (.ref f)∧PySem.W.keepIn K (.ref f) = true∧Binds K fd ps []
section
variable {X:Cx} {CX:fN} {k j:Nat} {ps:List Str} {sp:Sp} {E:XK} {x:Str} {p pos:Pos} {e:Expr} {es:List Expr} {t:TA}
theorem aP (h:dX X.prog X.w X.K X.mg X.base CX x k ps sp) (hr:bM j X.A) (hx:Passes CX X E) (ha:PA X (e :: es) t) (hk:k≤j:=by decide) (hg:Gl X x:=by rfl) (gJ:(x == ("__debug__" : Str)) = false:=by decide)
  (he:starEach (e :: es) X.env = (false,eval e X.env) :: starEach es X.env:=by rfl) (fX:(backTo pos (starEach es X.env)).any (·.1) = false:=by rfl) :
  PE X (.Call (.Name x p) (e :: es) [] pos) (kQ sp [] E t):=by
 obtain ⟨f,fd,F,hm,vH,hb⟩:=h.ex
 exact nF F (hr.mono hk) hg hm vH hb .nil hx ha gJ he fX
end
inductive gX:V→Value→Prop where
 | ty (n:String):gX (.ty n) (.type n)
 | ref (a:Addr):gX (.ref a) (.ref a)
def oY (K:PySem.W.Frag):List V→Hp→VK→Prop:=fun xs H Q=>∃ x c t u b,xs = [x,c]∧dU K H x t∧gX c u∧PySem.W.kitOne K t u = some b∧Q (.bl b) H
theorem gg {X:Cx}:cU X (.builtin "isinstance") (oY X.K):=by
 intro pins s σ H xs us Q I r h
 obtain ⟨x,c,t,u,b,rfl,ty,rc,e,q⟩:=h
 obtain ⟨u1,u2,rfl,r1,r2⟩:=vals2 r
 have e2:u2 = u:=by
  cases rc <;> (cases r2; rfl)
 subst e2
 exact kb I r1 ty e fun tk=>⟨.bl b,H,I.tok _,rfl,q⟩
def CA (K:PySem.W.Frag) (a:Addr):It:=
 ⟨fun i H=>∃ xs x,aD K H a xs∧xs[i]? = some x,
  fun i H x H'=>∃ p y,H p = none∧x = .ref p∧(∀ xs,aD K H a xs→xs[i]? = some y)∧H' = upd H p (.tup [.int i,y]),
  fun i H=>∃ xs,aD K H a xs∧xs.length≤i⟩
def xH (K:PySem.W.Frag) (ta:TA):TI:=fun σ H R=>ta σ H fun vs H1=>∃ a,vs = [.ref a]∧(∃ xs,aD K H1 a xs)∧R (CA K a) H1
section
variable {σ : St} {H:Hp} {Q:VK} {D:Ends}
theorem r_var {i:Nat} {v:V} (h : σ[i]? = some (some v)) (q:Q v H):jU i σ H Q:=⟨v,h,q⟩
theorem r_c {v:V} (q:Q v H):tC v σ H Q:=q
theorem r_op {r:R2} {ta tb:TE} (h:ta σ H fun x H1=>tb σ H1 fun y H2=>r x y H2 Q):rj r ta tb σ H Q:=h
theorem pO {r:V→Hp→VK→Prop} {ta:TE} (h:ta σ H fun x H1=>r x H1 Q):wV r ta σ H Q:=h
theorem lu {g:Int→Int→V} {i j:Int} (q:Q (g i j) H):oZ g (.int i) (.int j) H Q:=⟨i,j,rfl,rfl,q⟩
theorem nB {C:Int→Int→Prop} {g:Int→Int→V} {i j:Int} (c:C i j) (q:Q (g i j) H):rI C g (.int i) (.int j) H Q:=⟨i,j,rfl,rfl,c,q⟩
theorem pP {g:Int→V} {i:Int} (q:Q (g i) H):rU g (.int i) H Q:=⟨i,rfl,q⟩
theorem lH {i j:Int} (q:Q (.bl (decide (i = j))) H):xr (.int i) (.int j) H Q:=⟨rfl,by rw [eN,Bool.beq_eq_decide_eq]; exact q⟩
theorem lz {i j:Int} (q:Q (.bl (!decide (i = j))) H):xo (.int i) (.int j) H Q:=⟨rfl,by rw [eN,Bool.beq_eq_decide_eq]; exact q⟩
theorem r_seq {t u:TS} (h:t { D with nx:=u D } σ H):pG t u D σ H:=h
theorem iU (h:D.nx σ H):oN D σ H:=h
theorem r_asg {te:TE} {g:TG} (h:te σ H fun x H1=>g x σ H1 D.nx):pJ te g D σ H:=h
theorem r_gname {i:Nat} {v:V} {R:St→Hp→Prop} (h:R (σ.set i (some v)) H):fY i v σ H R:=h
theorem lr {te:TE} (h:te σ H D.rt):ri te D σ H:=h
theorem iV {te:TE} (h:te σ H fun _ H1=>D.nx σ H1):oO te D σ H:=h
theorem jx {c:TT} {t u:TS} (h:c σ H fun b H1=>if b = true then t D σ H1 else u D σ H1):pI c t u D σ H:=h
theorem iS {t:TE} {R:Bool→Hp→Prop} (h:t σ H fun x H'=>∃ k,x = .bl k∧R k H'):oK t σ H R:=h
theorem uT {t:TE} {R:Bool→Hp→Prop} (h:t σ H fun x H'=>∃ k,x = .bl k∧R k H'):tB t σ H R:=h
theorem pU {k:Bool} {R:Bool→Prop} (h:R k):∃ k',V.bl k = .bl k'∧R k':=⟨k,rfl,h⟩
theorem ly {t:TT} {R:Bool→Hp→Prop} (h:t σ H fun c H1=>R (!c) H1):rk t σ H R:=h
theorem lK {t u:TT} {R:Bool→Hp→Prop} (h:t σ H fun c H1=>if c = true then u σ H1 R else R false H1):rD t u σ H R:=h
theorem pQ {t u:TT} {R:Bool→Hp→Prop} (h:t σ H fun c H1=>if c = true then R true H1 else u σ H1 R):wZ t u σ H R:=h
theorem iW {ta tb:TE} (h:ta σ H fun x H1=>∃ c,x = .bl c∧if c = true then tb σ H1 Q else Q (.bl false) H1):oP ta tb σ H Q:=h
theorem iT {ta:TE} (h:ta σ H fun x H1=>∃ c,x = .bl c∧Q (.bl (!c)) H1):oM ta σ H Q:=h
theorem hX {R:List V→Hp→Prop} (h:R [] H):pH σ H R:=h
theorem d5 {ta:TE} {tr:TA} {R:List V→Hp→Prop} (h:ta σ H fun x H1=>tr σ H1 fun xs H2=>R (x :: xs) H2):kP ta tr σ H R:=h
theorem gw {sp:Sp} {E:XK} {t:TA} (h:t σ H fun vs H1=>sp (vs ++ []) H1 Q E):kQ sp [] E t σ H Q:=h
theorem pS {r:List V→Hp→VK→Prop} {t:TA} (h:t σ H fun vs H1=>r vs H1 Q):tI r t σ H Q:=h
theorem lj {t:TA} (h:t σ H fun xs H1=>xs.length≤sizeLine∧∀ p,H1 p = none→Q (.ref p) (upd H1 p (.tup xs))):rf t σ H Q:=h
theorem lB {t:TA} (h:t σ H fun xs H1=>xs.length≤sizeLine∧∀ p,H1 p = none→Q (.ref p) (upd H1 p (.lst xs))):rp t σ H Q:=h
theorem dF {wi:TI} {g:TG} {tb:TS} (h:wi σ H fun J H1=>∃ W:Nat→Nat→St→Hp→Prop,(∃ m,W 0 m σ H1)∧∀ i m σ H,W i m σ H→
 (J.stop i H∧D.nx σ H)∨(J.go i H∧∃ N:St→Hp→Prop,(∀ σ' H',N σ' H'→∃ m',m' < m∧W (i + 1) m' σ' H')∧∀ x H',J.nv i H x H'→g x σ H' fun σ2 H2=>tb { D with nx:=N,ct:=N,bk:=D.nx } σ2 H2)):rC wi g tb D σ H:=h
theorem sm {A B:Prop} (h:A):if true = true then A else B:=qq h
theorem t8 {A B:Prop} (h:B):if false = true then A else B:=nN h
theorem if2 {c A B:Prop} [Decidable c] (h1:c→A) (h2:¬ c→B):if decide c = true then A else B:=by
 by_cases h:c
 ·rw [decide_eq_true h]; exact qq (h1 h)
 ·rw [decide_eq_false h]; exact nN (h2 h)
theorem mB {c A B:Prop} [Decidable c] (h1:¬ c→A) (h2:c→B):if (!decide c) = true then A else B:=by
 by_cases h:c
 ·rw [decide_eq_true h]; exact nN (h2 h)
 ·rw [decide_eq_false h]; exact qq (h1 h)
end
end L2
end
section
namespace L2
open PySem PySem.Spec PyProof.Rows
theorem aZ:bootBuiltins "len" = some (.builtin "len"):=by decide +kernel
theorem bw:bootBuiltins "isinstance" = some (.builtin "isinstance"):=by decide +kernel
theorem qM:bootBuiltins "int" = some (.type "int"):=by decide +kernel
theorem ow:bootBuiltins "bool" = some (.type "bool"):=by decide +kernel
theorem ou:bootBuiltins "list" = some (.type "list"):=by decide +kernel
theorem fJ:bootBuiltins "ValueError" = some (.type "ValueError"):=by decide +kernel
structure Def (K:PySem.W.Frag) (mg:Str→Option Value) (x:Str) (st:Stmt) (ps:List Str):Prop where
 ex:∃ f fd,nu K x x st f fd∧mg x = some (.ref f)∧Binds K fd ps []
theorem av.upd {H:Hp} {p:Addr} {o:HO} (h:H p = none):av H (upd H p o):=fun b u e=>by rw [ao (az e h)]; exact e
section
variable {σ : St} {H:Hp} {Q:VK} {K:PySem.W.Frag}
theorem bJ {p:Addr} {xs:List V} {i:Int} {v:V} (h:aD K H p xs) (hi:nq xs i = some v) (q:Q v H):pV K (.ref p) (.int i) H Q:=⟨p,xs,i,v,rfl,rfl,h,hi,q⟩
theorem lD {x c:V} {t u:Value} {b:Bool} (ty:dU K H x t) (hc:gX c u) (e:PySem.W.kitOne K t u = some b) (q:Q (.bl b) H):oY K [x,c] H Q:=⟨x,c,t,u,b,rfl,ty,hc,e,q⟩
theorem nK {K:PySem.W.Frag}:PySem.W.kitOne K (.type "int") (.type "int") = some true:=by simp [PySem.W.kitOne]
end
end L2
namespace Fr
structure DO (a b t u:Int):Prop where
 pos:0 < u
 co:Int.gcd t u = 1
 eq:t * b = a * u
 ta:t.natAbs≤a.natAbs
 ub:u.natAbs≤b.natAbs
end Fr
namespace L2
open PySem PySem.Spec PyProof.Rows
theorem qr {A B:Prop} (h:B):if (!true) = true then A else B:=nN h
theorem oQ:2≤sizeLine:=by rw [sizeLine_eq]; decide
theorem rJ:3≤sizeLine:=by rw [sizeLine_eq]; decide
end L2
namespace L2
open PySem PySem.Spec PyProof.Rows
theorem d9 {CX:fN} {P:Program} {w:World} {K:PySem.W.Frag} {mg:Str→Option Value} {base:Heap} {N:List Str} {q:Str} {sc:Scope} {f:Addr} {cd:Value} {A:Around} {o:List Env} {s:Shared} {H:Hp} {E:XK}:(dA CX P w K mg base N q sc f cd A o s H E).K = K:=rfl
end L2
namespace L2
open PySem PySem.Spec PyProof.Rows
section
variable {K:PySem.W.Frag}
theorem qg:PySem.W.kitOne K (.type "int") (.type "bool") = some false:=by kernel_rfl
end
end L2
namespace L2
open PySem PySem.Spec PyProof.Rows
theorem mulL {a b:Int} (h1 : -(2 ^ 64) < a) (h2:a < 2 ^ 64):IntMulOk a b:=.of_left (intBits_le_64 h1 h2)
theorem Sz.zk {n:Nat} {x:Int} (h1 : -(2 ^ 64) < x) (h2:x < 2 ^ 64) (hn:64≤n):Sz n x:=Sz.mono (m:=64) (by unfold Sz; omega) hn
theorem gP {i j:Int} (h1:0 < j) (h2:j < 2 ^ 64):wL i j:=⟨h1,Sz.zk (by omega) h2 (by decide)⟩
section
variable {X:Cx} {a b:Expr} {i j v:Int} {op:Operator} {pos:Pos} {C:Int→Int→Prop} {g:Int→Int→V}
theorem eK (ho:fL X (binaryOp op) (rI C g)) (ha:PE X a (tC (.int i))) (hb:PE X b (tC (.int j))) (c:C i j) (e:g i j = .int v):PE X (.BinOp a op b pos) (tC (.int v)):=
 fun pins s σ H Q I h=>aq ho ha hb pins s σ H Q I ⟨i,j,rfl,rfl,c,by rw [e]; exact h⟩
end
end L2
namespace L2
open PySem PySem.Spec PyProof.Rows
end L2
end
section
namespace L2
open PySem PySem.Spec PySem.W PySem.Calls PyProof.Rows Builtin Builtin.ObjectAttr Builtin.Getset_descriptor
def ExcAt (C:Addr) (a:Addr) (h:Heap):Prop:=∃ ob,h.get? a = some ob∧ob.cls = .ref C∧PySem.W.notCls ob = true
def n5 (C a:Addr):HO:=.ext (ExcAt C a)
theorem ExcAt.dw {C a:Addr} {h h':Heap} (x:ExcAt C a h) (k:∀ o,h.get? a = some o→h'.get? a = some o):ExcAt C a h':=let ⟨o,e,r⟩:=x; ⟨o,k o e,r⟩
theorem nY {P:Program} {w:World} {H:Hp} {h:Heap} {C a:Addr} (x:ExcAt C a h):aS P w H h a (n5 C a):=
 ⟨x,let ⟨o,e,_⟩:=x; ⟨o,e⟩,fun _ _ y k=>y.dw k⟩
theorem nZ {P:Program} {w:World} {H:Hp} {h:Heap} {C a:Addr} (hk:dB P w H h) (e:H a = some (n5 C a)):ExcAt C a h:=(hk a _ e).1
theorem ExcAt.ty {C a:Addr} {h:Heap} {M:Model} (x:ExcAt C a h):Looks M h (typeOf (.ref a)) (.ref C):=by
 obtain ⟨o,e,c,_⟩:=x
 exact c▸(Looks.ld e).andThen .now
def eG (C:Addr) (D:Option Addr) (a:Addr) (h:Heap):Prop:=∃ ob,h.get? a = some ob∧ob.cls = .ref C∧PySem.W.notCls ob = true∧ob.dict = D
def dP (C:Addr) (D:Option Addr) (a:Addr):HO:=.ext (eG C D a)
theorem eG.dw {C a:Addr} {D:Option Addr} {h h':Heap} (x:eG C D a h) (k:∀ o,h.get? a = some o→h'.get? a = some o):eG C D a h':=let ⟨o,e,r⟩:=x; ⟨o,k o e,r⟩
theorem n6 {P:Program} {w:World} {H:Hp} {h:Heap} {C a:Addr} {D:Option Addr} (x:eG C D a h):aS P w H h a (dP C D a):=
 ⟨x,let ⟨o,e,_⟩:=x; ⟨o,e⟩,fun _ _ y k=>y.dw k⟩
theorem jK {P:Program} {w:World} {H:Hp} {h:Heap} {C a:Addr} {D:Option Addr} (hk:dB P w H h) (e:H a = some (dP C D a)):eG C D a h:=(hk a _ e).1
theorem eG.at {C a:Addr} {D:Option Addr} {h:Heap} (x:eG C D a h):ExcAt C a h:=let ⟨o,h1,h2,h3,_⟩:=x; ⟨o,h1,h2,h3⟩
def nW (C:Addr) (D:Option Addr) (a:Addr):HO:=match D with | none=>n5 C a | some d=>dP C (some d) a
structure cK (K:Frag) (D:Addr):Prop where
 xU:findIn K (.ref D) "__getattribute__" = some (some (.builtin "BaseException.__getattribute__"))
 xT:findIn K (.ref D) "__getattr__" = some none
 ue:mroIn K D (.type "BaseException") = some true
 cl:(clsIn K D).isSome = true
 ha:findIn K (.ref D) "__class__" = some (some (.builtin "object.__class__"))
 hn:specialIn K (.builtin "object.__class__") "__get__" = some (some (.builtin "getset_descriptor.__get__"))
 ua:takesIn K (.builtin "object.__class__") = some true
 hm:mroIn K D (.type "object") = some true
section
variable {prog:Program} {w:World} {A:Around} {E:Value→Shared→Prop} {s:Shared} {K:Frag} {x D:Addr}
theorem n9 {M:Model} {h:Heap} (X:K.In h) (c:cK K D):Looks M h (find (.ref x) (.ref D) "__class__") (.bind (.builtin "getset_descriptor.__get__") (.builtin "object.__class__")):=by
 have l1:=looks_findIn (M:=M) X c.ha
 have l2:Looks M h (getOf (some (.builtin "object.__class__"))) (some (.builtin "getset_descriptor.__get__")):=looks_specialIn X c.hn
 have l3:=looks_takesIn (M:=M) X c.ua
 refine l1.andThen (l2.andThen ?_)
 have l4:Looks M h (dataDescriptor? (some (.builtin "object.__class__")) (some (.builtin "getset_descriptor.__get__"))) (some (.builtin "getset_descriptor.__get__",.builtin "object.__class__")):=l3.andThen .now
 exact l4.andThen (Looks.tag .now)
theorem qF {R:Result→Shared→Prop} {tp:Value} (X:K.In s.heap) (I:ExcAt D x s.heap) (c:cK K D) (h:R (.ok (.ret (.ref D))) s) :
  codeAny (model prog w) A (.call (.builtin "getset_descriptor.__get__") ⟨[.builtin "object.__class__",.ref x,tp],[]⟩) R s:=by
 obtain ⟨oo,e,cc,nc⟩:=I
 obtain ⟨Aj,od,xw,jE⟩:=oo
 have I':ExcAt D x s.heap:=⟨_,e,cc,nc⟩
 obtain ⟨hh,g,dr,t,os⟩:=s
 have k0:=I'.ty (M:=model prog w)
 have k1:=looks_mroIn (M:=model prog w) X c.hm
 refine codeAny_call_builtin KF.slot_gs.plain KF.entry_gs (KF.slot_gs.check _ _ _ _ _ _ _ _ KF.type_class (KF.args_gs _ _ _) ?_)
 unfold Builtin.«getset_descriptor.__get__» descrGet
 rw [dga_obj]
 refine wpAny_bind (wpAny_pure ?_)
 unfold descrGetter descrCheckInstance descrNameAndClass isInstance
 simp only [KF.owner_class]
 repeat lk
 refine ⟨Code.quiet_builtin _ (by decide +kernel),codeAny_builtin KF.entry_class ?_⟩
 unfold Builtin.«object.__class__» shownTypeOf
 repeat lk
 exact h
theorem iw {M:Model} {pd:Value} {Q:Unit→Shared→Prop} (X:K.In s.heap) (I:ExcAt D x s.heap) (ue:mroIn K D (.type "BaseException") = some true) (hq:Q () s):wpAny M A (checkBuiltinCall "BaseException.__getattribute__" ⟨[.ref x,pd],[]⟩) Q E s:=by
 obtain ⟨hh,g,d,t,os⟩:=s
 have k0:=I.ty (M:=M)
 have k1:=looks_mroIn (M:=M) X ue
 have hk:builtinKind "BaseException.__getattribute__" = some .slot:=by decide +kernel
 have hs:splitId "BaseException.__getattribute__" = some ("BaseException", "__getattribute__"):=by decide +kernel
 have ha:=F.args_bexc_ga (.ref x) pd
 simp only [checkBuiltinCall,hk,hs]
 refine wpAny_bind ?_
 unfold isInstance
 repeat (first | lk | wp_step)
 exact hq
theorem mI {tk:Tok} {Q:PySem.Fin→Shared→Prop} (X:K.In s.heap) (I:ExcAt D x s.heap) (c:cK K D) (hq:Q (.done (.ret (.ref D))) s) :
  wpAny (model prog w) A (Builtin.«object.__getattribute__» ⟨[.ref x,.str "__class__" tk],[]⟩) Q E s:=by
 have I':=I
 have X':=X
 obtain ⟨hh,g,d,t,os⟩:=s
 have k0:=I.ty (M:=model prog w)
 have k2:=n9 (x:=x) (M:=model prog w) X c
 repeat (any_goals (first | assumption | with_reducible refine Looks.at (by assumption) ?_ | wp_step))
 refine qF (s:=⟨hh,g,d,t,os⟩) X' I' c ?_
 repeat (any_goals (first | assumption | wp_step))
theorem og {tk:Tok} {R:Result→Shared→Prop} (X:K.In s.heap) (I:ExcAt D x s.heap) (c:cK K D) (hq:R (.ok (.ret (.ref D))) s) :
  codeAny (model prog w) A (.call (.builtin "BaseException.__getattribute__") ⟨[.ref x,.str "__class__" tk],[]⟩) R s:=
 codeAny_call_builtin F.attr_ValueError.ga.plain F.entry_bexc_ga (iw X I c.ue (mI X I c hq))
theorem mJ {Q:Option Value→Shared→Prop} (X:K.In s.heap) (I:ExcAt D x s.heap) (c:cK K D) (h:Q (some (.ref D)) { s with toks:=s.toks + 1 }):wpAny (model prog w) A (getAttr? (.ref x) "__class__") Q E s:=by
 have I':=I
 have X':=X
 obtain ⟨hh,g,d,t,os⟩:=s
 have k0:=I.ty (M:=model prog w)
 have k1:=looks_findIn (M:=model prog w) X c.xU
 have k3:=looks_findIn (M:=model prog w) X c.xT
 have f3:=F.attr_ValueError.ga.bind (.ref x)
 have AY:(Value.builtin "BaseException.__getattribute__" == Value.builtin "object.__getattribute__") = false:=by decide +kernel
 have Di:(onTheHeap (Value.ref D) && Value.builtin "BaseException.__getattribute__" == Value.builtin "object.__getattribute__") = false:=by rw [AY]; rfl
 have Dj:(false && onTheHeap (Value.builtin "BaseException.__getattribute__")) = false:=rfl
 unfold getAttr? getAttrBy?
 refine wpAny_bind (wpAny_mkText (wpAny_bind (wpAny_attempt ?_)))
 repeat (any_goals (first | assumption | with_reducible refine Looks.at (by assumption) ?_ | wp_step))
 refine og (s:=⟨hh,g,d,t + 1,os⟩) X' I' c ?_
 repeat (any_goals (first | assumption | wp_step))
theorem il (c:cK K D):KitX K (.ref x) (.ref D) (ExcAt D x) where
 ty:=fun _ _ _ I=>I.ty
 it:=fun _ _ X _=>by
  obtain ⟨B2,nR⟩:=Option.isSome_iff_exists.mp c.cl
  unfold clsIn at nR
  split at nR
  ·rename_i c' d' B3 uQ ho
   intro A' Q' E' s' k q
   unfold isType loadHead
   exact wpAny_bind (wpAny_loadPart (k _ _ (X _ _ ho)) (wpAny_pure q))
  ·cases nR
 ne:=fun h tp dd aH n sl X qs=>by
  obtain ⟨B2,nR⟩:=Option.isSome_iff_exists.mp c.cl
  refine Bool.eq_false_iff.mpr fun q=>?_
  have e:D = tp:=Value.ref.inj (beq_iff_eq.mp q)
  subst e
  unfold clsIn at nR
  split at nR
  ·rename_i c' d' B3 uQ ho
   have z:=(X _ _ ho).symm.trans qs
   cases z
  ·cases nR
 ca:=fun X I k=>mJ X I c k
end
end L2
end
section
namespace Kd
open PySem
def Kp {α : Type}:Sem α→Prop
 | .pure _=>True
 | .raise _=>True
 | .unsupported _=>True
 | .finish _=>True
 | .rule _ k=>Kp (k ())
 | .at _ k=>Kp (k ())
 | .load _ _ k=>∀ o,Kp (k o)
 | .update _ _ f k=>(∀ o,(f o).dict = o.dict)∧Kp (k ())
 | .alloc _ k=>∀ a,Kp (k a)
 | .loadIfAlive _ k=>∀ o,Kp (k o)
 | .point _ k=>Kp (k ())
 | .register _ _=>True
 | .fresh k=>∀ t,Kp (k t)
 | .ask k=>∀ x,Kp (k x)
 | .choose _ _ k=>∀ x,Kp (k x)
 | .os _ _ k=>∀ x,Kp (k x)
 | .call ..=>False
 | .handled _ k=>∀ x,Kp (k x)
 | .newGen _ k=>∀ x,Kp (k x)
 | .genState _ k=>∀ x,Kp (k x)
 | .resume ..=>False
 | .yield ..=>True
 | .stack k=>∀ x,Kp (k x)
 | .fork ..=>True
 | .thread k=>∀ x,Kp (k x)
 | .await ..=>True
def Dc (e:Addr) (D:Option Addr) (h:Heap):Prop:=∃ o,h.objs[e]? = some o∧o.dict = D
theorem Dc.upd {e a:Addr} {D:Option Addr} {h:Heap} {f:Obj→Obj} (x:Dc e D h) (hf:∀ o,(f o).dict = o.dict):Dc e D (h.update a f):=by
 obtain ⟨o,h1,h2⟩:=x
 cases h with
 | mk objs l=>
  unfold Heap.update
  by_cases q:a = e
  ·exact ⟨f o,by simp only [Array.getElem?_modify,if_pos q]; simp only at h1; rw [h1]; rfl,by rw [hf,h2]⟩
  ·exact ⟨o,by simp only [Array.getElem?_modify,if_neg q]; exact h1,h2⟩
theorem Dc.push {e:Addr} {D:Option Addr} {h:Heap} (x:Dc e D h) (o:Obj):Dc e D (h.push o):=by
 obtain ⟨o',h1,h2⟩:=x
 cases h with
 | mk objs l=>
  unfold Heap.push
  have lt:e < objs.size:=(Array.getElem?_eq_some_iff.mp h1).1
  exact ⟨o',by simp only [Array.getElem?_push,if_neg (Nat.ne_of_lt lt)]; exact h1,h2⟩
theorem Dc.of {e:Addr} {D:Option Addr} {h:Heap} {o:Obj} (h1:h.get? e = some o) (h2:o.dict = D):Dc e D h:=⟨o,(Heap.get?_some_iff.mp h1).1,h2⟩
theorem Dc.at {e:Addr} {D:Option Addr} {h:Heap} {o:Obj} (x:Dc e D h) (h1:h.get? e = some o):o.dict = D:=by
 obtain ⟨o',h2,h3⟩:=x
 have h4:=(Heap.get?_some_iff.mp h1).1
 rw [h2] at h4
 cases h4
 exact h3
theorem sg {α : Type} {M:Model} {Γ : Ctx} {e:Addr} {D:Option Addr}:∀ {t:Sem α} {Q : α→Pos→Shared→Prop} {E:Value→Pos→Shared→Prop} {p:Pos} {s:Shared},Kp t→Dc e D s.heap→Sem.wp M Γ t Q E p s→
  Sem.wp M Γ t (fun a p s'=>Q a p s'∧Dc e D s'.heap) (fun v p s'=>E v p s'∧Dc e D s'.heap) p s:=by
 intro t
 induction t with
 | pure a=>intro Q E p s _ d h; exact ⟨h,d⟩
 | raise v=>intro Q E p s _ d h; exact ⟨h,d⟩
 | unsupported _=>intro Q E p s _ d h; exact h
 | finish _=>intro Q E p s _ d h; exact h
 | rule _ k ih=>intro Q E p s kk d h; exact ih () kk d h
 | «at» _ k ih=>intro Q E p s kk d h; exact ih () kk d h
 | load a _ k ih=>intro Q E p s kk d h; obtain ⟨o,ho,h⟩:=h; exact ⟨o,ho,ih o (kk o) d h⟩
 | update a _ f k ih=>intro Q E p s kk d h; exact ⟨h.1,ih () kk.2 (d.upd kk.1) h.2⟩
 | alloc o k ih=>intro Q E p s kk d h; exact ih _ (kk _) (d.push o) h
 | loadIfAlive a k ih=>intro Q E p s kk d h; exact ih _ (kk _) d h
 | point _ k ih=>intro Q E p s kk d h; exact ih () kk d h
 | register _ _ _=>intro Q E p s _ d h; exact h
 | fresh k ih=>intro Q E p s kk d h; exact ih _ (kk _) d h
 | ask k ih=>intro Q E p s kk d h; exact ih _ (kk _) d h
 | choose _ _ k ih=>intro Q E p s kk d h; exact ⟨h.1,ih _ (kk _) d h.2⟩
 | os _ _ k ih=>intro Q E p s kk d h; exact ih _ (kk _) d h
 | call=>intro Q E p s kk d h; exact kk.elim
 | handled _ k ih=>intro Q E p s kk d h; exact ih _ (kk _) d h
 | newGen _ k ih=>intro Q E p s kk d h; exact ih _ (kk _) d h
 | genState _ k ih=>intro Q E p s kk d h; obtain ⟨st,hs,h⟩:=h; exact ⟨st,hs,ih _ (kk _) d h⟩
 | resume=>intro Q E p s kk d h; exact kk.elim
 | yield=>intro Q E p s _ d h; exact h
 | stack k ih=>intro Q E p s kk d h; exact ih _ (kk _) d h
 | fork=>intro Q E p s _ d h; exact h
 | thread k ih=>intro Q E p s kk d h; exact ih _ (kk _) d h
 | await=>intro Q E p s _ d h; exact h
theorem gH {α : Type} {M:Model} {A:Around} {e:Addr} {D:Option Addr} {t:Sem α} {Q : α→Shared→Prop} {E:Value→Shared→Prop} {s:Shared} (k:Kp t) (d:Dc e D s.heap) (h:wpAny M A t Q E s) :
  wpAny M A t (fun a s'=>Q a s'∧Dc e D s'.heap) (fun v s'=>E v s'∧Dc e D s'.heap) s:=fun Γ p hΓ=>sg k d (h Γ p hΓ)
theorem Kp.bind {α β : Type} {f : α→Sem β} (hf:∀ a,Kp (f a)):∀ {m:Sem α},Kp m→Kp (m >>= f):=by
 intro m
 show Kp m→Kp (Sem.bind m f)
 induction m with
 | pure a=>intro _; exact hf a
 | raise v=>intro _; trivial
 | unsupported _=>intro _; trivial
 | finish _=>intro _; trivial
 | rule _ k ih=>intro kk; exact ih () kk
 | «at» _ k ih=>intro kk; exact ih () kk
 | load a _ k ih=>intro kk o; exact ih o (kk o)
 | update a _ f k ih=>intro kk; exact ⟨kk.1,ih () kk.2⟩
 | alloc o k ih=>intro kk a; exact ih a (kk a)
 | loadIfAlive a k ih=>intro kk o; exact ih o (kk o)
 | point _ k ih=>intro kk; exact ih () kk
 | register _ _ _=>intro _; trivial
 | fresh k ih=>intro kk x; exact ih x (kk x)
 | ask k ih=>intro kk x; exact ih x (kk x)
 | choose _ _ k ih=>intro kk x; exact ih x (kk x)
 | os _ _ k ih=>intro kk x; exact ih x (kk x)
 | call=>intro kk; exact kk.elim
 | handled _ k ih=>intro kk x; exact ih x (kk x)
 | newGen _ k ih=>intro kk x; exact ih x (kk x)
 | genState _ k ih=>intro kk x; exact ih x (kk x)
 | resume=>intro kk; exact kk.elim
 | yield=>intro _; trivial
 | stack k ih=>intro kk x; exact ih x (kk x)
 | fork=>intro _; trivial
 | thread k ih=>intro kk x; exact ih x (kk x)
 | await=>intro _; trivial
theorem gG (a:Addr):Kp (load a):=fun _=>trivial
theorem ij (v:Value):Kp (fieldsOf v):=by
 unfold fieldsOf
 split
 ·refine Kp.bind (fun o=>?_) (gG _)
  split
  ·trivial
  ·trivial
 ·trivial
theorem dI (v:Value) (i:Nat):Kp (field v i):=by
 unfold field
 refine Kp.bind (fun o=>?_) (ij v)
 split
 ·trivial
 ·trivial
theorem cP (v:Value) (i:Nat) (x:Value):Kp (setField v i x):=by
 unfold setField
 split
 ·unfold updateField
  refine Kp.bind (fun o=>?_) (gG _)
  split
  ·split
   ·exact ⟨fun o=>by cases o with | mk c d dt sl=>cases dt <;> rfl,trivial⟩
   ·trivial
  ·trivial
 ·trivial
theorem cD (v:Value) (f:Option Addr):Kp (setFlight v f):=by
 unfold setFlight
 refine Kp.bind (fun o=>?_) (dI v 1)
 split
 ·exact cP ..
 ·trivial
theorem gF (ty:String) (vs:List Value):Kp (newFields ty vs):=by
 unfold newFields newObj
 dsimp only
 have h:Kp (newObjAsIs (.type ty) (.fields vs.toArray)):=by
  unfold newObjAsIs
  exact fun a=>trivial
 split
 ·exact trivial
 ·exact h
theorem mj:Kp stack:=fun _=>trivial
theorem nI:Kp frameEnvs:=fun _=>trivial
theorem mq (f:Addr) (b:Bool):Kp (entryPlaceOf f b):=by
 unfold entryPlaceOf
 refine Kp.bind (fun o=>?_) mj
 dsimp only
 split
 ·trivial
 ·trivial
theorem ka (env:Env) (outer:List Env):Kp (behindIsImport env outer):=by
 unfold behindIsImport
 split
 ·trivial
 ·split
  ·trivial
  ·refine Kp.bind (fun x=>?_) (dI _ _)
   trivial
theorem nJ (env:Env) (b:Bool) (l:List Env):Kp (keptBack env b l):=by
 unfold keptBack
 split
 ·split
  ·trivial
  ·exact fun _=>trivial
 ·trivial
theorem ig:∀ l:List Env,Kp (readyFrames l)
 | []=>trivial
 | env :: outer=>by
  unfold readyFrames
  split
  ·refine Kp.bind (fun o=>?_) (gG _)
   split
   ·trivial
   ·refine Kp.bind (fun i=>Kp.bind (fun b=>Kp.bind (fun _=>ig outer) ?_) (nJ ..)) (ka ..)
    exact ⟨fun o=>rfl,trivial⟩
  ·trivial
theorem jc (env:Env):Kp (frameOf env):=by
 unfold frameOf
 refine Kp.bind (fun l=>Kp.bind (fun o=>?_) ?_) nI
 ·split
  ·trivial
  ·trivial
 ·unfold frameObject
  split
  ·trivial
  ·refine Kp.bind (fun x=>?_) (ig _)
   trivial
theorem jG (v:Value) (env:Env):Kp (noteFrame v env):=by
 unfold noteFrame
 split
 ·refine Kp.bind (fun o=>?_) (dI v 1)
  have fin:∀ f,Kp (do setField v 1 (← EntryCells.newEntry o (← frameOf env) .none (rawInt f) .none (← entryPlaceOf f (o != .none)))):=fun f=>by
   refine Kp.bind (fun x=>?_) (jc env)
   refine Kp.bind (m:=entryPlaceOf f (o != .none)) (fun y=>?_) (mq _ _)
   unfold EntryCells.newEntry
   refine Kp.bind (fun z=>?_) (gF _ _)
   exact cP ..
  split
  ·refine Kp.bind (fun h=>?_) (dI _ _)
   split
   ·trivial
   ·exact Kp.bind (fun _=>fin _) (cP ..)
  ·exact fin _
 ·trivial
theorem i9 (env:Env) (v:Value):Kp (leaving env v):=by
 unfold leaving
 exact Kp.bind (fun _=>cD ..) (jG ..)
end Kd
end
section
namespace L2
open PySem PySem.Spec PySem.W PySem.Calls PyProof.Rows
theorem aS.there {P:Program} {w:World} {H:Hp} {h:Heap} {a:Addr} {o:HO} (x:aS P w H h a o):∃ ob,h.get? a = some ob:=by
 induction o with
 | lst xs=>obtain ⟨_,_,_,_,e⟩:=x; exact ⟨_,e⟩
 | tup xs=>obtain ⟨_,_,_,ob,e,_⟩:=x; exact ⟨ob,e⟩
 | dK aI=>obtain ⟨_,_,_,_,o,_,_,e,_⟩:=x; exact ⟨o,e⟩
 | dT aI=>obtain ⟨_,_,_,_,o,_,_,e,_⟩:=x; exact ⟨o,e⟩
 | set S n=>obtain ⟨ob,_,_,_,e,_⟩:=x; exact ⟨ob,e⟩
 | ins C dx fs=>obtain ⟨_,_,_,e,_⟩:=x; exact ⟨_,e⟩
 | own y=>exact x
 | xd fs=>obtain ⟨_,⟨od,_,_,e,_⟩,_⟩:=x; exact ⟨od,e⟩
 | tN lo hi=>obtain ⟨_,_,_,e⟩:=x; exact ⟨_,e⟩
 | fg ob u ih=>obtain ⟨e,_⟩:=x; exact ⟨ob,e⟩
 | oJ ps=>exact ⟨_,x⟩
 | met f y=>exact ⟨_,x⟩
 | ext φ=>obtain ⟨_,e,_⟩:=x; exact e
def jR (B:Heap) (fr:List Addr) (h:Heap):Prop:=∀ b o,h.get? b = some o→b∉fr→∃ o',B.get? b = some o'
section
variable {X:Cx} {pins:List (Addr×Obj)} {σ : St} {H:Hp} {s:Shared} {B h':Heap}
theorem Inv.mF {t':Nat} (I:Inv X pins σ H s) (hex:X.ex = []) (b1:B.StaysIn s.heap) (b2:B.StaysIn h') (c0:jR B (dz X.stack) X.s₀.heap) (ct:∀ b o,H b = some o→∃ ob,B.get? b = some ob)
  (cp:∀ p∈X.pn ++ pins,∃ ob,B.get? p.1 = some ob) (up:s.heap.UpToSlots h'):Inv X pins σ H { s with heap:=h',toks:=t' }:=by
 have t6:∀ {b o ob},s.heap.get? b = some o→B.get? b = some ob→h'.get? b = some o:=fun {b o ob} e q=>by
  have:=b1 b ob q
  rw [e] at this; cases this
  exact b2 b _ q
 have nL:∀ b o,X.s₀.heap.get? b = some o→b∉X.fs→b∉dz X.stack:=fun b o e hb z=>by
  rcases List.mem_cons.mp (I.dv b z) with q | q
  ·exact absurd (Nat.lt_of_lt_of_le (Heap.lt_size e) I.ok.above) (by rw [q]; exact Nat.lt_irrefl _)
  ·exact hb q
 have xA:∀ b:Addr,b∉X.ex:=fun b z=>by rw [hex] at z; cases z
 have fr:∀ b∈X.fs,∃ o,s.heap.get? b = some o∧∀ vs,o.data≠.fields vs:=fun b hb=>(I.dN.mem hb).2
 have cellK:∀ {c v},s.heap.IsCell c v→h'.IsCell c v:=fun {c v} ⟨o,ho,hd⟩=>by
  obtain ⟨sl,e⟩:=up c o ho fun vs z=>by rw [hd] at z; cases z
  exact ⟨_,e,hd⟩
 refine ⟨I.ok,I.os,I.bare,⟨fun b o e n hb _=>?_,fun b o e n hb _=>?_,I.base.free,fun b o e _=>?_,I.base.et,I.base.d7,I.base.eu⟩,?_,fun x c e=>?_,I.free,I.bZ,fun p hp=>?_,fun b u e=>?_,I.len⟩
 ·obtain ⟨ob,q⟩:=c0 b o e (nL b o e hb)
  exact t6 (I.base.keep b o e n hb (xA b)) q
 ·obtain ⟨sl,q⟩:=I.base.slot b o e n hb (xA b)
  obtain ⟨o2,q2,nf⟩:=fr b hb
  obtain ⟨oQ,q3⟩:=up b o2 q2 nf
  rw [q] at q2; cases q2
  exact ⟨oQ,q3⟩
 ·by_cases hb:b∈X.fs
  ·obtain ⟨o2,q2,nf⟩:=fr b hb
   obtain ⟨oQ,q3⟩:=up b o2 q2 nf
   exact ⟨_,q3⟩
  ·obtain ⟨ob,q⟩:=c0 b o e (nL b o e hb)
   exact ⟨ob,b2 b ob q⟩
 ·obtain ⟨m,hn,hl⟩:=I.loc
  refine ⟨m,up.ns hn,fun i x v e1 e2 e3=>?_⟩
  obtain ⟨u,r,l⟩:=hl i x v e1 e2 e3
  refine ⟨u,r,?_⟩
  rcases l with l | ⟨k,c,e,z⟩
  ·exact .inl l
  ·exact .inr ⟨k,c,e,cellK z⟩
 ·obtain ⟨v,z⟩:=I.cell x c e
  exact ⟨v,cellK z⟩
 ·obtain ⟨e,n,ne,nf,d⟩:=I.pin p hp
  obtain ⟨ob,q⟩:=cp p hp
  exact ⟨t6 e q,n,ne,nf,d⟩
 ·refine (I.bc b u e).dw (fun c v hc q=>?_) (fun _ q=>q) fun _ _ q=>q
  rcases hc with z | z
  ·subst z
   obtain ⟨ob,q2⟩:=ct c u e
   exact t6 q q2
  ·obtain ⟨ob,q2⟩:=ct c _ z
   exact t6 q q2
end
structure oH (P:Program) (w:World) (outer:List Env) (H:Hp) (s:Shared) (a:Addr) (cls:Value) (D:Option Addr) (H':Hp) (s':Shared):Prop where
 os:s'.os = s.os
 bare:AllBare s'.gens
 un:Un (dz outer) [] H H' s.heap s'.heap
 bc:dB P w H' s'.heap
 nU:∃ B a0,Heap.FlyingW B outer a cls a0 s'.heap∧jR B (dz outer) s.heap∧∀ b o,H' b = some o→∃ ob,B.get? b = some ob
 new:H' a = none
 fresh:s.heap.get? a = none
 BF:Kd.Dc a D s'.heap
def b6 (P:Program) (w:World):fN:=fun outer H s E e s'=>∃ a cls D H',e = .ref a∧oH P w outer H s a cls D H' s'∧E cls D H'
section
variable {M:Model} {A:Around} {E:Value→Shared→Prop} {s:Shared} {base h:Heap} {env:Env} {outer:List Env} {L e:Addr} {cls a0:Value} {D:Option Addr} {Q:Unit→Shared→Prop}
theorem j8 (qx:A.frames = some (env :: outer)) (hf:env.frame = some L) (Bl:Heap.FlyingW base (env :: outer) e cls a0 s.heap) (dc:Kd.Dc e D s.heap)
  (hQ:∀ h',Heap.HeldW base (env :: outer) e cls a0 L h'→s.heap.UpToSlots h'→Kd.Dc e D h'→Q () { s with heap:=h' }):wpAny M A (noteFrame (.ref e) env) Q E s:=
 wpAny_mono (Kd.gH (Kd.jG _ _) dc (wpAny_looks_onW (Q:=fun _ s'=>∃ h',s' = { s with heap:=h' }∧Heap.HeldW base (env :: outer) e cls a0 L h'∧s.heap.UpToSlots h') qx hf Bl fun h' f u=>⟨h',rfl,f,u⟩))
  (fun _ s' ⟨⟨h',q,f,u⟩,d⟩=>by subst q; exact hQ h' f u d) fun _ _ z=>z.1
theorem qf {l:List Env} (hh:Heap.HeldW base l e cls a0 L s.heap) (dc:Kd.Dc e D s.heap)
  (hQ:∀ h',Heap.FlyingW base l e cls a0 h'→s.heap.UpToSlots h'→Kd.Dc e D h'→Q () { s with heap:=h' }):wpAny M A (setFlight (.ref e) none) Q E s:=
 wpAny_mono (Kd.gH (Kd.cD _ _) dc (wpAny_landsW (Q:=fun _ s'=>∃ h',s' = { s with heap:=h' }∧Heap.FlyingW base l e cls a0 h'∧s.heap.UpToSlots h') hh fun h' f u=>⟨h',rfl,f,u⟩))
  (fun _ s' ⟨⟨h',q,f,u⟩,d⟩=>by subst q; exact hQ h' f u d) fun _ _ z=>z.1
theorem qO {l:List Env} (hh:Heap.FlyingW base l e cls a0 s.heap) (dc:Kd.Dc e D s.heap)
  (hQ:∀ h',Heap.FlyingW base l e cls a0 h'→s.heap.UpToSlots h'→Kd.Dc e D h'→Q () { s with heap:=h' }):wpAny M A (setFlight (.ref e) none) Q E s:=
 wpAny_mono (Kd.gH (Kd.cD _ _) dc (lands_againW (Q:=fun _ s'=>∃ h',s' = { s with heap:=h' }∧Heap.FlyingW base l e cls a0 h'∧s.heap.UpToSlots h') hh fun h' f u=>⟨h',rfl,f,u⟩))
  (fun _ s' ⟨⟨h',q,f,u⟩,d⟩=>by subst q; exact hQ h' f u d) fun _ _ z=>z.1
theorem fF {oe:Obj} {vs:Array Value} (qx:A.frames = some (env :: outer)) (hl:s.heap.FunFrames base (env :: outer)) (hf:env.frame = some L) (he:s.heap.get? e = some oe) (uf:base.StaysIn s.heap) (ug:base.get? e = none)
  (hd:oe.data = .fields vs) (h1:vs[1]? = some .none) (h0:vs[0]? = some a0) (hQ:∀ h',Heap.FlyingW base outer e oe.cls a0 h'→s.heap.UpToSlots h'→Kd.Dc e oe.dict h'→Q () { s with heap:=h' }):wpAny M A (leaving env (.ref e)) Q E s:=
 wpAny_mono (Kd.gH (Kd.i9 _ _) (Kd.Dc.of he rfl) (wpAny_leaving_firstW (Q:=fun _ s'=>∃ h',s' = { s with heap:=h' }∧Heap.LeftW base (env :: outer) e oe.cls a0 s.heap h') qx hl hf he uf ug hd h1 h0 fun h' l=>⟨h',rfl,l⟩))
  (fun _ s' ⟨⟨h',q,k1,⟨_,_,k2⟩,k3,k4⟩,d⟩=>by subst q; exact hQ h' ⟨k1,ug,k2,k3⟩ k4 d) fun _ _ z=>z.1
end
section
variable {X:Cx} {pins:List (Addr×Obj)} {σ : St} {H:Hp} {s:Shared}
structure Body (X:Cx):Prop where
 ex:X.ex = []
 pn:X.pn = []
 kS:X.stack = X.env :: X.outer
 fr:X.env.frame = some X.env.locals
theorem oy {CX:fN} {P:Program} {w:World} {K:Frag} {mg:Str→Option Value} {base:Heap} {N:List Str} {qual:Str} {scope:Scope} {f:Addr} {cd:Value} {A:Around} {outer:List Env} {s:Shared} {H:Hp} {E:XK} :
  Body (dA CX P w K mg base N qual scope f cd A outer s H E):=⟨rfl,rfl,rfl,rfl⟩
theorem Inv.qC (I:Inv X pins σ H s) (hex:X.ex = []) {a:Addr} (e:s.heap.get? a = none):X.s₀.heap.get? a = none:=by
 cases q:X.s₀.heap.get? a with
 | none=>rfl
 | some o=>
  obtain ⟨o',z⟩:=I.base.there a o q (by rw [hex]; simp)
  rw [e] at z; cases z
theorem oH.inv {a:Addr} {cls:Value} {D:Option Addr} {H':Hp} {s':Shared} (I:Inv X pins σ H s) (F:oH X.prog X.w X.stack H s a cls D H' s'):Inv X pins σ H' s':=
 I.px (ch:=[]) F.os F.un F.bc F.bare fun b z=>by cases z
end
theorem bT {P:Program} {w:World} {X:Cx}:Passes (b6 P w) X E0:=by
 rintro pins σ H1 s1 e s' I ⟨a,cls,D,H',rfl,F,q⟩
 exact q.elim
end L2
end
section
namespace L2
open PySem PySem.Spec PySem.W PySem.Calls PyProof.Rows
theorem nV {K:Frag} {h:Heap} {C:Addr} {fK:List Value} {newId:String} (X:K.In h) (q:excIn K C fK newId = true) :
  ∃ bm N nm qn bs hdct sn sub ab col dd k0 k1 k2 k3 k5 mN,h.get? C = some (excClassObj nm qn C N bs bm hdct sn sub ab col dd k0 k1 k2 k3 k5 newId)∧h.Ns N mN∧mN "__init__" = none∧OwnTail h fK bm:=by
 unfold excIn at q
 split at q
 ·rename_i dd cd sl ho
  split at q
  ·rename_i C' bm k0 k1 k2 k3 n k5 hm hs
   simp only [Bool.and_eq_true,beq_iff_eq,Bool.not_eq_true'] at q
   obtain ⟨⟨⟨⟨⟨q1,q2⟩,sH⟩,ht⟩,bc⟩,ud⟩:=q
   subst q1 q2
   obtain ⟨nm,bs,mro,ns,qn,hd,sn,sub,ab,col,del⟩:=cd
   dsimp only at hm sH bc ud
   subst hm sH
   obtain ⟨l⟩:=sl
   have hl:l = [k0,k1,k2,k3,some (.builtin n),k5]:=hs
   subst hl
   exact ⟨bm,ns,nm,qn,bs,hd,sn,sub,ab,col,dd,k0,k1,k2,k3,k5,_,X _ _ ho,.of_isNs (isNs_of_in X bc),nsMap_none_of_in X bc ud,tail_of_in X ht⟩
  ·cases q
 ·cases q
def uA (Ex:XK) (C:Addr) (ta:TA):TS:=fun _ σ H=>ta σ H fun vs H1=>vs.length≤sizeLine∧Ex (.ref C) none H1
section
variable {X:Cx} {pins:List (Addr×Obj)} {σ : St} {H:Hp} {s:Shared}
theorem Inv.oI {a:Addr} {o:HO} (I:Inv X pins σ H s) (hn:H a = none) (new:aS X.prog X.w (upd H a o) s.heap a o) (fr:X.s₀.heap.get? a = none) (nL:a≠X.env.locals) (nc:∀ x c,X.env.cells.lookup x = some c→c≠a) (np:∀ p∈X.pn ++ pins,p.1≠a) :
  Inv X pins σ (upd H a o) s:=by
 refine ⟨I.ok,I.os,I.bare,⟨I.base.keep,I.base.slot,fun b u e n hx=>?_,I.base.there,fun b xs e=>?_,fun b u v e=>?_,fun b ps e=>?_⟩,I.loc,I.cell,?_,fun x c e=>?_,fun p hp=>?_,fun b u e=>?_,I.len⟩
 ·have hb:b≠a:=fun z=>by rw [z,fr] at e; cases e
  rw [ao hb]; exact I.base.free b u e n hx
 ·have z:=I.base.et b xs e
  rw [ao (az z hn)]; exact z
 ·have z:=I.base.d7 b u v e
  rw [ao (az z hn)]; exact z
 ·obtain ⟨m,z⟩:=I.base.eu b ps e
  exact ⟨m,by rw [ao (az z hn)]; exact z⟩
 ·rw [ao (Ne.symm nL)]; exact I.free
 ·rw [ao (nc x c e)]; exact I.bZ x c e
 ·obtain ⟨e,n,r⟩:=I.pin p hp
  exact ⟨e,by rw [ao (np p hp)]; exact n,r⟩
 ·by_cases hb:b = a
  ·subst hb; rw [ar] at e; cases e; exact new
  ·rw [ao hb] at e
   exact (I.bc b u e).dw (fun c v _ q=>q) (fun c q=>by rw [ao (az q hn)]; exact q) fun c xs q=>by rw [ao (az q hn)]; exact q
theorem eL {M:Model} {A:Around} {E:Value→Shared→Prop} {i:Nat} {x:Str} {pos:Pos} {Q:Unit→Shared→Prop} (I:Inv X pins σ H s) (hN:X.N.Nodup) (hi:X.N[i]? = some x) (hk:X.env.scope.names.lookup x = some .local)
  (h:∀ s',Inv X pins (σ.set i none) H s'→Q () s'):wpAny M A (do bindName X.env x .none; unbindBehindTheSuite X.env x pos) Q E s:=by
 obtain ⟨m,hn,hl⟩:=id I.loc
 have qz:(X.env.scope.kind == .class || (X.env.scope.kind == .module && X.env.locals != X.env.globals)) = false:=by rw [I.ok.kind]; rfl
 have hiσ : i < σ.length:=by rw [I.len]; exact (List.getElem?_eq_some_iff.mp hi).1
 refine wpAny_nameGoes_keeps hk hn qz fun h' v qW hs=>h _ ?_
 obtain ⟨oL,_,_,xO,_⟩:=id hn
 have lt:∀ b o,X.s₀.heap.get? b = some o→b≠X.env.locals:=fun b o e=>Nat.ne_of_lt (Nat.lt_of_lt_of_le (Heap.lt_size e) I.ok.above)
 refine ⟨I.ok,I.os,I.bare,⟨fun b o e n hb hx=>(hs.2 b (lt b o e)).trans (I.base.keep b o e n hb hx),fun b o e n hb hx=>?_,I.base.free,fun b o e hx=>?_,I.base.et,I.base.d7,I.base.eu⟩,⟨_,qW,fun j y v' e1 e2 e3=>?_⟩,fun y c e=>?_,I.free,I.bZ,fun p hp=>?_,fun b u e=>?_,by simpa using I.len⟩
 ·obtain ⟨sl,e1⟩:=I.base.slot b o e n hb hx
  exact ⟨sl,(hs.2 b (lt b o e)).trans e1⟩
 ·obtain ⟨o',e1⟩:=I.base.there b o e hx
  exact ⟨o',(hs.2 b (lt b o e)).trans e1⟩
 ·by_cases hj:j = i
  ·subst hj
   rw [List.getElem?_set_self hiσ] at e2
   cases e2
  ·rw [List.getElem?_set_ne (Ne.symm hj)] at e2
   obtain ⟨u',r',q⟩:=hl j y v' e1 e2 e3
   refine ⟨u',r',?_⟩
   rcases q with ⟨k,e⟩ | ⟨k,c,e,z⟩
   ·refine .inl ⟨k,?_⟩
    have:y≠x:=fun e=>hj (e9 hN e1 (e▸hi))
    simp [this,e]
   ·exact .inr ⟨k,c,e,z.sameBut hs (I.om y c e)⟩
 ·obtain ⟨w',z⟩:=I.cell y c e
  exact ⟨w',z.sameBut hs (I.om y c e)⟩
 ·obtain ⟨e,n,ne,nf,d⟩:=I.pin p hp
  exact ⟨(hs.2 p.1 ne).trans e,n,ne,nf,d⟩
 ·refine (I.bc b u e).dw (fun c w' hc q=>(hs.2 c ?_).trans q) (fun _ q=>q) fun _ _ q=>q
  rintro rfl
  rcases hc with rfl | hc
  ·rw [I.free] at e; cases e
  ·rw [I.free] at hc; cases hc
def Cx.marked (X:Cx) (a:Addr):Cx:={ X with A:=X.A.mark (some (.ref a)),calm:=false,xe:=fun _ _=>False }
theorem Inv.mark {a:Addr} (I:Inv X pins σ H s):Inv (X.marked a) pins σ H s:=
 ⟨⟨I.ok.mod,I.ok.kind,I.ok.glob,I.ok.blt,I.ok.above,I.ok.inj,I.ok.has,I.ok.qZ,(fun z=>absurd (show false = true from z) Bool.false_ne_true),I.ok.frames,I.ok.kS,I.ok.wb,I.ok.bs,I.ok.ox,I.ok.j6,I.ok.mG,I.ok.dN,I.ok.pj⟩,I.os,I.bare,I.base,I.loc,I.cell,I.free,I.bZ,I.pin,I.bc,I.len⟩
theorem Inv.unmark {a:Addr} (J:X.Ok) (I:Inv (X.marked a) pins σ H s):Inv X pins σ H s:=⟨J,I.os,I.bare,I.base,I.loc,I.cell,I.free,I.bZ,I.pin,I.bc,I.len⟩
end
def EX (X:Cx) (pins:List (Addr×Obj)) (σ : St) (Ex:XK) (e:Value) (s':Shared):Prop:=
 ∃ a cls D H' s0 H0,e = .ref a∧Inv X pins σ H0 s0∧oH X.prog X.w X.stack H0 s0 a cls D H' s'∧Ex cls D H'
section
variable {X:Cx} {k j:Nat} {ps:List Str} {sp:Sp} {x:Str} {p pos:Pos} {e:Expr} {es:List Expr} {t:TA}
theorem sW (h:dX X.prog X.w X.K X.mg X.base (b6 X.prog X.w) x k ps sp) (hr:bM j X.A) (ha:PA X.lZ (e :: es) t) (hk:k≤j:=by decide) (hg:Gl X x:=by rfl) (gJ:(x == ("__debug__" : Str)) = false:=by decide)
  (he:starEach (e :: es) X.env = (false,eval e X.env) :: starEach es X.env:=by rfl) (fX:(backTo pos (starEach es X.env)).any (·.1) = false:=by rfl)
  {pins:List (Addr×Obj)} {s:Shared} {σ : St} {H:Hp} {Q:VK} {Ex:XK} (I:Inv X pins σ H s) (hw:t σ H fun vs H1=>sp (vs ++ []) H1 Q Ex) :
  wpAny (model X.prog X.w) X.A (eval (.Call (.Name x p) (e :: es) [] pos) X.env) (EP X pins σ Q) (EX X pins σ Ex) s:=by
 obtain ⟨f,fd,F,hm,vH,hb⟩:=h.ex
 refine wpAny_Call_Name_kw (cB I hg hm ?_ gJ)
 refine PySem.W.callWith_K (h₀:=X.base) I.ok.mod.qh vH (wpAny_mono (ha pos pins s σ H _ (I.eP _) hw) (fun us s1 ⟨vs,H1,I1,r,q⟩=>⟨I1.dy,?_⟩) fun _ _ z=>False.elim z) he fX
 have I1:=I1.cx
 dsimp only at q
 rw [List.append_nil] at q
 have hl:us.length = ps.length:=by rw [← r.length]; exact F.len _ _ _ _ q
 have nj:=hb s1 us I1.dy (by rw [List.append_nil]; exact hl)
 rw [List.append_nil] at nj
 refine wpAny_call (codeAny_mono (F.run X.A X.stack s1 H1 ⟨us,[]⟩ us vs Q Ex (hr.mono hk) I1.qI nj r q) fun rr s' hq=>?_)
 cases rr with
 | error ev=>
  obtain ⟨a,cls,D,H',rfl,fl,qe⟩:=hq
  exact ⟨a,cls,D,H',s1,H1,rfl,I1,fl,qe⟩
 | ok fl=>
  cases fl with
  | ret u=>exact I1.after hq
  | next=>exact False.elim hq
  | brk=>exact False.elim hq
  | cont=>exact False.elim hq
end
def vV (K:Frag) (M:Addr) (jn:Nat) (ts:TS) (D:Ends) (σ : St):XK:=fun cls dx H'=>∃ C,cls = .ref C∧exmOne K (.ref C) (.ref M) = some true∧
 ∀ a,H' a = none→ts { nx:=fun σ' H2=>D.nx (σ'.set jn none) H2,rt:=D.rt,bk:=fun σ' H2=>D.bk (σ'.set jn none) H2,ct:=fun σ' H2=>D.ct (σ'.set jn none) H2 } (σ.set jn (some (.ref a))) (upd H' a (nW C dx a))
theorem mS {X:Cx} {x n:Str} {M:Addr} {jn:Nat} {b₀ : Stmt} {g8:List Stmt} {ts:TS} {np pos:Pos} (hb:Body X) (hm:X.mg x = some (.ref M)) (hN:X.N.Nodup) (hj:X.N[jn]? = some n) (hl:X.env.scope.names.lookup n = some .local)
  (hs:∀ a,iH (X.marked a) (b₀ :: g8) ts) (hg:Gl X x:=by rfl) (gJ:(x == ("__debug__" : Str)) = false:=by decide)
  {pins:List (Addr×Obj)} {σ : St} {D:Ends} {e:Value} {s':Shared} (h:EX X pins σ (vV X.K M jn ts D σ) e s') :
  wpAny (model X.prog X.w) X.A (noteFrame e X.env) (fun _ s2=>wpAny (model X.prog X.w) X.A (setFlight e none) (fun _ s3=>
   wpAny (model X.prog X.w) X.A (handleBy e X.env [.ExceptHandler (some (.Name x np)) (some n) (b₀ :: g8) pos]) (SP X pins D) X.xe s3) X.xe s2) X.xe s':=by
 obtain ⟨a,cls,dx,H',s0,H0,rfl,I0,F,C,rfl,hx,q⟩:=h
 obtain ⟨B,a0,nU,yb,ct⟩:=F.nU
 have I':=F.inv I0
 have qx:X.A.frames = some (X.env :: X.outer):=by rw [← hb.kS]; exact I0.ok.frames
 have c0:jR B (dz X.stack) X.s₀.heap:=fun b o e n=>by
  obtain ⟨o',z⟩:=I0.base.there b o e (by rw [hb.ex]; simp)
  exact yb b o' z n
 have Av:∀ p∈X.pn ++ pins,p.1≠a:=fun p hp z=>by
  have:=(I0.pin p hp).1
  rw [z,F.fresh] at this; cases this
 have cp:∀ p∈X.pn ++ pins,∃ ob,B.get? p.1 = some ob:=fun p hp=>by
  obtain ⟨e,nn,ne,nf,d⟩:=I0.pin p hp
  refine yb _ _ e fun z=>?_
  rcases List.mem_cons.mp (I0.dv _ z) with r | r
  ·exact ne r
  ·exact nf r
 rw [hb.kS] at nU
 refine j8 qx hb.fr nU F.BF fun h4 sG wQ wj=>?_
 refine qf (s:={ s' with heap:=h4 }) sG wj fun h5 qD wO wg=>?_
 have J5:Inv X pins σ H' { s' with heap:=h5,toks:=s'.toks }:=Inv.mF I' hb.ex nU.1 qD.1 c0 ct cp (wQ.trans wO)
 obtain ⟨ob,sA,vC⟩:=qD.there
 have ty:Looks (model X.prog X.w) h5 (typeOf (.ref a)) (.ref C):=vC▸(Looks.ld sA).andThen .now
 refine wpAny_handleBy_cons (codeAny_handlers_test (cB (X:=X.marked a) J5.mark hg hm ?_ gJ)) (by intro z; cases z)
 refine (exm_one J5.dy ty hx).at ?_
 refine codeAny_handlers_suite_as ?_
 refine qO (s:={ s' with heap:=h5 }) qD wg fun h6 sO yF we=>?_
 have J6:Inv X pins σ H' { s' with heap:=h6,toks:=s'.toks }:=Inv.mF I' hb.ex nU.1 sO.1 c0 ct cp ((wQ.trans wO).trans yF)
 obtain ⟨oe,ws,sx,sv,nQ,A7⟩:=sO.first
 have ex:ExcAt C a h6:=⟨oe,sx,sv,by unfold notCls; rw [nQ]⟩
 have nL:a≠X.env.locals:=fun z=>by
  obtain ⟨m,⟨o,es,ep,ho,hd,_⟩,_⟩:=J6.loc
  have kd:h6.get? X.env.locals = some o:=ho
  rw [← z,sx] at kd; cases kd
  rw [nQ] at hd; cases hd
 have nc:∀ y c,X.env.cells.lookup y = some c→c≠a:=fun y c e z=>by
  obtain ⟨v,o,ho,hd⟩:=J6.cell y c e
  have kd:h6.get? c = some o:=ho
  rw [z,sx] at kd; cases kd
  rw [nQ] at hd; cases hd
 have BE:∀ {H2:Hp},aS X.prog X.w H2 h6 a (nW C dx a):=by
  intro H2
  unfold nW
  split
  ·exact nY ex
  ·exact n6 ⟨oe,sx,sv,by unfold notCls; rw [nQ],we.at sx⟩
 have J7:Inv X pins σ (upd H' a (nW C dx a)) { s' with heap:=h6,toks:=s'.toks }:=Inv.oI J6 F.new BE (I0.qC hb.ex F.fresh) nL nc Av
 refine eQ (X:=X.marked a) (v:=.ref a) J7.mark hN hj (.inl hl) rfl (fun s8 J8=>?_) (.inr hl)
 refine wpAny_mono (hs a pins s8 _ _ _ J8 (q a F.new)) (fun f s9 z=>?_) fun _ _ z=>False.elim z
 cases f with
 | next=>
  obtain ⟨σ',H2,J9,r⟩:=z
  exact eL (J9.unmark J7.ok) hN hj hl fun rN oG=>⟨_,H2,oG,r⟩
 | brk=>
  obtain ⟨σ',H2,J9,r⟩:=z
  exact eL (J9.unmark J7.ok) hN hj hl fun rN oG=>⟨_,H2,oG,r⟩
 | cont=>
  obtain ⟨σ',H2,J9,r⟩:=z
  exact eL (J9.unmark J7.ok) hN hj hl fun rN oG=>⟨_,H2,oG,r⟩
 | ret u=>
  obtain ⟨v,σ',H2,J9,rv,r⟩:=z
  exact eL (J9.unmark J7.ok) hN hj hl fun rN oG=>⟨v,_,H2,oG,rv,r⟩
def kO (K:Frag) (sp:Sp) (ta:TA) (M:Addr) (jn:Nat) (ts:TS):TS:=fun D σ H=>ta σ H fun vs H1=>sp (vs ++ []) H1 (fun _ H2=>D.nx σ H2) (vV K M jn ts D σ)
theorem lR {X:Cx} {k j:Nat} {ps:List Str} {sp:Sp} {f x n:Str} {p1 p2 p3:Pos} {e:Expr} {es:List Expr} {ta:TA} {M:Addr} {jn:Nat} {b₀ : Stmt} {g8:List Stmt} {ts:TS} {np ip pos:Pos}
  (h:dX X.prog X.w X.K X.mg X.base (b6 X.prog X.w) f k ps sp) (hr:bM j X.A) (ha:PA X.lZ (e :: es) ta) (hb:Body X) (hm:X.mg x = some (.ref M)) (hN:X.N.Nodup) (hj:X.N[jn]? = some n) (hl:X.env.scope.names.lookup n = some .local)
  (hs:∀ a,iH (X.marked a) (b₀ :: g8) ts) (hk:k≤j:=by decide) (Bj:Gl X f:=by rfl) (qy:(f == ("__debug__" : Str)) = false:=by decide)
  (he:starEach (e :: es) X.env = (false,eval e X.env) :: starEach es X.env:=by rfl) (fX:(backTo p2 (starEach es X.env)).any (·.1) = false:=by rfl)
  (hg:Gl X x:=by rfl) (gJ:(x == ("__debug__" : Str)) = false:=by decide) (vw:swapsWith (.Call (.Name f p1) (e :: es) [] p2) none p3.line X.env = pure false:=by rfl) :
  PS X (.Try [.Expr (.Call (.Name f p1) (e :: es) [] p2) p3] [.ExceptHandler (some (.Name x np)) (some n) (b₀ :: g8) ip] [] [] pos) (kO X.K sp ta M jn ts):=by
 intro pins s σ H D I hw
 refine wpAny_Try_except ?_
 refine wpAny_execs_cons (wpAny_Expr_any (wpAny_mono (sW h hr ha hk Bj qy he fX I hw) (fun v s1 z=>?_) fun ev s1 z=>?_) I.quiet vw)
 ·obtain ⟨y,H1,I1,r1,q1⟩:=z
  exact wpAny_execs_nil (wpAny_execs_nil ⟨σ,H1,I1,q1⟩)
 ·exact mS hb hm hN hj hl hs hg gJ z
end L2
end
section
namespace L2
open PySem PySem.Spec PySem.W PySem.Calls PyProof.Rows
section
variable {P:Program} {w:World} {K:PySem.W.Frag} {mg:Str→Option Value} {base:Heap}
theorem Def.fG {x:Str} {st:Stmt} {N ps:List Str} {k:Nat} {sp:Sp} (D:Def K mg x st ps) (S:aM N ps (ai st)) (len:∀ vs H Q E,sp vs H Q E→vs.length = ps.length)
  (dM:∀ (f:Addr) (bV:Value) (A:Around) (outer:List Env) (s:Shared) (H:Hp) (vs:List V) (Q:VK) (E:XK),bM k (A.deeper (envOfC x (ai st) s.heap.objs.size f bV))→sp vs H Q E→
   ∃ t,iH (dA (b6 P w) P w K mg base N x (ai st) f bV A outer s H E).lZ (aC st) t∧t { nx:=fun _ H'=>Q .bp H',rt:=Q } (start N vs) H):dX P w K mg base (b6 P w) x (k + 1) ps sp:=by
 obtain ⟨f,fd,F,hm,hb⟩:=D.ex
 have kp:=F.kp
 obtain ⟨oc,od,kV,doc,pm,an,bV,ct,jE,rfl,lk,iq⟩:=F.ex
 refine ⟨⟨f,_,jJ lk iq S len fun A outer s H vs Q E hr jH=>?_,hm,kp,hb⟩⟩
 obtain ⟨t,h,q⟩:=dM f bV A outer s H vs Q E hr jH
 exact ⟨t,h.lZ,q⟩
theorem Def.vM {x:Str} {st:Stmt} {N ps:List Str} {k:Nat} {sp:Sp} (D:Def K mg x st ps) (S:aM N ps (ai st)) (len:∀ vs H Q E,sp vs H Q E→vs.length = ps.length)
  (dM:∀ (f:Addr) (bV:Value) (A:Around) (outer:List Env) (s:Shared) (H:Hp) (vs:List V) (Q:VK) (E:XK),bM k (A.deeper (envOfC x (ai st) s.heap.objs.size f bV))→sp vs H Q E→
   ∃ t,iH (dA (b6 P w) P w K mg base N x (ai st) f bV A outer s H E) (aC st) t∧t { nx:=fun _ H'=>Q .bp H',rt:=Q } (start N vs) H):dX P w K mg base (b6 P w) x (k + 1) ps sp:=by
 obtain ⟨f,fd,F,hm,hb⟩:=D.ex
 have kp:=F.kp
 obtain ⟨oc,od,kV,doc,pm,an,bV,ct,jE,rfl,lk,iq⟩:=F.ex
 exact ⟨⟨f,_,jJ lk iq S len fun A outer s H vs Q E hr jH=>dM f bV A outer s H vs Q E hr jH,hm,kp,hb⟩⟩
theorem nu.okN {x:Str} {st:Stmt} {f:Addr} {fd:FuncData} {N ps:List Str} {k:Nat} {sp:Sp} (F:nu K x x st f fd) (S:aM N ps (ai st)) (len:∀ vs H Q E,sp vs H Q E→vs.length = ps.length)
  (dM:∀ (bV:Value) (A:Around) (outer:List Env) (s:Shared) (H:Hp) (vs:List V) (Q:VK) (E:XK),bM k (A.deeper (envOfC x (ai st) s.heap.objs.size f bV))→sp vs H Q E→
   ∃ t,iH (dA (b6 P w) P w K mg base N x (ai st) f bV A outer s H E).lZ (aC st) t∧t { nx:=fun _ H'=>Q .bp H',rt:=Q } (start N vs) H):dZ P w K mg base (b6 P w) (k + 1) f fd ps sp:=by
 obtain ⟨oc,od,kV,doc,pm,an,bV,ct,jE,rfl,lk,iq⟩:=F.ex
 refine jJ lk iq S len fun A outer s H vs Q E hr jH=>?_
 obtain ⟨t,h,q⟩:=dM bV A outer s H vs Q E hr jH
 exact ⟨t,h.lZ,q⟩
end
theorem kh {P:Program} {w:World} {o:List Env} {H:Hp} {s:Shared} {e:Value} {s':Shared} (h:b6 P w o H s (fun _ _ _=>False) e s'):False:=by
 obtain ⟨_,_,_,_,_,_,z⟩:=h
 exact z
theorem m7 {CX:fN} {P:Program} {w:World} {K:Frag} {mg:Str→Option Value} {base:Heap} {N:List Str} {qual:Str} {scope:Scope} {f:Addr} {cd:Value} {A:Around} {outer:List Env} {s:Shared} {H:Hp} {E:XK} :
  Body (dA CX P w K mg base N qual scope f cd A outer s H E).lZ:=⟨rfl,rfl,rfl,rfl⟩
inductive oC (K:Frag) (H:Hp):V→Value→Prop where
 | bp:oC K H .bp (.type "NoneType")
 | exc {a C:Addr} (e:H a = some (n5 C a)) (c:cK K C):oC K H (.ref a) (.ref C)
 | dP {a C:Addr} {D:Option Addr} (e:H a = some (dP C D a)) (c:cK K C):oC K H (.ref a) (.ref C)
theorem oC.xF {X:Cx} {pins:List (Addr×Obj)} {σ : St} {H:Hp} {s:Shared} {x:V} {t u:Value} (y:oC X.K H x t) (I:Inv X pins σ H s) (r:RelV x u):∃ Hh,KitX X.K u t Hh∧Hh s.heap∧u≠.builtin "__main__.__loader__#opaque":=by
 cases y with
 | bp=>cases (show u = Value.none from r); exact ⟨_,kitx_none,trivial,fun z=>nomatch z⟩
 | exc e c=>cases (show u = Value.ref _ from r); exact ⟨_,il c,nZ I.bc e,fun z=>nomatch z⟩
 | dP e c=>cases (show u = Value.ref _ from r); exact ⟨_,il c,(jK I.bc e).at,fun z=>nomatch z⟩
def lN (K:Frag):List V→Hp→VK→Prop:=fun xs H Q=>∃ x c t u b,xs = [x,c]∧oC K H x t∧gX c u∧kitOne K t u = some b∧Q (.bl b) H
theorem fj {X:Cx}:cU X (.builtin "isinstance") (lN X.K):=by
 intro pins s σ H xs us Q I r h
 obtain ⟨x,c,t,u,b,rfl,ty,rc,e,q⟩:=h
 obtain ⟨u1,u2,rfl,r1,r2⟩:=vals2 r
 have e2:u2 = u:=by
  cases rc <;> (cases r2; rfl)
 subst e2
 obtain ⟨Hh,Z,p,ne⟩:=ty.xF I r1
 exact kia_one Z I.dy p e ne fun tk=>⟨.bl b,H,I.tok _,rfl,q⟩
def lO (K:Frag):List V→Hp→VK→Prop:=fun xs H Q=>∃ x tp cs t us b,xs = [x,.ref tp]∧oC K H x t∧H tp = some (.tup cs)∧Paired gX cs us∧kitAny K t us = some b∧Q (.bl b) H
theorem iA:∀ {cs:List V} {us ws:List Value},Paired gX cs us→Vals cs ws→ws = us
 | _,_,_,.nil,.nil=>rfl
 | _,_,_,.cons r t,.cons q z=>by
  have e:=iA t z
  subst e
  cases r <;> (cases q; rfl)
theorem fk {X:Cx}:cU X (.builtin "isinstance") (lO X.K):=by
 intro pins s σ H xs us Q I r h
 obtain ⟨x,tp,cs,t,ws,b,rfl,ty,qs,pc,e,q⟩:=h
 obtain ⟨u1,u2,rfl,r1,r2⟩:=vals2 r
 cases (show u2 = Value.ref tp from r2)
 obtain ⟨Hh,Z,p,ne⟩:=ty.xF I r1
 obtain ⟨_,aH,rv,ob,sA,hc,n,hd⟩:=(show aS X.prog X.w H s.heap tp (.tup cs) from I.bc tp _ qs)
 have ei:=iA pc rv
 subst ei
 obtain ⟨oc,od,xw,jE⟩:=ob
 dsimp only at hc hd
 subst hc hd
 exact kia_tup Z I.dy p sA e ne fun tk=>⟨.bl b,H,I.tok _,rfl,q⟩
section
variable {H:Hp} {Q:VK} {K:Frag}
theorem jw {x c:V} {t u:Value} {b:Bool} (ty:oC K H x t) (hc:gX c u) (e:kitOne K t u = some b) (q:Q (.bl b) H):lN K [x,c] H Q:=⟨x,c,t,u,b,rfl,ty,hc,e,q⟩
theorem eJ {x:V} {tp:Addr} {cs:List V} {t:Value} {us:List Value} {b:Bool} (ty:oC K H x t) (h:H tp = some (.tup cs)) (hc:Paired gX cs us) (e:kitAny K t us = some b) (q:Q (.bl b) H):lO K [x,.ref tp] H Q:=⟨x,tp,cs,t,us,b,rfl,ty,h,hc,e,q⟩
theorem gu {sp:Sp} {ta:TA} {M:Addr} {jn:Nat} {ts:TS} {D:Ends} {σ : St} (h:ta σ H fun vs H1=>sp (vs ++ []) H1 (fun _ H2=>D.nx σ H2) (vV K M jn ts D σ)):kO K sp ta M jn ts D σ H:=h
end
end L2
end
section
namespace L2
open PySem PySem.Spec PySem.W PySem.Calls PyProof.Rows
def kE (K:Frag) (C:Addr) (fK:List Value) (newId:String):Prop:=∀ {h:Heap},K.In h→
  ∃ bm N nm qn bs sn sub ab col dd k0 k1 k2 k3 k5,h.get? C = some (excClassObj nm qn C N bs bm true sn sub ab col dd k0 k1 k2 k3 k5 newId)∧OwnTail h fK bm∧clsIn K C = some ⟨nm,bs,.ref C :: bm,N,qn,true,sn,sub,ab,col,false⟩
theorem nX {K:Frag} {C M N:Addr} {nm qn:Str} {bs:List Value} {sn:List Str} {sub:List Value} {ab:Bool} {col:Option Bool} {dd:Option Addr} {k0 k1 k2 k3 k5:Option Value} {fK:List Value} {newId:String}
  (lk:K.lookup C = some (excClassObj nm qn C N bs (.ref M :: fK) true sn sub ab col dd k0 k1 k2 k3 k5 newId)) (lM:excIn K M fK newId = true):kE K C fK newId:=fun {h} X=>by
 obtain ⟨bm,N',xx,C1,DB,xW,CY,rE,DC,B0,Dz,Dg,Df,De,Dd,C9,mN,hM,hN,ud,T⟩:=nV X lM
 refine ⟨.ref M :: fK,N,nm,qn,bs,sn,sub,ab,col,dd,k0,k1,k2,k3,k5,X _ _ lk,.own hM hN ud .base,?_⟩
 unfold clsIn
 rw [lk]
theorem Cr.rW {K:Frag} {h:Heap} (X:K.In h) (o o':Obj):K.In ((h.push o).push o'):=fun a ob e=>Heap.get?_push_of_some _ (Heap.get?_push_of_some _ (X a ob e))
abbrev newExc (C:Addr) (t:Addr):Obj:={ cls:=.ref C,data:=.fields #[.ref t,.none,.none,.none,.bool false,.none] }
section
variable {prog:Program} {w:World} {A:Around} {E:Value→Shared→Prop} {K:Frag} {C f:Addr} {Bn newId fb:String} {fK:List Value}
theorem gZ {h:Heap} {g:Array GenState} {d:Drawn} {t:Nat} {os:OsState} {us:List Value} {Q:PySem.Fin→Shared→Prop} (FB:ExcBaseFacts Bn newId fb fK) (X:K.In h) (q:kE K C fK newId)
  (hi:findIn K (.ref C) "__init__" = some (some (.ref f))) (hf:typeIn K (.ref f) = some (.type "function")) (hz:us.length≤sizeLine)
  (hq:codeAny (model prog w) A (.call (.ref f) ⟨.ref (h.objs.size + 1) :: us,[]⟩) (fun r s'=>match r with | .ok (.ret v)=>v = .none∧Q (.done (.ret (.ref (h.objs.size + 1)))) s' | .ok _=>False | .error x=>E x s')
   ⟨(h.push { cls:=.type "tuple",data:=.seq us.toArray }).push (newExc C h.objs.size),g,d,t,os⟩) :
  wpAny (model prog w) A (Builtin.«type.__call__» ⟨.ref C :: us,[]⟩) Q E ⟨h,g,d,t,os⟩:=by
 obtain ⟨bm,N,nm,qn,bs,sn,sub,ab,col,dd,k0,k1,k2,k3,k5,hC,T,_⟩:=q X
 repeat (first | with_reducible refine wpAny_loadPart_at hC ?_ | with_reducible refine wpAny_madeBy_exc hC ?_ | wp_step)
 refine codeAny_call_builtin_code (Code.quiet_builtin _ FB.quiet) (wpAny_check_new_subT FB T hC (codeAny_exc_new_subT FB T hC ?_ hz))
 show wpAny _ _ _ _ _ _
 have hg:((h.push { cls:=.type "tuple",data:=.seq us.toArray }).push { cls:=.ref C,data:=.fields #[.ref h.objs.size,.none,.none,.none,.bool false,.none] }).get? (h.objs.size + 1) = some { cls:=.ref C,data:=.fields #[.ref h.objs.size,.none,.none,.none,.bool false,.none] }:=by
  have:=Heap.get?_push_size (h.push { cls:=.type "tuple",data:=.seq us.toArray }) (o:=newExc C h.objs.size) rfl
  rwa [Heap.size_push] at this
 have X1:=Cr.rW X { cls:=.type "tuple",data:=.seq us.toArray } (newExc C h.objs.size)
 have Bv:=Heap.get?_push_of_some { cls:=.ref C,data:=.fields #[.ref h.objs.size,.none,.none,.none,.bool false,.none] } (Heap.get?_push_of_some { cls:=.type "tuple",data:=.seq us.toArray } hC)
 have Bp:(Value.ref C :: bm).contains (.ref C) = true:=by simp
 unfold isInstance
 repeat (first | with_reducible refine wpAny_loadPart_at hg ?_ | (with_reducible refine wpAny_isSubtype_exc Bv ?_; rw [Bp]) | wp_step)
 show wpAny _ _ (typeLookup (.ref C) _) _ _ _
 refine (looks_findIn X1 hi).at ?_
 refine wpAny_holding (wpAny_bind ?_)
 unfold bindSpecial
 refine wpAny_bind ((looks_typeIn X1 hf).at ?_)
 rw [if_pos (by decide)]
 refine wpAny_pure (wpAny_bind (wpAny_call (codeAny_mono hq fun r s' z=>?_)))
 cases r with
 | error e=>exact z
 | ok fl=>
  cases fl with
  | ret v=>
   obtain ⟨rfl,z⟩:=z
   wp_walk
   exact z
  | next=>exact z
  | brk=>exact z
  | cont=>exact z
theorem me {s:Shared} {us:List Value} {Q:Value→Shared→Prop} (FB:ExcBaseFacts Bn newId fb fK) (X:K.In s.heap) (q:kE K C fK newId) (hi:findIn K (.ref C) "__init__" = some (some (.ref f))) (hf:typeIn K (.ref f) = some (.type "function"))
  (hz:us.length≤sizeLine)
  (hq:codeAny (model prog w) (A.under (.builtin "type.__call__" ⟨.ref C :: us,[]⟩)) (.call (.ref f) ⟨.ref (s.heap.objs.size + 1) :: us,[]⟩) (fun r s'=>match r with | .ok (.ret v)=>v = .none∧Q (.ref (s.heap.objs.size + 1)) s' | .ok _=>False | .error x=>E x s')
   { s with heap:=(s.heap.push { cls:=.type "tuple",data:=.seq us.toArray }).push (newExc C s.heap.objs.size) }) :
  wpAny (model prog w) A (call (.ref C) us) Q E s:=by
 obtain ⟨h,g,d,t,os⟩:=s
 obtain ⟨bm,N,nm,qn,bs,sn,sub,ab,col,dd,k0,k1,k2,k3,k5,hC,T,_⟩:=q X
 have f1:=tc_lookup
 have f2:=tc_bind (.ref C)
 have hT:(⟨h,g,d,t,os⟩:Shared).TypeIs (.ref C) "type":=⟨_,hC,rfl⟩
 refine wpAny_call (codeAny_of_tree ?_)
 show wpAny _ _ (callAny (.ref C) _) _ _ _
 repeat (any_goals (first | assumption | with_reducible refine wpAny_loadPart_at hC ?_ | wp_step))
 refine ⟨rfl,codeAny_call_builtin_at (Code.quiet_builtin _ (by decide +kernel)) entry_typeCall (wpAny_check_type_call_sub hC (gZ FB X q hi hf hz ?_))⟩
 exact hq
end
end L2
end
section
namespace L2
open PySem PySem.Spec PySem.W PySem.Calls PyProof.Rows Builtin Builtin.ObjectAttr
def eF (C:Addr) (D:Option Addr) (a:Addr) (h:Heap):Prop:=∃ ob vs,h.get? a = some ob∧ob.cls = .ref C∧ob.data = .fields vs∧vs.size = 6∧vs[1]? = some .none∧ob.dict = D
def b9 (C:Addr) (D:Option Addr) (a:Addr):HO:=.ext (eF C D a)
theorem eF.dw {C a:Addr} {D:Option Addr} {h h':Heap} (x:eF C D a h) (k:∀ o,h.get? a = some o→h'.get? a = some o):eF C D a h':=let ⟨o,vs,e,r⟩:=x; ⟨o,vs,k o e,r⟩
theorem gN {P:Program} {w:World} {H:Hp} {h:Heap} {C a:Addr} {D:Option Addr} (x:eF C D a h):aS P w H h a (b9 C D a):=
 ⟨x,let ⟨o,_,e,_⟩:=x; ⟨o,e⟩,fun _ _ y k=>y.dw k⟩
theorem eM {P:Program} {w:World} {H:Hp} {h:Heap} {C a:Addr} {D:Option Addr} (hk:dB P w H h) (e:H a = some (b9 C D a)):eF C D a h:=(hk a _ e).1
theorem eF.d {C a:Addr} {D:Option Addr} {h:Heap} (x:eF C D a h):eG C D a h:=let ⟨o,vs,h1,h2,h3,_,_,h4⟩:=x; ⟨o,h1,h2,by unfold notCls; rw [h3],h4⟩
section
variable {prog:Program} {w:World} {A:Around} {E:Value→Shared→Prop} {K:Frag} {C a:Addr} {Bn newId fb:String} {fK:List Value}
theorem kA {s:Shared} {D:Option Addr} {rest:List Value} {Q:Value→Shared→Prop} (FB:ExcBaseFacts Bn newId fb fK) (X:K.In s.heap) (q:kE K C fK newId) (e:eF C D a s.heap) (hz:rest.length≤sizeLine)
  (h:∀ h',eF C D a h'→(∀ b o,b≠a→s.heap.get? b = some o→h'.get? b = some o)→Q .none { s with heap:=h' }):wpAny (model prog w) A (call (.builtin fb) (.ref a :: rest)) Q E s:=by
 obtain ⟨hp,g,d,t,os⟩:=s
 obtain ⟨bm,N,nm,qn,bs,sn,sub,ab,col,dd,k0,k1,k2,k3,k5,hC,T,_⟩:=q X
 obtain ⟨ob,vs,he,hc,hd,hs,h1,hD⟩:=e
 refine wpAny_call (codeAny_call_builtin FB.init.plain FB.initEntry (wpAny_check_init_subT FB T hC he hc ?_))
 unfold Builtin.«BaseException.__init__»
 dsimp only
 rw [if_neg (by simp)]
 unfold newTuple Builtin.BaseException.bexcPut
 have e1:=Heap.get?_push_of_some (h:=hp) { cls:=.type "tuple",data:=.seq rest.toArray } he
 have h0:vs[0]? = some (vs[0]'(by omega)):=Array.getElem?_eq_getElem (by omega)
 refine wpAny_bind (wpAny_newObj_type (wpAny_bind (wpAny_bind (wpAny_field e1 hd h0 (wpAny_bind (wpAny_setField e1 hd (by omega) ?_))))) (by show rest.toArray.size≤sizeLine; rw [List.size_toArray]; exact hz))
 have fin:Q .none ⟨(hp.push { cls:=.type "tuple",data:=.seq rest.toArray }).update a (Obj.mapFields (·.setIfInBounds 0 (Value.ref hp.objs.size))),g,d,t,os⟩:=?_
 ·split
  ·exact wpAny_letGo (wpAny_pure fin)
  ·exact wpAny_pure (wpAny_pure fin)
 refine h _ ?_ fun b o hb eo=>?_
 ·have d2:=Obj.data_mapFields hd (·.setIfInBounds 0 (Value.ref hp.objs.size))
  have e2:=Heap.get?_update_self (Obj.mapFields (·.setIfInBounds 0 (Value.ref hp.objs.size))) e1 (Obj.isFreed_of_fields d2)
  refine ⟨_,_,e2,(Obj.cls_mapFields _ _).trans hc,d2,by rw [Array.size_setIfInBounds]; exact hs,by rw [Array.getElem?_setIfInBounds_ne (by decide)]; exact h1,?_⟩
  rw [← hD]
  cases ob with | mk c d dt sl=>cases dt <;> rfl
 ·rw [Heap.get?_update_other _ _ (Ne.symm hb)]
  exact Heap.get?_push_of_some _ eo
theorem hU {h:Heap} {bm:List Value} {self:Value} (T:OwnTail h fK bm) (hp:refuseLoop self "__setattr__" fK = pure ()):refuseLoop self "__setattr__" bm = pure ():=by
 induction T with
 | base=>exact hp
 | own _ _ _ _ ih=>rw [refuseLoop_ref]; exact ih
theorem nA {s:Shared} {name:Str} {v:Value} {Q:Unit→Shared→Prop} (X:K.In s.heap) (q:kE K C fK newId) (pass:∀ self,refuseLoop self "__setattr__" fK = pure ()) (e:eF C none a s.heap)
  (hs:findIn K (.ref C) "__setattr__" = some (some (.builtin "object.__setattr__"))) (sA:mroIn K C (.type "object") = some true) (ha:findIn K (.ref C) name = some none)
  (h:∀ h' tk,eF C (some s.heap.objs.size) a h'→h'.Ns1 s.heap.objs.size (fun y=>if y = name then some v else none)→(∀ b o,b≠a→s.heap.get? b = some o→h'.get? b = some o)→Q () { s with heap:=h',toks:=tk }) :
  wpAny (model prog w) A (setAttr (.ref a) name v) Q E s:=by
 obtain ⟨bm,N,nm,qn,bs,sn,sub,ab,col,dd,k0,k1,k2,k3,k5,hC,T,xY⟩:=q X
 obtain ⟨ob,vs,he,hc,hd,hz,h1,hD⟩:=e
 have I:InstAt s.heap a ob C none:=⟨he,hc,by unfold notCls; rw [hd],by rw [hD]; trivial⟩
 have SF:=PySem.F.store_object
 refine set_plain X I hs ?_
 have rE:Looks (model prog w) s.heap (isInstance (.ref a) (.type "object")) true:=I.type.andThen (looks_mroIn X sA)
 refine codeAny_call_builtin SF.slot.plain SF.entry (@check_slot (model prog w) _ _ { s with toks:=s.toks + 1 } "object.__setattr__" "object" "__setattr__" (.ref a) [.str name s.toks,v] [] _ SF.kind SF.split rE (SF.args (.ref a) (.str name s.toks) v) ?_)
 have hm:Looks (model prog w) s.heap (mroOf (.ref C)) (.ref C :: bm):=(looks_clsIn X xY).andThen .now
 rw [osa_eq,refuse_eq]
 refine wpAny_bind (wpAny_bind (I.type.here (s:={ s with toks:=s.toks + 1 }) (wpAny_bind (hm.here (s:={ s with toks:=s.toks + 1 }) ?_))))
 rw [refuseLoop_ref,hU T (pass _)]
 refine wpAny_pure (wpAny_bind (I.type.here (s:={ s with toks:=s.toks + 1 }) (wpAny_bind ((looks_findIn X ha).here (s:={ s with toks:=s.toks + 1 }) (wpAny_bind (wpAny_pure ?_))))))
 dsimp only
 unfold storeInOwnDict ownStreamTells
 refine wpAny_bind (wpAny_pure ?_)
 have xx:¬ (Value.ref C == Value.type "module") = true:=fun z=>by cases beq_iff_eq.mp z
 rw [if_neg xx]
 unfold ownDictForStores instanceDict
 dsimp only
 refine wpAny_bind (wpAny_bind (wpAny_loadPart he ?_))
 rw [hc]
 dsimp only
 refine wpAny_bind ((looks_clsIn X xY).here (s:={ s with toks:=s.toks + 1 }) ?_)
 dsimp only
 rw [hD]
 dsimp only
 have ty:¬ (!true || !typeHasDict (Value.ref C)) = true:=by simp [typeHasDict]
 rw [if_neg (show ¬ (!true) = true by decide),if_neg ty,hd]
 dsimp only
 refine wpAny_bind (wpAny_alloc' ?_)
 have xV:(s.heap.push { cls:=.type "dict",data:=.dict #[] }).get? a = some ob:=Heap.get?_push_of_some _ he
 have xK:a≠s.heap.objs.size:=Nat.ne_of_lt (Heap.lt_size he)
 refine wpAny_bind (wpAny_update' xV ?_)
 unfold dictMade
 refine wpAny_pure ?_
 have Bk:((s.heap.push { cls:=.type "dict",data:=.dict #[] }).update a fun o=>{ cls:=o.cls,dict:=some s.heap.objs.size,data:=o.data,slots:=o.slots }).get? s.heap.objs.size = some { cls:=.type "dict",data:=.dict #[] }:=
  (Heap.get?_update_ne _ _ _ _ xK.symm).trans (Heap.get?_push_at rfl rfl)
 have A9:((s.heap.push { cls:=.type "dict",data:=.dict #[] }).update a fun o=>{ cls:=o.cls,dict:=some s.heap.objs.size,data:=o.data,slots:=o.slots }).Ns s.heap.objs.size (fun _=>none):=
  ⟨_,#[],_,Bk,rfl,fun e he=>absurd he (by simp),fun _=>rfl⟩
 dsimp only
 unfold storeInDict newKeyGuard
 refine wpAny_bind (wpAny_pure (wpAny_bind (wpAny_nsSet1 (Heap.Ns1.of_empty A9) fun h' qW xM=>?_)))
 obtain ⟨oD,Dx,Dy,A8,vL,nR⟩:=qW.count (Within.cons name v Within.nil)
 refine wpAny_bind (wpAny_lookBehind A8 (by rw [vL]; exact pastItsLine_dict (Nat.le_trans nR (by rw [List.length_cons,List.length_nil,sizeLine_eq]; omega))) ?_)
 refine wpAny_pure ?_
 refine h h' _ ⟨{ ob with dict:=some s.heap.objs.size },vs,(xM.2 a xK).trans (Heap.get?_update_self _ xV ?_),hc,hd,hz,h1,rfl⟩ qW fun b o hb eb=>?_
 ·exact Obj.isFreed_of_fields hd
 ·exact (xM.2 b (Nat.ne_of_lt (Heap.lt_size eb))).trans ((Heap.get?_update_ne _ _ _ _ hb).trans (Heap.get?_push_of_some _ eb))
end
end L2
end
section
namespace L2
open PySem PySem.Spec PySem.W PySem.Calls PyProof.Rows Builtin Builtin.ObjectAttr
section
variable {prog:Program} {w:World} {A:Around} {E:Value→Shared→Prop} {s:Shared} {K:Frag} {x C d:Addr} {name:Str} {v:Value}
theorem n8 {h:Heap} {mA:Str→Option Value} (e:eG C (some d) x h) (n:h.Ns1 d mA):∃ ob od,InstAt h x ob C (some od)∧lookIn name od = some (mA name):=by
 obtain ⟨ob,h1,h2,h3,h4⟩:=e
 obtain ⟨od,ho,hl⟩:=fU n
 exact ⟨ob,od,⟨h1,h2,h3,by rw [h4]; exact ho⟩,hl name⟩
theorem mH {tk:Tok} {ob:Obj} {od:Option Obj} {Q:PySem.Fin→Shared→Prop} (X:K.In s.heap) (I:InstAt s.heap x ob C od) (hf:findObj K C od name = some (.value v)) (hq:Q (.done (.ret v)) s) :
  wpAny (model prog w) A (Builtin.«object.__getattribute__» ⟨[.ref x,.str name tk],[]⟩) Q E s:=by
 obtain ⟨hh,g,dd,t,os⟩:=s
 have k0:=I.type (M:=model prog w)
 have k1:=looks_find (M:=model prog w) X I hf
 repeat (any_goals (first | assumption | with_reducible refine Looks.at (by assumption) ?_ | wp_step))
theorem nS {expr:Bool} {mA:Str→Option Value} {Q:Value→Shared→Prop} (X:K.In s.heap) (e:eG C (some d) x s.heap) (n:s.heap.Ns1 d mA) (c:cK K C) (hd:hasDictIn K C = true) (ha:findIn K (.ref C) name = some none) (hv:mA name = some v) (hh:handedIn v = true)
  (h:Q v { s with toks:=s.toks + 1 }):wpAny (model prog w) A (getAttr (.ref x) name expr) Q E s:=by
 obtain ⟨ob,od,I,hl⟩:=n8 (name:=name) e n
 have ht:=I.type (M:=model prog w)
 have hf:findObj K C (some od) name = some (.value v):=findObj_own hd ha rfl (by rw [hl,hv])
 have hk:Looks (model prog w) s.heap (hookBefore (.ref C)) none:=looks_hook X (by rw [if_pos (by rfl)]; exact c.xT)
 refine wpAny_bind (wpAny_mkText (wpAny_holding (wpAny_bind (ht _ _ _ _ (fun _ _ e=>e) (wpAny_bind (looks_findIn X c.xU _ _ _ _ (fun _ _ e=>e) ?_))))))
 dsimp only
 have b1:(Value.builtin "BaseException.__getattribute__" == Value.builtin "object.__getattribute__") = false:=by decide +kernel
 rw [show (onTheHeap (Value.ref C) && Value.builtin "BaseException.__getattribute__" == Value.builtin "object.__getattribute__") = false by rw [b1,Bool.and_false],if_neg (by decide)]
 refine wpAny_bind (hk _ _ _ _ (fun _ _ e=>e) (wpAny_bind (wpAny_attempt (wpAny_holding ?_))))
 unfold callGetattribute
 rw [show (expr && onTheHeap (Value.builtin "BaseException.__getattribute__")) = false from Bool.and_false _,if_neg (by decide)]
 unfold boundAndCalled
 rw [F.attr_ValueError.ga.bind]
 refine wpAny_bind (wpAny_pure ?_)
 show wpAny _ _ (call (.builtin "BaseException.__getattribute__") [.ref x,.str name s.toks]) _ _ _
 refine wpAny_call (codeAny_call_builtin F.attr_ValueError.ga.plain F.entry_bexc_ga (iw (s:={ s with toks:=s.toks + 1 }) X e.at c.ue (mH (s:={ s with toks:=s.toks + 1 }) X I hf ?_)))
 show wpAny _ _ (handedOut v) _ _ _
 rw [handedOut_of hh]
 exact wpAny_pure h
end
end L2
end
section
namespace L2
open PySem PySem.Spec PySem.W PySem.Calls PyProof.Rows
abbrev yC:List Value:=[.type "ValueError",.type "Exception",.type "BaseException",.type "object"]
theorem pE {H:Hp} {a:Addr} {o:HO} (h:H a = some o):upd H a o = H:=by
 funext b
 unfold upd
 split
 ·rename_i e; rw [e,h]
 ·rfl
structure kB (K:Frag) (C B f:Addr) (attr:Str):Prop where
 q:kE K C yC "ValueError.__new__"
 init:findIn K (.ref C) "__init__" = some (some (.ref f))
 fn:typeIn K (.ref f) = some (.type "function")
 kp:keepIn K (.ref C) = true
 sa:findIn K (.ref C) "__setattr__" = some (some (.builtin "object.__setattr__"))
 ob:mroIn K C (.type "object") = some true
 no:findIn K (.ref C) attr = some none
 hd:hasDictIn K C = true
 br:readsIn K B (.type "type") = true
 bg:specialIn K (.ref B) "__getattribute__" = some (some (.builtin "type.__getattribute__"))
 bf:findCls K (.ref B) (.type "type") "__init__" = some (.val (.builtin "ValueError.__init__"))
section
variable {X:Cx} {C B f:Addr} {attr:Str} {pins:List (Addr×Obj)} {σ : St} {H:Hp} {s:Shared}
def kR (C:Addr) (ta:TA):TE:=fun σ H Q=>ta σ H fun vs H1=>∃ a D v,vs = [.ref a,v]∧H1 a = some (b9 C D a)∧Q .bp H1
theorem lW {pl:Sem Bool} {bn:Str} {p apos pos:Pos} {e:Expr} {es:List Expr} {t:TA} (c:kB X.K C B f attr) (hm:X.mg bn = some (.ref B)) (ha:PA X (e :: es) t) (hg:Gl X bn:=by rfl) (gJ:(bn == ("__debug__" : Str)) = false:=by decide)
  (A2:starEach (e :: es) X.env = (false,eval e X.env) :: starEach es X.env:=by rfl) (fX:(backTo pos (starEach es X.env)).any (·.1) = false:=by rfl)
  (ht:eval (.Call (.Attribute (.Name bn p) "__init__" apos) (e :: es) [] pos) X.env = (do
   let ov ← eval (.Name bn p) X.env
   standAt apos.atName
   let (f,first) ← holding [ov] (getMethod ov "__init__" pl)
   callWith pos f first (backTo pos (starEach (e :: es) X.env)) (backToKw pos (keywordEach [] X.env))):=by rfl) :
  PE X (.Call (.Attribute (.Name bn p) "__init__" apos) (e :: es) [] pos) (kR C t):=by
 intro pins s σ H Q I h
 refine PySem.W.methodCall_KW (pl:=pl) (cB I hg hm ?_ gJ) ht
 refine method_cls I.dy c.bg (cls_value (mc:=.type "type") I.dy c.br c.bf rfl ?_)
 have I1:=I.tok (s.toks + 1)
 refine PyProof.Rows.callWith_builtin1 (bX (ha pos pins _ σ H _ I1 h) fun us s2 ⟨vs,H2,I2,r,a,D,v,ev,hx,q⟩=>?_) A2 fX
 subst ev
 obtain ⟨u1,u2,rfl,r1,r2⟩:=vals2 r
 cases r1
 refine kA PySem.F.excBase_ValueError I2.dy c.q (eM I2.bc hx) (by rw [sizeLine_eq]; simp) fun h' e' k'=>?_
 have J:=I2.write (x:=a) (e:=a) (o:=b9 C D a) (t':=s2.toks) (by rw [hx]; exact True.intro) (.inl rfl) (fun b u hb z=>k' b u hb z) (let ⟨o,_,z,_⟩:=e'; ⟨o,z⟩) (gN e')
 rw [pE hx] at J
 exact ⟨.bp,H2,J,rfl,q⟩
def oR (C:Addr) (attr:Str) (ta tv:TE):TS:=fun D σ H=>tv σ H fun y H1=>ta σ H1 fun x H2=>∃ a,x = .ref a∧H2 a = some (b9 C none a)∧∀ d,H2 d = none→d≠a→D.nx σ (upd (upd H2 a (b9 C (some d) a)) d (.xd [(attr,y)]))
theorem Inv.lt' (I:Inv X pins σ H s) {b:Addr} {o:Obj} (e:s.heap.get? b = some o):s.heap.objs.size≠b:=fun z=>absurd (Heap.lt_size e) (by rw [z]; exact Nat.lt_irrefl _)
theorem nE {o value:Expr} {pos pos':Pos} {ta tv:TE} (c:kB X.K C B f attr) (ha:PE X o ta) (hv:PE X value tv) (hs:swapsWith value (some (.Attribute o attr pos')) pos.line X.env = pure false) :
  PS X (.Assign [.Attribute o attr pos'] value pos) (oR C attr ta tv):=by
 intro pins s σ H D I h
 refine plainObj_wpAny_Assign_Attribute (bX (hv pins s σ H _ I h) fun u s1 ⟨y,H1,I1,ry,q⟩=>bX (ha pins s1 σ H1 _ I1 q) fun ov s2 ⟨x,H2,I2,rx,a,ex,ea,q2⟩=>?_) hs
 subst ex
 obtain rfl:ov = Value.ref a:=rx
 have en:=eM I2.bc ea
 have la:a < s2.heap.objs.size:=let ⟨o,_,z,_⟩:=en; Heap.lt_size z
 have dn:H2 s2.heap.objs.size = none:=I2.bc.fresh (Nat.le_refl _)
 refine nA I2.dy c.q PySem.F.store_ValueError.passes en c.sa c.ob c.no fun h' tk e' n' k'=>?_
 have J:=I2.write (x:=a) (e:=a) (o:=b9 C (some s2.heap.objs.size) a) (t':=tk) (by rw [ea]; exact True.intro) (.inl rfl) (fun b u hb z=>k' b u hb z) (let ⟨o,_,z,_⟩:=e'; ⟨o,z⟩) (gN e')
 have nd:s2.heap.objs.size≠a:=Nat.ne_of_gt la
 refine ⟨σ,_,Inv.oI (a:=s2.heap.objs.size) (o:=.xd [(attr,y)]) J (by rw [ao nd]; exact dn) ⟨_,n',fun g=>?_⟩ (Heap.get?_none_of_le I2.sz) ?_ (fun y c e=>?_) fun p hp=>?_,q2 _ dn nd⟩
 ·show iG (List.lookup g [(attr,y)]) (if g = attr then some u else none)
  by_cases z:g = attr
  ·rw [if_pos z,z]
   simp [List.lookup]
   exact ry
  ·have:(g == attr) = false:=beq_false_of_ne z
   rw [if_neg z]
   simp [List.lookup,this]
   trivial
 ·obtain ⟨m,⟨o,_,_,ho,_⟩,_⟩:=I2.loc
  exact I2.lt' ho
 ·obtain ⟨v,o,ho,_⟩:=I2.cell y c e
  exact (I2.lt' ho).symm
 ·exact (I2.lt' (I2.pin p hp).1).symm
end
end L2
end
section
namespace L2
open PySem PySem.Spec PySem.W PySem.Calls PyProof.Rows
def del (H:Hp) (a:Addr):Hp:=fun b=>if b = a then none else H b
theorem cR {H:Hp} {a b:Addr} (h:b≠a):del H a b = H b:=if_neg h
theorem fi {H:Hp} {a:Addr}:del H a a = none:=if_pos rfl
section
variable {X:Cx} {C B f:Addr} {attr:Str} {pins:List (Addr×Obj)} {σ : St} {H:Hp} {s:Shared}
theorem Inv.drop {a:Addr} {φ : Heap→Prop} (I:Inv X pins σ H s) (e:H a = some (.ext φ)):Inv X pins σ (del H a) s:=by
 have ne:∀ {b:Addr} {o:HO},H b = some o→(∀ ψ,o≠.ext ψ)→b≠a:=fun h1 h2 z=>by
  rw [z,e] at h1
  exact h2 _ (Option.some.inj h1).symm
 have no:∀ {b:Addr},H b = none→del H a b = none:=fun {b} h=>by
  by_cases z:b = a
  ·rw [z]; exact fi
  ·rw [cR z]; exact h
 refine ⟨I.ok,I.os,I.bare,⟨I.base.keep,I.base.slot,fun b u e' n hx=>no (I.base.free b u e' n hx),I.base.there,fun b xs e'=>?_,fun b u v e'=>?_,fun b ps e'=>?_⟩,I.loc,I.cell,no I.free,fun x c e'=>no (I.bZ x c e'),fun p hp=>?_,fun b u e'=>?_,I.len⟩
 ·have z:=I.base.et b xs e'
  rw [cR (ne z fun ψ q=>by cases q)]; exact z
 ·have z:=I.base.d7 b u v e'
  rw [cR (ne z fun ψ q=>by cases q)]; exact z
 ·obtain ⟨m,z⟩:=I.base.eu b ps e'
  exact ⟨m,by rw [cR (ne z fun ψ q=>by cases q)]; exact z⟩
 ·obtain ⟨e1,n,r⟩:=I.pin p hp
  exact ⟨e1,no n,r⟩
 ·by_cases hb:b = a
  ·rw [hb,fi] at e'; cases e'
  ·rw [cR hb] at e'
   refine (I.bc b u e').dw (fun c v _ q=>q) (fun c q=>?_) fun c xs q=>?_
   ·rw [cR (ne q fun ψ z=>by cases z)]; exact q
   ·rw [cR (ne q fun ψ z=>by cases z)]; exact q
theorem j9 {E:XK} {E':Value→Shared→Prop} {e:Addr} {oe:Obj} {vs:Array Value} {a0:Value} (I:Inv X pins σ H s) (hb:Body X) (hn:H e = none) (f0:X.s₀.heap.get? e = none)
  (he:s.heap.get? e = some oe) (hd:oe.data = .fields vs) (h1:vs[1]? = some .none) (h0:vs[0]? = some a0) (q:E oe.cls oe.dict H) :
  wpAny (model X.prog X.w) X.A (leaving X.env (.ref e)) (fun _ rO=>b6 X.prog X.w X.outer X.H₀ X.s₀ E (.ref e) rO) E' s:=by
 have Bh:∀ env∈X.stack,∀ b,env.frame = some b→b∈e :: dz X.stack:=fun env he b hb=>List.mem_cons_of_mem _ (List.mem_filterMap.mpr ⟨env,he,hb⟩)
 have uf:(hideAll s.heap (e :: dz X.stack)).StaysIn s.heap:=fun b o q=>of_hideAll _ q
 have qx:X.A.frames = some (X.env :: X.outer):=by rw [← hb.kS]; exact I.ok.frames
 have hl:s.heap.FunFrames (hideAll s.heap (e :: dz X.stack)) (X.env :: X.outer):=by rw [← hb.kS]; exact funFrames_hide I.stack Bh
 have cv:∀ {b o},s.heap.get? b = some o→b∉e :: dz X.stack→(hideAll s.heap (e :: dz X.stack)).get? b = some o:=fun e n=>hideAll_get _ e n
 have ug:(hideAll s.heap (e :: dz X.stack)).get? e = none:=hideAll_none _ List.mem_cons_self
 refine fF (base:=hideAll s.heap (e :: dz X.stack)) qx hl hb.fr he uf ug hd h1 h0 fun h2 nU up dc=>?_
 have c0:jR (hideAll s.heap (e :: dz X.stack)) (dz X.stack) X.s₀.heap:=fun b o e' n=>by
  obtain ⟨o',z⟩:=I.base.there b o e' (by rw [hb.ex]; simp)
  refine ⟨o',cv z fun m=>?_⟩
  rcases List.mem_cons.mp m with m | m
  ·rw [m,f0] at e'; cases e'
  ·exact n m
 have ct:∀ b o,H b = some o→∃ ob,(hideAll s.heap (e :: dz X.stack)).get? b = some ob:=fun b o e'=>by
  obtain ⟨ob,z⟩:=(I.bc b o e').there
  refine ⟨ob,cv z fun m=>?_⟩
  rcases List.mem_cons.mp m with m | m
  ·rw [m,hn] at e'; cases e'
  ·rw [I.gq b m] at e'; cases e'
 have J:Inv X [] σ H { s with heap:=h2,toks:=s.toks }:=Inv.mF (I.gy fun p hp=>by cases hp) hb.ex uf nU.1 c0 ct (fun p hp=>by rw [hb.pn] at hp; cases hp) up
 refine ⟨e,oe.cls,oe.dict,H,rfl,⟨J.os,J.bare,?_,J.bc,⟨_,_,nU,?_,ct⟩,hn,f0,dc⟩,q⟩
 ·have:=J.base
  rw [hb.ex] at this
  exact this
 ·intro b o e' n
  refine c0 b o e' fun m=>?_
  rw [hb.kS] at m
  unfold dz at m
  rw [List.filterMap_cons,hb.fr] at m
  rcases List.mem_cons.mp m with z | z
  ·exact absurd (Nat.lt_of_lt_of_le (Heap.lt_size e') I.ok.above) (by rw [z]; exact Nat.lt_irrefl _)
  ·exact n z
def eI (C:Addr) (attr:Str):Sp:=fun vs H Q _=>∃ a v,vs = [.ref a,v]∧H a = some (b9 C none a)∧∀ d,H d = none→d≠a→Q .bp (upd (upd H a (b9 C (some d) a)) d (.xd [(attr,v)]))
theorem fS {CX:fN} {k:Nat} {fd:FuncData} {ps:List Str} {us:List Value} {v:V} {Q:VK} (c:kB X.K C B f attr) (F:dZ X.prog X.w X.K X.mg X.base CX k f fd ps (eI C attr)) (hr:bM (k + 1) X.A) (hb:Binds X.K fd ps [])
  (hx:Passes CX X E0) (I:Inv X pins σ H s) (r:Vals [v] us)
  (h:∀ a d,s.heap.objs.size≤a→H a = none→H d = none→d≠a→Q (.ref a) (upd (upd H a (b9 C (some d) a)) d (.xd [(attr,v)]))) :
  wpAny (model X.prog X.w) X.A (call (.ref C) us) (EP X pins σ Q) X.xe s:=by
 have hz:us.length≤sizeLine:=by rw [← r.length,sizeLine_eq]; simp
 have hg:((s.heap.push { cls:=.type "tuple",data:=.seq us.toArray }).push (newExc C s.heap.objs.size)).get? (s.heap.objs.size + 1) = some (newExc C s.heap.objs.size):=by
  have:=Heap.get?_push_size (s.heap.push { cls:=.type "tuple",data:=.seq us.toArray }) (o:=newExc C s.heap.objs.size) rfl
  rwa [Heap.size_push] at this
 have I2:Inv X pins σ (upd H (s.heap.objs.size + 1) (b9 C none (s.heap.objs.size + 1))) { s with heap:=(s.heap.push { cls:=.type "tuple",data:=.seq us.toArray }).push (newExc C s.heap.objs.size) }:=
  I.laid (t':=s.toks) (fun b u q=>Heap.get?_push_of_some _ (Heap.get?_push_of_some _ q)) (Nat.le_succ _) (gN ⟨_,_,hg,rfl,rfl,rfl,rfl,rfl⟩)
 have an:H (s.heap.objs.size + 1) = none:=I.bc.fresh (Nat.le_succ _)
 have hq:eI C attr [.ref (s.heap.objs.size + 1),v] (upd H (s.heap.objs.size + 1) (b9 C none (s.heap.objs.size + 1))) (fun w H2=>w = .bp∧Q (.ref (s.heap.objs.size + 1)) H2) E0:=
  ⟨_,v,rfl,ar,fun d hd nd=>⟨rfl,by rw [nz]; rw [ao nd] at hd; exact h _ d (Nat.le_succ _) an hd nd⟩⟩
 have r2:Vals [V.ref (s.heap.objs.size + 1),v] (Value.ref (s.heap.objs.size + 1) :: us):=.cons rfl r
 have hl:(Value.ref (s.heap.objs.size + 1) :: us ++ []).length = ps.length:=by
  rw [List.append_nil,← r2.length]
  exact F.len _ _ _ _ hq
 have nj:=hb { s with heap:=(s.heap.push { cls:=.type "tuple",data:=.seq us.toArray }).push (newExc C s.heap.objs.size) } (Value.ref (s.heap.objs.size + 1) :: us) I2.dy hl
 rw [List.append_nil] at nj
 refine me PySem.F.excBase_ValueError I.dy c.q c.init c.fn hz (codeAny_mono (F.run _ X.stack _ _ ⟨Value.ref (s.heap.objs.size + 1) :: us,[]⟩ (Value.ref (s.heap.objs.size + 1) :: us) _ _ E0 (hr.make C us []) (I2.qI.make C us []) nj r2 hq) fun rr s' su=>?_)
 cases rr with
 | error e=>exact hx pins σ _ _ e s' I2 su
 | ok fl=>
  cases fl with
  | ret u=>
   obtain ⟨w',H',I3,rv,ev,q3⟩:=I2.after su
   subst ev
   exact ⟨rv,⟨V.ref (s.heap.objs.size + 1),H',I3,rfl,q3⟩⟩
  | next=>exact False.elim su
  | brk=>exact False.elim su
  | cont=>exact False.elim su
end
end L2
end
section
namespace L2
open PySem PySem.Spec PySem.W PySem.Calls PyProof.Rows
structure tm (P:Program) (w:World) (K:Frag) (mg:Str→Option Value) (base:Heap) (CX:fN) (k:Nat) (C B:Addr) (attr:Str) (ps:List Str):Prop where
 ex:∃ f fd,kB K C B f attr∧dZ P w K mg base CX k f fd ps (eI C attr)∧Binds K fd ps []
section
variable {X:Cx} {C B f:Addr} {attr:Str}
def ro (C:Addr) (attr:Str) (ta:TA):TE:=fun σ H Q=>ta σ H fun vs H1=>∃ v,vs = [v]∧∀ a d,H1 a = none→H1 d = none→d≠a→Q (.ref a) (upd (upd H1 a (b9 C (some d) a)) d (.xd [(attr,v)]))
theorem p4 {CX:fN} {k j:Nat} {ps:List Str} {x:Str} {p pos:Pos} {e:Expr} {es:List Expr} {t:TA} (N:tm X.prog X.w X.K X.mg X.base CX k C B attr ps) (hr:bM j X.A) (hm:X.mg x = some (.ref C)) (hx:Passes CX X E0)
  (ha:PA X (e :: es) t) (hk:k + 1≤j:=by decide) (hg:Gl X x:=by rfl) (gJ:(x == ("__debug__" : Str)) = false:=by decide) (he:starEach (e :: es) X.env = (false,eval e X.env) :: starEach es X.env:=by rfl) (fX:(backTo pos (starEach es X.env)).any (·.1) = false:=by rfl) :
  PE X (.Call (.Name x p) (e :: es) [] pos) (ro C attr t):=by
 intro pins s σ H Q I h
 obtain ⟨f,fd,c,F,hb⟩:=N.ex
 refine wpAny_Call_Name_kw (cB I hg hm ?_ gJ)
 refine PySem.W.callWith_K (h₀:=X.base) I.ok.mod.qh c.kp (bX (ha pos pins s σ H _ I h) fun us s1 ⟨vs,H1,I1,r,v,ev,q⟩=>⟨I1.dy,?_⟩) he fX
 subst ev
 exact fS c F (hr.mono hk) hb hx I1 r fun a d _=>q a d
def jt (Ex:XK) (C:Addr) (attr:Str) (ta:TA):TS:=fun _ σ H=>ta σ H fun vs H1=>∃ v,vs = [v]∧∀ d,H1 d = none→Ex (.ref C) (some d) (upd H1 d (.xd [(attr,v)]))
theorem jY {M:Model} {A:Around} {E:Value→Shared→Prop} {env:Env} {s:Shared} {x:Sem Value} {Q:Flow→Shared→Prop} {nm q:Str} {N:Addr} {bs bm:List Value} {hdct:Bool} {sn:List Str} {sub:List Value} {ab:Bool} {col:Option Bool} {dd:Option Addr} {k0 k1 k2 k3 k5:Option Value} {newId:String}
  (ir:bm.contains (.type "BaseException") = true) (hh:A.handled = none)
  (h:wpAny M A x (fun v s₁=>∃ e oe vs,v = .ref e∧s₁.heap.get? C = some (excClassObj nm q C N bs bm hdct sn sub ab col dd k0 k1 k2 k3 k5 newId)∧s₁.heap.get? e = some oe∧oe.cls = .ref C∧oe.data = .fields vs∧vs[1]? = some .none∧E (.ref e) s₁) E s) :
  wpAny M A (raiseStmt env (some x) none) Q E s:=by
 have Bq:(Value.ref C :: bm).contains (.type "BaseException") = true:=by rw [List.contains_cons,ir,Bool.or_true]
 unfold raiseStmt
 refine wpAny_bind (wpAny_mono h (fun v s₁ h₁=>?_) fun _ _ x=>x)
 obtain ⟨e,⟨oc,od,xw,jE⟩,vs,rfl,hC,he,hc,hd,h1,hE⟩:=h₁
 dsimp only at hc hd
 subst hc hd
 obtain ⟨hp,g,d,tk,os⟩:=s₁
 have hf:∀ {Q':Value→Shared→Prop},Q' .none ⟨hp,g,d,tk,os⟩→wpAny M A (field (.ref e) 1) Q' E ⟨hp,g,d,tk,os⟩:=fun q=>wpAny_field he rfl h1 q
 repeat (first | with_reducible refine hf ?_ | with_reducible refine wpAny_loadPart_at he ?_ | with_reducible refine wpAny_loadPart_at hC ?_ | (with_reducible refine wpAny_isSubtype_exc hC ?_; rw [Bq]) | wp_step)
 exact wpAny_raiseNew_none hh hE
end
end L2
end
section
namespace L2
open PySem PySem.Spec PySem.W PySem.Calls PyProof.Rows
section
variable {X:Cx} {C B f:Addr} {attr:Str}
theorem jZ {CX:fN} {k j:Nat} {ps:List Str} {x:Str} {np cb pos:Pos} {e:Expr} {es:List Expr} {ta:TA} {Ex:XK} (N:tm X.prog X.w X.K X.mg X.base CX k C B attr ps) (hr:bM j X.A) (hm:X.mg x = some (.ref C)) (AX:Passes CX X E0)
  (hc:X.calm = true) (ha:PA X (e :: es) ta)
  (hx:∀ pins s σ H a oe vs a0,Inv X pins σ H s→H a = none→X.s₀.heap.get? a = none→s.heap.get? a = some oe→oe.cls = .ref C→oe.data = .fields vs→vs[1]? = some .none→vs[0]? = some a0→Ex (.ref C) oe.dict H→X.xe (.ref a) s)
  (hk:k + 1≤j:=by decide) (hg:Gl X x:=by rfl) (gJ:(x == ("__debug__" : Str)) = false:=by decide) (he:starEach (e :: es) X.env = (false,eval e X.env) :: starEach es X.env:=by rfl) (fX:(backTo cb (starEach es X.env)).any (·.1) = false:=by rfl) :
  PS X (.Raise (some (.Call (.Name x np) (e :: es) [] cb)) none pos) (jt Ex C attr ta):=by
 intro pins s σ H D I h
 obtain ⟨f,fd,c,F,hb⟩:=N.ex
 obtain ⟨bm,Nn,nm,qn,bs,sn,sub,ab,col,dd,k0,k1,k2,k3,k5,hC,T,_⟩:=c.q I.ok.mod.qh
 have ir:bm.contains (.type "BaseException") = true:=T.hasType PySem.F.excBase_ValueError.hasBase
 have key:wpAny (model X.prog X.w) X.A (eval (.Call (.Name x np) (e :: es) [] cb) X.env) (fun v s₁=>∃ a oe vs,v = .ref a∧s₁.heap.get? C = some (excClassObj nm qn C Nn bs bm true sn sub ab col dd k0 k1 k2 k3 k5 "ValueError.__new__")∧s₁.heap.get? a = some oe∧oe.cls = .ref C∧oe.data = .fields vs∧vs[1]? = some .none∧X.xe (.ref a) s₁) X.xe s:=by
  refine wpAny_Call_Name_kw (cB I hg hm ?_ gJ)
  refine PySem.W.callWith_K (h₀:=X.base) I.ok.mod.qh c.kp (bX (ha cb pins s σ H _ I h) fun us s1 ⟨vs,H1,I1,r,v,ev,q⟩=>⟨I1.dy,?_⟩) he fX
  subst ev
  refine bX (fS (Q:=fun w H2=>∃ a d,w = .ref a∧s1.heap.objs.size≤a∧H1 a = none∧H1 d = none∧d≠a∧H2 = upd (upd H1 a (b9 C (some d) a)) d (.xd [(attr,v)])) c F (hr.mono hk) hb AX I1 r fun a d h1 h2 h3 h4=>⟨a,d,rfl,h1,h2,h3,h4,rfl⟩) fun w s3 ⟨w',H2,I3,rP,a,d,ew,qB,kH,Bs,vO,eH⟩=>?_
  subst ew eH
  cases rP
  have ex:upd (upd H1 a (b9 C (some d) a)) d (.xd [(attr,v)]) a = some (b9 C (some d) a):=by rw [ao (Ne.symm vO)]; exact ar
  obtain ⟨oe,ws,g1,g2,g3,g4,g5,g6⟩:=eM I3.bc ex
  have J:=I3.drop ex
  have ed:del (upd (upd H1 a (b9 C (some d) a)) d (.xd [(attr,v)])) a = upd H1 d (.xd [(attr,v)]):=by
   funext b
   by_cases z:b = a
   ·rw [z,fi,ao (Ne.symm vO),kH]
   ·rw [cR z]
    by_cases y:b = d
    ·rw [y,ar,ar]
    ·rw [ao y,ao y,ao z]
  rw [ed] at J
  have hn:upd H1 d (.xd [(attr,v)]) a = none:=by rw [ao (Ne.symm vO)]; exact kH
  have w0:ws[0]? = some (ws[0]'(by omega)):=Array.getElem?_eq_getElem (by omega)
  exact ⟨a,oe,ws,rfl,I3.bk _ _ hC,g1,g2,g3,g5,hx pins s3 σ _ a oe ws _ J hn (Heap.get?_none_of_le (Nat.le_trans I1.sz qB)) g1 g2 g3 g5 w0 (by rw [g6]; exact q d Bs)⟩
 rw [arm_exec_Raise]
 exact wpAny_bind (wpAny_standAt (jY (C:=C) (nm:=nm) (q:=qn) (N:=Nn) (bs:=bs) (bm:=bm) (hdct:=true) (sn:=sn) (sub:=sub) (ab:=ab) (col:=col) (dd:=dd) (k0:=k0) (k1:=k1) (k2:=k2) (k3:=k3) (k5:=k5) (newId:= "ValueError.__new__") ir (I.ok.hd hc)
  (wpAny_bind (wpAny_mono key (fun v s₃ h₃=>wpAny_bind (wpAny_standAt (wpAny_pure h₃))) fun _ _ x=>x))))
theorem pN {P:Program} {w:World} {K:Frag} {mg:Str→Option Value} {base:Heap} {N:List Str} {qual:Str} {scope:Scope} {f:Addr} {cd:Value} {A:Around} {outer:List Env} {s0:Shared} {H0:Hp} {E:XK} {C:Addr} :
  ∀ pins s σ H a oe vs a0,Inv (dA (b6 P w) P w K mg base N qual scope f cd A outer s0 H0 E) pins σ H s→H a = none→(dA (b6 P w) P w K mg base N qual scope f cd A outer s0 H0 E).s₀.heap.get? a = none→s.heap.get? a = some oe→oe.cls = .ref C→oe.data = .fields vs→vs[1]? = some .none→vs[0]? = some a0→E (.ref C) oe.dict H→
   (dA (b6 P w) P w K mg base N qual scope f cd A outer s0 H0 E).xe (.ref a) s:=fun pins s σ H a oe vs a0 I hn f0 he hc hd h1 h0 q=>j9 I oy hn f0 he hd h1 h0 (by rw [hc]; exact q)
def q5 (K:Frag) (ta:TE) (attr:Str):TE:=fun σ H Q=>ta σ H fun x H1=>∃ a C d fs v,x = .ref a∧(H1 a = some (dP C (some d) a)∨H1 a = some (b9 C (some d) a))∧H1 d = some (.xd fs)∧cK K C∧hasDictIn K C = true∧findIn K (.ref C) attr = some none∧fs.lookup attr = some v∧Q v H1
theorem iX {e:Expr} {ta:TE} {pos:Pos} (he:PE X e ta) (hb:attributeBase e attr X.env (eval e X.env) = eval e X.env):PE X (.Attribute e attr pos) (q5 X.K ta attr):=by
 intro pins s σ H Q I h
 refine oz hb (bX (he pins s σ H _ I h) fun u s1 ⟨x,H1,I1,rx,a,C,d,fs,v,ex,ea,hd,c,hh,hf,l,q⟩=>?_)
 subst ex
 obtain rfl:u = Value.ref a:=rx
 have ed:eG C (some d) a s1.heap:=by
  rcases ea with ea | ea
  ·exact jK I1.bc ea
  ·exact (eM I1.bc ea).d
 obtain ⟨mA,n,r⟩:=(show ∃ mA,s1.heap.Ns1 d mA∧∀ f,iG (fs.lookup f) (mA f) from I1.bc d _ hd)
 obtain ⟨u,hu,ru⟩:=iG.some_of (v:=v) (o:=mA attr) (by rw [← l]; exact r attr)
 exact nS I1.dy ed n c hh hf hu (kg ru) ⟨v,H1,I1.tok _,ru,q⟩
end
end L2
end
section
namespace L2
open PySem PySem.Spec PySem.W PySem.Calls PyProof.Rows
section
variable {P:Program} {w:World} {K:PySem.W.Frag} {mg:Str→Option Value} {base:Heap}
theorem nu.zY {x qual:Str} {st:Stmt} {f:Addr} {fd:FuncData} {N ps:List Str} {k:Nat} {sp:Sp} (F:nu K x qual st f fd) (S:aM N ps (ai st)) (len:∀ vs H Q E,sp vs H Q E→vs.length = ps.length)
  (dM:∀ (bV:Value) (A:Around) (outer:List Env) (s:Shared) (H:Hp) (vs:List V) (Q:VK) (E:XK),bM k (A.deeper (envOfC qual (ai st) s.heap.objs.size f bV))→sp vs H Q E→
   ∃ t,iH (dA (b6 P w) P w K mg base N qual (ai st) f bV A outer s H E).lZ (aC st) t∧t { nx:=fun _ H'=>Q .bp H',rt:=Q } (start N vs) H):dZ P w K mg base (b6 P w) (k + 1) f fd ps sp:=by
 obtain ⟨oc,od,kV,doc,pm,an,bV,ct,jE,rfl,lk,iq⟩:=F.ex
 refine jJ lk iq S len fun A outer s H vs Q E hr jH=>?_
 obtain ⟨t,h,q⟩:=dM bV A outer s H vs Q E hr jH
 exact ⟨t,h.lZ,q⟩
end
def sk (s:Stmt) (j:Nat):Stmt:=match s with
 | .ClassDef _ _ _ b _ _ _ _ _ _ _=>b.getD j (.Pass ⟨0,0,0,0⟩)
 | _=>s
section
variable {σ : St} {H:Hp} {Q:VK}
theorem gx {C:Addr} {ta:TA} (h:ta σ H fun vs H1=>∃ a D v,vs = [.ref a,v]∧H1 a = some (b9 C D a)∧Q .bp H1):kR C ta σ H Q:=h
theorem iR {C:Addr} {attr:Str} {ta tv:TE} {D:Ends} (h:tv σ H fun y H1=>ta σ H1 fun x H2=>∃ a,x = .ref a∧H2 a = some (b9 C none a)∧∀ d,H2 d = none→d≠a→D.nx σ (upd (upd H2 a (b9 C (some d) a)) d (.xd [(attr,y)]))):oR C attr ta tv D σ H:=h
theorem lA {C:Addr} {attr:Str} {ta:TA} (h:ta σ H fun vs H1=>∃ v,vs = [v]∧∀ a d,H1 a = none→H1 d = none→d≠a→Q (.ref a) (upd (upd H1 a (b9 C (some d) a)) d (.xd [(attr,v)]))):ro C attr ta σ H Q:=h
theorem eU {Ex:XK} {C:Addr} {attr:Str} {ta:TA} {D:Ends} (h:ta σ H fun vs H1=>∃ v,vs = [v]∧∀ d,H1 d = none→Ex (.ref C) (some d) (upd H1 d (.xd [(attr,v)]))):jt Ex C attr ta D σ H:=h
theorem lh {K:Frag} {ta:TE} {attr:Str} (h:ta σ H fun x H1=>∃ a C d fs v,x = .ref a∧(H1 a = some (dP C (some d) a)∨H1 a = some (b9 C (some d) a))∧H1 d = some (.xd fs)∧cK K C∧hasDictIn K C = true∧findIn K (.ref C) attr = some none∧fs.lookup attr = some v∧Q v H1):q5 K ta attr σ H Q:=h
end
end L2
end
section
namespace L2
open PySem PySem.Spec PySem.W PySem.Calls PyProof.Rows
def zv (K:Frag):R2:=fun x y H Q=>∃ p q a b c d,x = .ref p∧y = .ref q∧SqT K H p [.int a,.int b]∧SqT K H q [.int c,.int d]∧Q (.bl (!decide (a = c∧b = d))) H
theorem lC {σ : St} {H:Hp} {Q:VK} {ta:TE} (h:ta σ H fun x H1=>Q (.bl (decide (x = .bp))) H1):rB ta σ H Q:=h
end L2
end
section
namespace L2
open PySem PySem.Spec PySem.W PySem.Calls PyProof.Rows
def AllIn (cells:List (Str×Addr)):List (Str×Addr)→Prop
 | []=>True
 | p :: r=>cells.lookup p.1 = some p.2∧AllIn cells r
theorem AllIn.get {cells:List (Str×Addr)}:∀ {cl:List (Str×Addr)},AllIn cells cl→∀ {x c},cl.lookup x = some c→cells.lookup x = some c
 | [],_,x,c,e=>by cases e
 | (n,d) :: r,h,x,c,e=>by
  rw [List.lookup_cons] at e
  cases q:x == n with
  | true=>
   rw [q] at e; cases e
   have z:x = n:=by simpa using q
   subst z
   exact h.1
  | false=>rw [q] at e; exact AllIn.get h.2 e
def qR (X:Cx) (ifs:List Expr) (t:TT):Prop:=
 ∀ (pins:List (Addr×Obj)) (s:Shared) (σ : St) (H:Hp) (Q:Bool→Hp→Prop),Inv X pins σ H s→t σ H Q→
  wpAny (model X.prog X.w) X.A (forIn ifs true fun c r=>if r = true then do let ok ← isTrue c X.env (eval c X.env); pure (ForInStep.yield ok) else pure (ForInStep.yield r)) (TP X pins σ Q) X.xe s
def js:TT:=fun _ H Q=>Q true H
theorem h7 {X:Cx}:qR X [] js:=fun _ _ _ H _ I h=>wpAny_tests_nil ⟨H,I,h⟩
section
variable {prog:Program} {w:World} {A:Around} {R:Result→Shared→Prop} {s:Shared}
theorem ki {elt target iter:Expr} {ifs:List Expr} {scope:Scope} {pos:Pos} {it acc:Value} {env:Env} (I:Nat→Shared→Prop)
  (turn:∀ n s,I n s→wpAny (model prog w) A (pyNext it) (fun r s₁=>match r with
   | none=>R (.ok .next) s₁
   | some v=>wpAny (model prog w) A (letOwnedTupleGo target it v) (fun _ s1=>wpAny (model prog w) A (assign target env v) (fun _ s₂=>
     wpAny (model prog w) A (forIn ifs true fun c r=>if r = true then do let ok ← isTrue c env (eval c env); pure (ForInStep.yield ok) else pure (ForInStep.yield r)) (fun ok s₃=>
      if ok = true then wpAny (model prog w) A (eval elt env) (fun x s₄=>wpAny (model prog w) A (call (.builtin "list.append") [acc,x]) (fun _ s₅=>∃ m,m < n∧I m s₅) (fun _ _=>False) s₄) (fun _ _=>False) s₃
      else ∃ m,m < n∧I m s₃) (fun _ _=>False) s₂) (fun _ _=>False) s1) (fun _ _=>False) s₁) (fun _ _=>False) s)
  (n:Nat) (h:I n s):codeAny (model prog w) A (.compLoop (.ListComp elt [⟨target,iter,ifs,0⟩] scope pos) 0 it acc env) R s:=by
 refine codeAny_loop rfl I (fun n s hI=>?_) n h
 show wpAny _ A ((compTurn (.ListComp elt [⟨target,iter,ifs,0⟩] scope pos) 0 it acc env).onRaise (fun x=>do noteFrame x env; theTreesLotGoes x)) _ _ s
 refine wpAny_noted ?_
 rw [compTurn_list]
 refine wpAny_bind (wpAny_standAt (wpAny_bind (wpAny_mono (turn n s hI) (fun r s₁ h₁=>?_) fun _ _ z=>False.elim z)))
 cases r with
 | none=>exact wpAny_pure h₁
 | some v=>
  refine wpAny_bind (wpAny_mono h₁ (fun _ s1 h1=>wpAny_bind (wpAny_mono h1 (fun _ s₂ h₂=>wpAny_bind (wpAny_mono h₂ (fun ok s₃ h₃=>?_) fun _ _ z=>False.elim z)) fun _ _ z=>False.elim z)) fun _ _ z=>False.elim z)
  cases ok with
  | false=>exact wpAny_pure ⟨rfl,h₃⟩
  | true=>
   exact wpAny_bind (wpAny_bind (wpAny_mono h₃ (fun x s₄ h₄=>wpAny_bind (wpAny_mono h₄ (fun _ s₅ h₅=>wpAny_pure (wpAny_pure ⟨rfl,h₅⟩)) fun _ _ z=>False.elim z)) fun _ _ z=>False.elim z))
end
def Cx.block (X:Cx) (scope:Scope) (cl:List (Str×Addr)) (C:Addr) (N:List Str) (fp:List Addr) (pins:List (Addr×Obj)) (s:Shared) (H:Hp):Cx:=
 { X with N:=N,s₀:=s,H₀:=H,env:=compEnvC scope cl C X.env,outer:=X.stack,ex:=fp,fn:=fun _=>false,pn:=X.pn ++ pins,xe:=fun _ _=>False }
def cZ (n:Nat) (fr:List Nat) (σ : St):St:=List.replicate n none ++ fr.map fun i=>(σ[i]?).join
structure gY (X:Cx) (scope:Scope) (cl:List (Str×Addr)) (tg:List Str) (fr:List (Str×Nat)):Prop where
 kind:scope.kind = .function
 qa:∀ y∈scope.names,y.2≠.cell
 names:∀ y∈scope.names,y.2 = .local→scope.names.lookup y.1 = some .local
 wt:closureFor scope X.env = pure cl
 pz:AllIn X.env.cells cl
 has:((relabel scope X.env).names.all fun p=>!(p.2 == .cell || p.2 == .free) || (cl.lookup p.1).isSome) = true
 BB:∀ p∈fr,X.N[p.2]? = some p.1∧uk X.env.scope p.1∧(cl.lookup p.1).isSome = true∧(relabel scope X.env).names.lookup p.1 = some .cell
 BC:∀ p∈fr,X.env.kindOf p.1 = some .cell
section
variable {X:Cx} {pins:List (Addr×Obj)} {σ : St} {H:Hp} {s:Shared} {scope:Scope} {cl:List (Str×Addr)} {tg:List Str} {fr:List (Str×Nat)}
theorem lookup_mem {κ α : Type} [BEq κ] [LawfulBEq κ]:∀ {l:List (κ×α)} {x : κ} {v : α},l.lookup x = some v→(x,v)∈l
 | [],_,_,e=>by cases e
 | (k,u) :: r,x,v,e=>by
  rw [List.lookup_cons] at e
  cases q:x == k with
  | true=>
   rw [q] at e; cases e
   have z:x = k:=by simpa using q
   subst z
   exact List.mem_cons_self
  | false=>rw [q] at e; exact List.mem_cons_of_mem _ (lookup_mem e)
theorem iD {C:Addr} {fp:List Addr} {h':Heap} {t':Nat} {m:Str→Option Value} (B:gY X scope cl tg fr) (I:Inv X pins σ H s) (hf:∀ b∈fp,iL X pins H b∧b < s.heap.objs.size) (hC:s.heap.objs.size≤C) (hn:h'.Ns C m) (k:∀ b o,s.heap.get? b = some o→h'.get? b = some o)
  {H2:Hp} (hu:Un (dz X.stack) fp H H2 s.heap h') (bc:dB X.prog X.w H2 h') (jI:H2 C = none) :
  Inv (X.block scope cl C (tg ++ fr.map (·.1)) fp pins s H) [] (cZ tg.length (fr.map (·.2)) σ) H2 { s with heap:=h',toks:=t' }:=by
 have cells:∀ {x c},cl.lookup x = some c→X.env.cells.lookup x = some c:=fun e=>B.pz.get e
 have cC:∀ x c,X.env.cells.lookup x = some c→c≠C:=fun x c e z=>by
  obtain ⟨v,o,ho,_⟩:=I.cell x c e
  exact absurd (Nat.lt_of_lt_of_le (Heap.lt_size ho) hC) (by rw [z]; exact Nat.lt_irrefl _)
 have cellK:∀ {c v},s.heap.IsCell c v→h'.IsCell c v:=fun {c v} ⟨o,e,d⟩=>⟨o,k c o e,d⟩
 have pw:∀ x c,X.env.cells.lookup x = some c→c∉fp∧H2 c = none:=fun x c e=>by
  have nf:c∉fp:=fun z=>(hf c z).1.2.2.2.2.1 x c e rfl
  obtain ⟨v,o,ho,_⟩:=I.cell x c e
  exact ⟨nf,hu.free c o ho (I.bZ x c e) nf⟩
 have u6:∀ p∈X.pn ++ pins,p.1∉fp∧H2 p.1 = none:=fun p hp=>by
  have nf:p.1∉fp:=fun z=>(hf p.1 z).1.2.2.2.2.2 p hp rfl
  obtain ⟨e,n,_⟩:=I.pin p hp
  exact ⟨nf,hu.free p.1 _ e n nf⟩
 have y8:∀ b∈dz X.stack,b < s.heap.objs.size:=fun b hb=>by
  obtain ⟨_,o,ho,_⟩:=I.stack.mem hb
  exact Heap.lt_size ho
 refine ⟨⟨I.ok.mod,B.kind,I.ok.glob,I.ok.blt,hC,fun x y c h1 h2=>I.ok.inj x y c (cells h1) (cells h2),fun x hx=>?_,fun x c z=>absurd (show false = true from z) Bool.false_ne_true,I.ok.hd,I.ok.frames,.inl rfl,fun b hb=>?_,fun b o e=>⟨?_,?_⟩,?_,fun b o e z=>?_,fun b hb z=>?_,I.stack,I.gq⟩,
  rfl,I.bare,hu,⟨m,hn,fun i x v h1 h2 h3=>?_⟩,fun x c e=>?_,jI,fun x c e=>(pw x c (cells e)).2,fun p hp=>?_,bc,?_⟩
 ·have e:(relabel scope X.env).names.lookup x = some .cell∨(relabel scope X.env).names.lookup x = some .free:=hx
  have mem:∃ kk,(x,kk)∈(relabel scope X.env).names∧(kk == NameKind.cell || kk == NameKind.free) = true:=by
   rcases e with e | e
   ·exact ⟨_,lookup_mem e,rfl⟩
   ·exact ⟨_,lookup_mem e,rfl⟩
  obtain ⟨kk,mm,hk⟩:=mem
  have z:=List.all_eq_true.mp B.has _ mm
  simp only [hk,Bool.not_true,Bool.false_or] at z
  exact Option.isSome_iff_exists.mp z
 ·exact ⟨fun z=>absurd (Nat.lt_of_lt_of_le (hf b hb).2 hC) (by rw [z]; exact Nat.lt_irrefl _),fun x c e z=>(pw x c (cells e)).1 (z▸hb)⟩
 ·exact (I.bs b o e).1
 ·exact (I.bs b o e).2
 ·exact Nat.le_trans I.ok.ox I.sz
 ·rcases (hf b z).1.2.2.2.1 with q | q
  ·exact I.ok.j6 b o e q
  ·exact absurd (Nat.lt_of_lt_of_le (Heap.lt_size (I.ok.bs b o e).1) q) (Nat.lt_irrefl _)
 ·have z':b∈dz X.stack:=z
  rcases List.mem_cons.mp (I.dv b z') with q | q
  ·exact (hf b hb).1.2.1 q
  ·exact (hf b hb).1.2.2.1 q
 ·have hi:tg.length≤i:=by
   refine Nat.le_of_not_lt fun z=>?_
   unfold cZ at h2
   rw [List.getElem?_append_left (by simpa using z),List.getElem?_replicate,if_pos z] at h2
   cases h2
  have sJ:(fr.map (·.1))[i - tg.length]? = some x:=by
   have z:(tg ++ fr.map (·.1))[i]? = some x:=h1
   rw [List.getElem?_append_right hi] at z
   exact z
  have vW:((fr.map (·.2)).map fun i=>(σ[i]?).join)[i - tg.length]? = some (some v):=by
   unfold cZ at h2
   rw [List.getElem?_append_right (by simpa using hi)] at h2
   simpa using h2
  rw [List.getElem?_map] at sJ
  rw [List.getElem?_map,List.getElem?_map] at vW
  cases q:fr[i - tg.length]? with
  | none=>rw [q] at sJ; cases sJ
  | some p=>
   rw [q] at sJ vW
   have ex:p.1 = x:=Option.some.inj sJ
   have ev:(σ[p.2]?).join = some v:=Option.some.inj vW
   subst ex
   obtain ⟨f1,f2,f3,f4⟩:=B.BB p (List.mem_of_getElem? q)
   have eσ : σ[p.2]? = some (some v):=by
    cases z : σ[p.2]? with
    | none=>rw [z] at ev; cases ev
    | some w'=>rw [z] at ev; exact congrArg some ev
   obtain ⟨m0,sC,Bf⟩:=I.loc
   obtain ⟨u,r,l⟩:=Bf p.2 p.1 v f1 eσ f2
   refine ⟨u,r,?_⟩
   obtain ⟨c,hc⟩:=Option.isSome_iff_exists.mp f3
   have hk:=B.BC p (List.mem_of_getElem? q)
   rcases l with ⟨kl,_⟩ | ⟨_,c',uh,z⟩
   ·rw [hk] at kl; cases kl
   ·have e':=cells hc
    rw [uh] at e'
    cases e'
    exact .inr ⟨.inl f4,c,hc,cellK z⟩
 ·obtain ⟨v,z⟩:=I.cell x c (cells e)
  exact ⟨v,cellK z⟩
 ·rw [List.append_nil] at hp
  obtain ⟨e,n,ne,nf,d⟩:=I.pin p hp
  refine ⟨k _ _ e,(u6 p hp).2,fun z=>absurd (Nat.lt_of_lt_of_le (Heap.lt_size e) hC) (by rw [z]; exact Nat.lt_irrefl _),fun z=>?_,d⟩
  rcases List.mem_cons.mp (I.dv _ z) with q | q
  ·exact ne q
  ·exact nf q
 ·unfold cZ
  show _ = (tg ++ fr.map (·.1)).length
  simp
end
end L2
end
section
namespace L2
open PySem PySem.Spec PySem.W PySem.Calls PyProof.Rows
def g7 (wi:TI) (g:TG) (tt:TT) (te:TE) (n:Nat) (fr:List Nat):TE:=fun σ H Q=>wi σ H fun J H1=>∀ acc,H1 acc = none→∃ W:Nat→Nat→St→List V→Hp→Prop,(∃ m,W 0 m (cZ n fr σ) [] (upd H1 acc (.lst [])))∧
 ∀ i m σ' ys H2,W i m σ' ys H2→((J.stop i H2∧Q (.ref acc) H2)∨(J.go i H2∧∀ x H3,J.nv i H2 x H3→g x σ' H3 fun σ2 H4=>tt σ2 H4 fun b H5=>
  if b = true then te σ2 H5 fun y H6=>H6 acc = some (.lst ys)∧ys.length < sizeLine∧∃ m',m' < m∧W (i + 1) m' σ2 (ys ++ [y]) (upd H6 acc (.lst (ys ++ [y]))) else ∃ m',m' < m∧W (i + 1) m' σ2 ys H5))
section
variable {X:Cx} {scope:Scope} {cl:List (Str×Addr)} {tg:List Str} {fr:List (Str×Nat)} {elt target iter:Expr} {ifs:List Expr} {wi:TI} {g:TG} {tt:TT} {te:TE} {pos:Pos}
theorem km (B:gY X scope cl tg fr) (hc:X.calm = true) (hi:PI X target iter wi)
  (hg:∀ C fp pins s H,PG (X.block scope cl C (tg ++ fr.map (·.1)) fp pins s H) target g) (ht:∀ C fp pins s H,qR (X.block scope cl C (tg ++ fr.map (·.1)) fp pins s H) ifs tt) (he:∀ C fp pins s H,PE (X.block scope cl C (tg ++ fr.map (·.1)) fp pins s H) elt te)
  {pins:List (Addr×Obj)} {σ : St} {H:Hp} {s:Shared} {Q:VK} (I:Inv X pins σ H s) (hw:g7 wi g tt te tg.length (fr.map (·.2)) σ H Q) {RR:Value→Addr→Result→Shared→Prop}
  (Bu:∀ D C s1 H5 m,Inv X pins σ H5 s1→s1.heap.Ns C m→H5 C = none→C≠X.env.locals→X.s₀.heap.objs.size≤C→(∀ x c,X.env.cells.lookup x = some c→c≠C)→(∀ p∈X.pn ++ pins,p.1≠C)→Q (.ref D) H5→RR (.ref D) C (.ok .next) s1) :
  wpAny (model X.prog X.w) X.A (eval iter X.env) (fun xv s1=>wpAny (model X.prog X.w) X.A (pyIter xv) (fun it s2=>wpAny (model X.prog X.w) X.A (newList []) (fun acc s3=>
   wpAny (model X.prog X.w) X.A (newFunctionEnv scope X.env.globals cl [] X.env.qual none .none (some X.env)) (fun sU s4=>
    codeAny (model X.prog X.w) X.A (.compStart (.ListComp elt [⟨target,iter,ifs,0⟩] scope pos) 0 it acc { sU with scope:=relabel scope X.env }) (RR acc sU.locals) s4) X.xe s3) X.xe s2) X.xe s1) X.xe s:=by
 refine wpAny_mono (hi pins s σ H _ I hw) (fun xv s1 h1=>wpAny_mono h1 (fun vp s2 h2=>?_) fun _ _ z=>z) fun _ _ z=>z
 obtain ⟨it,fp,tn,J,H1,rfl,I2,T,ux,f2,AZ⟩:=h2
 have kJ:∀ b∈fp,b < s2.heap.objs.size:=fun b hb=>by
  obtain ⟨o,e,_⟩:=T.obj _ _ ux b hb
  exact Heap.lt_size e
 refine wpAny_newObj_type (wpAny_newFunctionEnv B.qa (by intro y hy; simp at hy) (fun h3 qV uc=>?_) B.kind)
 dsimp only at qV uc ⊢
 generalize hP:s2.heap.push { cls:=.type "list",dict:=none,data:=.seq ([]:List Value).toArray } = hp at qV uc ⊢
 have hC:hp.objs.size = s2.heap.objs.size + 1:=by rw [← hP,Heap.size_push]
 have dq:s2.heap.objs.size < hp.objs.size:=by rw [hC]; exact Nat.lt_succ_self _
 have k3:∀ b o,s2.heap.get? b = some o→h3.get? b = some o:=fun b o e=>by
  have l:=Heap.lt_size e
  refine uc.extBut b o (Nat.ne_of_lt (Nat.lt_trans l dq)) (Heap.get?_push_of_some _ (hP▸Heap.get?_push_of_some _ e))
 have hD:H1 s2.heap.objs.size = none:=I2.bc.fresh (Nat.le_refl _)
 have gK:h3.get? s2.heap.objs.size = some { cls:=.type "list",dict:=none,data:=.seq ([]:List Value).toArray }:=uc.extBut _ _ (Nat.ne_of_lt dq) (Heap.get?_push_of_some _ (hP▸Heap.get?_push_size _ rfl))
 obtain ⟨W,⟨m0,w0⟩,turn⟩:=AZ _ hD
 have yH:Un (dz X.stack) fp H1 (upd H1 s2.heap.objs.size (.lst [])) s2.heap h3:=Un.laid k3 (Nat.le_refl _) hD
 have zZ:dB X.prog X.w (upd H1 s2.heap.objs.size (.lst [])) h3:=I2.bc.laid k3 (Nat.le_refl _) ⟨Nat.zero_le _,[],0,.nil,gK⟩
 have fC:upd H1 s2.heap.objs.size (.lst []) hp.objs.size = none:=by rw [ao (Nat.ne_of_gt dq)]; exact I2.bc.fresh (Nat.le_of_lt dq)
 have AB:=I2.lt
 have nL:hp.objs.size≠X.env.locals:=Nat.ne_of_gt (Nat.lt_trans AB dq)
 have zm:X.s₀.heap.objs.size≤hp.objs.size:=Nat.le_trans I2.sz (Nat.le_of_lt dq)
 have cC:∀ x c,X.env.cells.lookup x = some c→c≠hp.objs.size:=fun x c e z=>by
  obtain ⟨v,o,ho,_⟩:=I2.cell x c e
  exact absurd (Nat.lt_trans (Heap.lt_size ho) dq) (by rw [z]; exact Nat.lt_irrefl _)
 have pC:∀ p∈X.pn ++ pins,p.1≠hp.objs.size:=fun p vz z=>by
  exact absurd (Nat.lt_trans (Heap.lt_size (I2.pin p vz).1) dq) (by rw [z]; exact Nat.lt_irrefl _)
 have J0:=iD (t':=s2.toks + ([]:List (Str×Value)).length) B I2 (fun b hb=>⟨f2 b hb,kJ b hb⟩) (Nat.le_of_lt dq) qV k3 yH zZ fC
 have v8:∀ {H':Hp} {pl:List (Addr×Obj)},(∀ b∈fp,H' b = none)→(∀ p∈pl,p.1∉fp)→∀ b∈fp,iL (X.block scope cl hp.objs.size (tg ++ fr.map (·.1)) fp pins s2 H1) pl H' b:=fun hn fX b hb=>by
  obtain ⟨g0,g1,g2,g3,g4,g5⟩:=f2 b hb
  refine ⟨hn b hb,fun z=>?_,fun z=>?_,.inl hb,fun x c e=>g4 x c (B.pz.get e),fun p vz z=>?_⟩
  ·have z':b = hp.objs.size:=z
   exact absurd (Nat.lt_trans (kJ b hb) dq) (by rw [z']; exact Nat.lt_irrefl _)
  ·rcases List.mem_cons.mp (I2.dv b z) with q | q
   ·exact g1 q
   ·exact g2 q
  ·rcases List.mem_append.mp vz with q | q
   ·exact g5 p q z
   ·exact fX p q (z▸hb)
 have loop:∀ s3:Shared,s3 = { s2 with heap:=h3,toks:=s2.toks + ([]:List (Str×Value)).length }→
   codeAny (model X.prog X.w) X.A (.compLoop (.ListComp elt [⟨target,iter,ifs,0⟩] scope pos) 0 (.ref it) (.ref s2.heap.objs.size) (compEnvC scope cl hp.objs.size X.env)) (RR (.ref s2.heap.objs.size) hp.objs.size) s3:=by
  rintro s3 rfl
  refine ki (fun n s'=>∃ i σ' ys H5,Inv (X.block scope cl hp.objs.size (tg ++ fr.map (·.1)) fp pins s2 H1) [] σ' H5 s'∧tn i s'.heap∧(∀ b∈fp,H5 b = none)∧W i n σ' ys H5) ?_ m0
   ⟨0,_,[],_,J0,T.keep _ _ _ ux fun b hb o e=>k3 b o e,fun b hb=>?_,w0⟩
  ·rintro n s' ⟨i,σ',ys,H5,J5,t5,f5,w5⟩
   rcases turn i n σ' ys H5 w5 with ⟨stop,q⟩ | ⟨go,step⟩
   ·refine wpAny_mono (T.done (X.block scope cl hp.objs.size (tg ++ fr.map (·.1)) fp pins s2 H1) rfl rfl rfl hc i [] s' σ' H5 (fun _ _=>False) J5 (v8 f5 (by simp)) t5 stop) (fun r s6 ⟨hr,J6⟩=>?_) fun _ _ z=>z
    subst hr
    obtain ⟨m6,Ba,_⟩:=J6.loc
    exact Bu _ _ _ H5 m6 (I2.px (ch:=fp) J6.os J6.base J6.bc J6.bare fun b hb=>by obtain ⟨g0,g1,g2,g3,g4,g5⟩:=f2 b hb; exact ⟨g3,g1,g4,g5⟩) Ba J6.free nL zm cC pC q
   ·refine wpAny_mono (T.item (X.block scope cl hp.objs.size (tg ++ fr.map (·.1)) fp pins s2 H1) rfl rfl rfl hc i [] s' σ' H5 (fun _ _=>False) J5 (v8 f5 (by simp)) t5 go) (fun r s6 ⟨u,hr,h6⟩=>?_) fun _ _ z=>z
    subst hr
    refine wpAny_mono h6 (fun _ s7 ⟨x,H7,J7,r7,y7,t7,f7⟩=>?_) fun _ _ z=>z
    have Cs:=J7.pinned (v8 f7 (by simp)) (T.obj _ _ t7)
    have again:∀ {σ8:St} {H8:Hp} {s8:Shared} {ur:List V},Inv (X.block scope cl hp.objs.size (tg ++ fr.map (·.1)) fp pins s2 H1) ([] ++ eX fp s7.heap) σ8 H8 s8→(∃ m',m' < n∧W (i + 1) m' σ8 ur H8)→
      ∃ m',m' < n∧∃ i σ' ys H5,Inv (X.block scope cl hp.objs.size (tg ++ fr.map (·.1)) fp pins s2 H1) [] σ' H5 s8∧tn i s8.heap∧(∀ b∈fp,H5 b = none)∧W i m' σ' ys H5:=fun {σ8 H8 s8 ur} J8 ⟨m',hm,w8⟩=>by
     refine ⟨m',hm,i + 1,σ8,ur,H8,J8.dC,T.keep _ _ _ t7 fun b hb o e=>(J8.pin (b,o) (List.mem_append_right _ (List.mem_append_right _ (cA hb e)))).1,fun b hb=>?_,w8⟩
     obtain ⟨o,e,d⟩:=T.obj _ _ t7 b hb
     exact (J8.pin (b,o) (List.mem_append_right _ (List.mem_append_right _ (cA hb e)))).2.1
    refine wpAny_mono (hg _ _ _ _ _ _ s7 σ' H7 x u _ Cs r7 (step x H7 y7)) (fun _ s8 ⟨σ8,H8,J8,q8⟩=>?_) fun _ _ z=>z
    refine wpAny_mono (ht _ _ _ _ _ _ s8 σ8 H8 _ J8 q8) (fun b s9 ⟨H9,J9,q9⟩=>?_) fun _ _ z=>z
    cases b with
    | false=>
     rw [if_neg Bool.false_ne_true] at q9 ⊢
     exact again J9 q9
    | true=>
     rw [if_pos rfl] at q9 ⊢
     refine wpAny_mono (he _ _ _ _ _ _ s9 σ8 H9 _ J9 q9) (fun y rN ⟨v,CH,oG,zH,vP,vF,zJ⟩=>?_) fun _ _ z=>z
     refine wpAny_mono (j7 (X:=X.block scope cl hp.objs.size (tg ++ fr.map (·.1)) fp pins s2 H1) _ rN σ8 CH (.ref s2.heap.objs.size) [v] (.ref s2.heap.objs.size) [y] (fun _ yx=>∃ m',m' < n∧W (i + 1) m' σ8 (ys ++ [v]) yx) oG rfl (.cons zH .nil) ⟨_,ys,v,rfl,rfl,vP,vF,zJ⟩) (fun _ CZ ⟨_,yx,Ct,_,zI⟩=>?_) fun _ _ z=>z
     exact again Ct zI
  ·have l:=kJ b hb
   rw [ao (Nat.ne_of_lt l)]; exact (f2 b hb).1
 exact codeAny_compStart_list (loop _ rfl) (T.self X.A 0 _ _ _ (T.keep _ _ _ ux fun b hb o e=>k3 b o e) (loop _ rfl))
theorem jC {i:Nat} {y:Str} {py rH:Pos} (hN:X.N.Nodup) (hy:X.N[i]? = some y) (hl:Loc X.env.scope y) (B:gY X scope cl tg fr) (hc:X.calm = true) (hi:PI X target iter wi)
  (hg:∀ C fp pins s H,PG (X.block scope cl C (tg ++ fr.map (·.1)) fp pins s H) target g) (ht:∀ C fp pins s H,qR (X.block scope cl C (tg ++ fr.map (·.1)) fp pins s H) ifs tt) (he:∀ C fp pins s H,PE (X.block scope cl C (tg ++ fr.map (·.1)) fp pins s H) elt te)
  (hs:∀ x,foldedSetIterable iter X.env x = pure x:=by intro _; rfl) (vw:swapsWith (.ListComp elt [⟨target,iter,ifs,0⟩] scope pos) (some (.Name y py)) rH.line X.env = pure true:=by rfl)
  (hf:X.fn y = true∨X.env.scope.names.lookup y = some .local:=by first | exact .inl rfl | exact .inr rfl | assumption) :
  PS X (.Assign [.Name y py] (.ListComp elt [⟨target,iter,ifs,0⟩] scope pos) rH) (pJ (g7 wi g tt te tg.length (fr.map (·.2))) (fY i)):=by
 intro pins s σ H D I hw
 rw [exec_Assign_Name_used _ _ _ _ vw]
 refine wpAny_bind (wpAny_standAt (wpAny_bind ?_))
 show wpAny _ _ (do let _ ← comprehension (.ListComp elt [⟨target,iter,ifs,0⟩] scope pos) scope X.env _ (newList []) false (eval iter X.env) (some (assign (.Name y py) X.env))) _ _ s
 refine wpAny_bind (wpAny_mono (wpAny_comprehension_free (use:=some (assign (.Name y py) X.env)) (Q:=fun _ s'=>SP X pins D .next s') rfl hs B.wt B.kind B.names
  (km B hc hi hg ht he I hw (RR:=fun acc C=>compPost (model X.prog X.w) X.A X.xe (some (assign (.Name y py) X.env)) (fun _ s'=>SP X pins D .next s') acc C) fun R C s1 H5 m J hn f0 f1 f2 f3 f4 q=>?_)) (fun _ s' hq=>wpAny_pure (wpAny_pure hq)) fun _ _ z=>z)
 show wpAny _ _ (assign (.Name y py) X.env (.ref R)) _ _ _
 refine wpAny_assign_Name (fP (v:=.ref R) J hN hy hl rfl (fun s2 J2 ⟨a,sb,ha⟩=>?_) hf)
 have na:C≠a:=by
  rcases ha with z | z
  ·rw [z]; exact f1
  ·exact Ne.symm (f3 y a z)
 refine ⟨m,hn.sameBut sb na,fun h' zi=>⟨_,H5,?_,q⟩⟩
 exact J2.turned (t':=s2.toks) (fun b o hb e=>(zi.2 b hb).trans e) f0 f1 (.inr f2) f3 f4
end
end L2
end
section
namespace L2
open PySem PySem.Spec PySem.W PySem.Calls PyProof.Rows
section
variable {X:Cx}
def jA:V→List V→Hp→VK→Prop:=fun x vs H Q=>∃ l xs y,∃ k:Nat,x = .ref l∧vs = [.int k,y]∧H l = some (.lst xs)∧k≤xs.length∧xs.length < sizeLine∧Q .bp (upd H l (.lst (xs.take k ++ y :: xs.drop k)))
theorem bO:wG X "list.insert" jA:=by
 intro pins s σ H x vs v us Q I rx rv h
 obtain ⟨l,xs,y,k,rfl,rfl,hH,hk,hz,q⟩:=h
 cases rx
 obtain ⟨u1,u2,rfl,⟨t,rfl⟩,ru⟩:=vals2 rv
 obtain ⟨z,aH,n,r,hl,e⟩:=I.qc hH
 have Du:=i8
 have fit:¬ (!Builtin.List.listFitsIndex (k:Int)) = true:=by
  have:Builtin.List.listFitsIndex (k:Int) = true:=by
   unfold Builtin.List.listFitsIndex
   simp only [Bool.and_eq_true,decide_eq_true_eq]
   constructor <;> omega
  rw [this]; decide
 have ek:(if (k:Int) < 0 then ((k:Int) + (aH.toArray.size:Int)).toNat else min (k:Int).toNat aH.toArray.size) = k:=by
  rw [if_neg (by omega),Int.toNat_natCast,List.size_toArray]
  omega
 have ee:(aH.toArray.extract 0 k).push u2 ++ aH.toArray.extract k = (aH.take k ++ u2 :: aH.drop k).toArray:=by
  apply Array.ext'
  simp
  rw [List.take_of_length_le (by rw [List.length_drop]; omega)]
 have rr:Vals (xs.take k ++ y :: xs.drop k) (aH.take k ++ u2 :: aH.drop k):=Vals.append (Vals.take k r) (.cons ru (Vals.drop k r))
 have xJ:(xs.take k ++ y :: xs.drop k).length≤sizeLine:=by
  rw [List.length_append,List.length_cons,List.length_take,List.length_drop]
  omega
 have sz:aH.toArray.size≤sizeLine:=by rw [List.size_toArray]; omega
 have fin:∀ f:Array Value→Array Value,f aH.toArray = (aH.take k ++ u2 :: aH.drop k).toArray→EP X pins σ Q Value.none { s with heap:=s.heap.update l (Obj.mapSeq f),toks:=s.toks }:=fun f hf=>
  ⟨.bp,_,I.qd (its':=aH.take k ++ u2 :: aH.drop k) (ys:=xs.take k ++ y :: xs.drop k) hH e hf rr xJ,rfl,q⟩
 have fin2:EP X pins σ Q Value.none { s with heap:=s.heap.update l (Obj.mapSeq fun xs=>have kk:=if (k:Int) < 0 then ((k:Int) + (xs.size:Int)).toNat else min (k:Int).toNat xs.size; (xs.extract 0 kk).push u2 ++ xs.extract kk),toks:=s.toks }:=by
  refine fin _ ?_
  dsimp only
  rw [ek]
  exact ee
 clear fin ek ee rr xJ q
 generalize (k:Int) = x at fit fin2 ⊢
 generalize aH.toArray = items at e sz
 exact call_meets F.slot_list_insert ⟨_,e,rfl⟩ F.entry_list_insert (F.args_list_insert_3 _ _ _) (AutoSeq1.list_insert_list_int_val_1 l items n x t u2 fit sz) ⟨e,fin2⟩
def tP (K:Frag):List V→Hp→VK→Prop:=fun vs H Q=>∃ (a:Addr) (ns:List Int),vs = [.ref a]∧aD K H a (ns.map V.int)∧ns.length < 64∧∀ (p8:List Int) p,p8.Perm ns→p8.Pairwise (·≤·)→H p = none→Q (.ref p) (upd H p (.lst (p8.map V.int)))
end
mutual
inductive kC (H:Hp):V→PyData→Prop where
 | int (i:Int):kC H (.int i) (.int i)
 | lst {a:Addr} {vs:List V} {ds:List PyData}:H a = some (.lst vs)→bW H vs ds→kC H (.ref a) (.list ds)
 | tup {a:Addr} {vs:List V} {ds:List PyData}:H a = some (.tup vs)→bW H vs ds→kC H (.ref a) (.tuple ds)
inductive bW (H:Hp):List V→List PyData→Prop where
 | nil:bW H [] []
 | cons {v:V} {vs:List V} {d:PyData} {ds:List PyData}:kC H v d→bW H vs ds→bW H (v :: vs) (d :: ds)
end
section
variable {X:Cx} {pins:List (Addr×Obj)} {σ : St} {H:Hp} {s:Shared}
mutual
theorem kC.reads (I:Inv X pins σ H s):∀ {v:V} {d:PyData} {u:Value},kC H v d→RelV v u→∃ as,Reads s.heap u d as
 | _,_,u,.int i,r=>by
  obtain ⟨t,rfl⟩:=r
  exact ⟨_,.int i t⟩
 | _,_,u,.lst (a:=a) (vs:=vs) e h,r=>by
  cases (show u = Value.ref a from r)
  obtain ⟨_,aH,n,rv,g⟩:=(show aS X.prog X.w H s.heap a (.lst vs) from I.bc a _ e)
  obtain ⟨as,ra⟩:=bW.reads I h rv
  exact ⟨_,.list g rfl rfl (by simpa using ra)⟩
 | _,_,u,.tup (a:=a) (vs:=vs) e h,r=>by
  cases (show u = Value.ref a from r)
  obtain ⟨_,aH,rv,o,g,hc,n,hd⟩:=(show aS X.prog X.w H s.heap a (.tup vs) from I.bc a _ e)
  obtain ⟨as,ra⟩:=bW.reads I h rv
  exact ⟨_,.tuple g hc hd (by simpa using ra)⟩
theorem bW.reads (I:Inv X pins σ H s):∀ {vs:List V} {ds:List PyData} {us:List Value},bW H vs ds→Vals vs us→∃ as,ReadsAll s.heap us ds as
 | _,_,_,.nil,.nil=>⟨_,.nil⟩
 | _,_,_,.cons h t,.cons r q=>by
  obtain ⟨as,ra⟩:=kC.reads I h r
  obtain ⟨bs,rb⟩:=bW.reads I t q
  exact ⟨_,.cons ra rb⟩
end
end
def u0 (neg:Bool):R2:=fun x y H Q=>∃ da db,kC H x da∧kC H y db∧SeqAt.shaped da = true∧SeqAt.shaped db = true∧Q (.bl (if neg then !PyData.eqv da db else PyData.eqv da db)) H
theorem i5 {X:Cx} (hu:X.A.units + 64 < cLine):fL X (compareOp .NotEq) (u0 true):=by
 intro pins s σ H x y v u Q I rx ry h
 obtain ⟨da,db,ra,rb,ha,hb,q⟩:=h
 obtain ⟨as,r1⟩:=kC.reads I ra rx
 obtain ⟨bs,r2⟩:=kC.reads I rb ry
 exact SeqAt.compareNe_shaped r1 r2 ha hb hu (ay I q rfl)
def bF (l:List Int):PyData:=.list (l.map .int)
def cw (L:List (List Int)):PyData:=.list (L.map bF)
def sR (p:Int×Int):PyData:=.tuple [.int p.1,.int p.2]
def wo (L:List (Int×Int)):PyData:=.list (L.map sR)
theorem lay_ints:∀ l:List Int,PyData.canLayAll0 (l.map .int) = true∧PyData.depthAll (l.map .int) = 0
 | []=>⟨by simp [PyData.canLayAll0],by simp [PyData.depthAll]⟩
 | i :: l=>by
  obtain ⟨h1,h2⟩:=lay_ints l
  simp [PyData.canLayAll0,PyData.depthAll,PyData.canLay0,PyData.depth,h1,h2]
theorem ie:∀ L:List (List Int),PyData.canLayAll0 (L.map bF) = true∧PyData.depthAll (L.map bF)≤1
 | []=>⟨by simp [PyData.canLayAll0],by simp [PyData.depthAll]⟩
 | l :: L=>by
  obtain ⟨h1,h2⟩:=ie L
  obtain ⟨h3,h4⟩:=lay_ints l
  simp [PyData.canLayAll0,PyData.depthAll,PyData.canLay0,PyData.depth,bF,h1,h3,h4]
  omega
theorem cf (L:List (List Int)):SeqAt.shaped (cw L) = true:=by
 obtain ⟨h1,h2⟩:=ie L
 unfold SeqAt.shaped cw
 simp [PyData.canLay0,PyData.depth,h1]
 omega
theorem fh:∀ l m:List Int,PyData.eqvAll (l.map .int) (m.map .int) = decide (l = m)
 | [],[]=>by simp [PyData.eqvAll]
 | [],_ :: _=>by simp [PyData.eqvAll]
 | _ :: _,[]=>by simp [PyData.eqvAll]
 | i :: l,j :: m=>by
  simp only [List.map_cons,PyData.eqvAll,PyData.eqv,fh l m]
  by_cases h1:i = j <;> by_cases h2:l = m <;> simp [h1,h2]
theorem gb:∀ L M:List (List Int),PyData.eqvAll (L.map bF) (M.map bF) = decide (L = M)
 | [],[]=>by simp [PyData.eqvAll]
 | [],_ :: _=>by simp [PyData.eqvAll]
 | _ :: _,[]=>by simp [PyData.eqvAll]
 | i :: l,j :: m=>by
  rw [List.map_cons,List.map_cons,PyData.eqvAll,gb l m]
  have e:PyData.eqv (bF i) (bF j) = decide (i = j):=by unfold bF; rw [PyData.eqv]; exact fh i j
  rw [e]
  by_cases h1:i = j <;> by_cases h2:l = m <;> simp [h1,h2]
theorem iy (L M:List (List Int)):PyData.eqv (cw L) (cw M) = decide (L = M):=by
 unfold cw; rw [PyData.eqv]; exact gb L M
end L2
end
section
namespace L2
open PySem PySem.Spec PySem.W PySem.Calls PyProof.Rows
theorem qL:bootBuiltins "min" = some (.builtin "min"):=by decide +kernel
theorem gQ {i j:Int} (h1:0 < j) (h2:j < 2 ^ 250):wL i j:=⟨h1,Sz.mono (m:=250) (by unfold Sz; omega) (by decide)⟩
theorem gD {ns:List Int} {k:Int} (h0:0≤k) (h1:k < ns.length):∃ n,nq (ns.map V.int) k = some (V.int n):=by
 obtain ⟨j,rfl⟩:=Int.eq_ofNat_of_zero_le h0
 have hj:j < ns.length:=by omega
 exact ⟨ns[j],de (by simp [hj])⟩
end L2
end
section
namespace L2
open PySem PySem.Spec PySem.W PySem.Calls PyProof.Rows
theorem ak {α : Type} {p : α→Prop}:∀ x∈([]:List α),p x:=fun _ h=>by cases h
end L2
namespace L2
open PySem PySem.Spec PySem.W PySem.Calls PyProof.Rows
section
variable {σ : St} {H:Hp} {Q:VK} {D:Ends} {K:Frag}
theorem pT {T:String} {r:V→List V→Hp→VK→Prop} {to:TE} {t:TA} (h:to σ H fun x H1=>tE K T x H1∧t σ H1 fun xs H2=>r x xs H2 Q):xg K T r to t σ H Q:=h
theorem gv {R:Bool→Hp→Prop} (h:R true H):js σ H R:=h
theorem b8 {l:Addr} {xs:List V} {y:V} {i:Int} {k:Nat} (hi:i = k) (h:H l = some (.lst xs)) (hk:k≤xs.length) (hl:xs.length < sizeLine) (q:Q .bp (upd H l (.lst (xs.take k ++ y :: xs.drop k)))):jA (.ref l) [.int i,y] H Q:=⟨l,xs,y,k,rfl,by rw [hi],h,hk,hl,q⟩
theorem pR {p:Addr} {x:Int} {ns:List Int} {neg:Bool} (h:aD K H p (ns.map V.int)) (q:Q (.bl (if neg then !decide (x∈ns) else decide (x∈ns))) H):uZ K neg (.int x) (.ref p) H Q:=by
 have e:tZ (.int x) (ns.map V.int) = decide (x∈ns):=by
  unfold tZ
  rw [List.any_map]
  have:(fun y=>oh y (V.int x)) ∘ V.int = fun y=>y == x:=by funext y; rfl
  rw [this]
  clear this q h
  induction ns with
  | nil=>simp
  | cons a l ih=>
   rw [List.any_cons,ih]
   by_cases h1:a = x
   ·subst h1; simp
   ·have h2:¬ x = a:=fun z=>h1 z.symm
    simp [h1,h2]
 refine ⟨p,_,rfl,.inl h,rfl,?_,by rw [e]; exact q⟩
 rw [List.all_map]
 simp [dO]
theorem pq {n i:Nat} {A:Prop} (hi:i < n) (h:A):∃ m',m' < n - i∧(m' = n - (i + 1)∧i + 1≤n∧A):=⟨_,by omega,rfl,hi,h⟩
theorem ji {R:Hp→Prop} {acc:Addr} {lo:Int} {n:Nat} {g:TG} {tt:TT} {te:TE} (Pv:Nat→St→List V→Hp→Prop) (h0:Pv 0 σ [] H)
  (hs:∀ i σ ys H,i < n→Pv i σ ys H→g (.int (lo + i)) σ H fun σ2 H4=>tt σ2 H4 fun b H5=>if b = true then te σ2 H5 fun y H6=>H6 acc = some (.lst ys)∧ys.length < sizeLine∧∃ m',m' < n - i∧(m' = n - (i + 1)∧i + 1≤n∧Pv (i + 1) σ2 (ys ++ [y]) (upd H6 acc (.lst (ys ++ [y])))) else ∃ m',m' < n - i∧(m' = n - (i + 1)∧i + 1≤n∧Pv (i + 1) σ2 ys H5))
  (hd:∀ σ ys H,Pv n σ ys H→R H) :
  ∃ W:Nat→Nat→St→List V→Hp→Prop,(∃ m,W 0 m σ [] H)∧∀ i m σ' ys H2,W i m σ' ys H2→(((nr lo n).stop i H2∧R H2)∨((nr lo n).go i H2∧∀ x H3,(nr lo n).nv i H2 x H3→g x σ' H3 fun σ2 H4=>tt σ2 H4 fun b H5=>
   if b = true then te σ2 H5 fun y H6=>H6 acc = some (.lst ys)∧ys.length < sizeLine∧∃ m',m' < m∧W (i + 1) m' σ2 (ys ++ [y]) (upd H6 acc (.lst (ys ++ [y]))) else ∃ m',m' < m∧W (i + 1) m' σ2 ys H5)):=by
 refine ⟨fun i m σ ys H=>m = n - i∧i≤n∧Pv i σ ys H,⟨n,by simp,Nat.zero_le _,h0⟩,?_⟩
 rintro i m σ ys H ⟨rfl,hi,p⟩
 by_cases dq:i < n
 ·refine .inr ⟨dq,fun x H' y=>?_⟩
  obtain ⟨e,y⟩:=y
  subst e y
  exact hs i σ ys _ dq p
 ·have e:i = n:=by omega
  subst e
  exact .inl ⟨Nat.le_refl _,hd σ ys H p⟩
theorem kj {R:Hp→Prop} {acc a:Addr} {xs:List V} {g:TG} {tt:TT} {te:TE} (Pv:Nat→St→List V→Hp→Prop) (h0:Pv 0 σ [] H) (hl:∀ i σ ys H,i≤xs.length→Pv i σ ys H→aD K H a xs)
  (hs:∀ i x σ ys H,xs[i]? = some x→i < xs.length→Pv i σ ys H→g x σ H fun σ2 H4=>tt σ2 H4 fun b H5=>if b = true then te σ2 H5 fun y H6=>H6 acc = some (.lst ys)∧ys.length < sizeLine∧∃ m',m' < xs.length - i∧(m' = xs.length - (i + 1)∧i + 1≤xs.length∧Pv (i + 1) σ2 (ys ++ [y]) (upd H6 acc (.lst (ys ++ [y])))) else ∃ m',m' < xs.length - i∧(m' = xs.length - (i + 1)∧i + 1≤xs.length∧Pv (i + 1) σ2 ys H5))
  (hd:∀ σ ys H,Pv xs.length σ ys H→R H) :
  ∃ W:Nat→Nat→St→List V→Hp→Prop,(∃ m,W 0 m σ [] H)∧∀ i m σ' ys H2,W i m σ' ys H2→(((pD K a).stop i H2∧R H2)∨((pD K a).go i H2∧∀ x H3,(pD K a).nv i H2 x H3→g x σ' H3 fun σ2 H4=>tt σ2 H4 fun b H5=>
   if b = true then te σ2 H5 fun y H6=>H6 acc = some (.lst ys)∧ys.length < sizeLine∧∃ m',m' < m∧W (i + 1) m' σ2 (ys ++ [y]) (upd H6 acc (.lst (ys ++ [y]))) else ∃ m',m' < m∧W (i + 1) m' σ2 ys H5)):=by
 refine ⟨fun i m σ ys H=>m = xs.length - i∧i≤xs.length∧Pv i σ ys H,⟨xs.length,by simp,Nat.zero_le _,h0⟩,?_⟩
 rintro i m σ ys H ⟨rfl,hi,p⟩
 have q:=hl i σ ys H hi p
 by_cases dq:i < xs.length
 ·refine .inr ⟨⟨xs,xs[i],q,by simp [dq]⟩,fun x H' y=>?_⟩
  obtain ⟨e,y⟩:=y
  subst e
  exact hs i x σ ys _ (y xs q) dq p
 ·have e:i = xs.length:=by omega
  subst e
  exact .inl ⟨⟨xs,q,Nat.le_refl _⟩,hd σ ys H p⟩
theorem lJ {wi:TI} {g:TG} {tt:TT} {te:TE} {n:Nat} {fr:List Nat} (h:wi σ H fun J H1=>∀ acc,H1 acc = none→∃ W:Nat→Nat→St→List V→Hp→Prop,(∃ m,W 0 m (cZ n fr σ) [] (upd H1 acc (.lst [])))∧
 ∀ i m σ' ys H2,W i m σ' ys H2→((J.stop i H2∧Q (.ref acc) H2)∨(J.go i H2∧∀ x H3,J.nv i H2 x H3→g x σ' H3 fun σ2 H4=>tt σ2 H4 fun b H5=>
  if b = true then te σ2 H5 fun y H6=>H6 acc = some (.lst ys)∧ys.length < sizeLine∧∃ m',m' < m∧W (i + 1) m' σ2 (ys ++ [y]) (upd H6 acc (.lst (ys ++ [y]))) else ∃ m',m' < m∧W (i + 1) m' σ2 ys H5))):g7 wi g tt te n fr σ H Q:=h
end
end L2
end
section
namespace Gm
open PySem L2
def put (l:List Int) (k:Nat) (x:Int):List Int:=l.take k ++ x :: l.drop k
theorem eV (l:List Int) (k:Nat) (x:Int):(put l k x).Perm (x :: l):=by
 unfold put
 refine List.perm_middle.trans ?_
 rw [List.take_append_drop]
theorem bG {l:List Int} {k:Nat} {x y:Int}:y∈put l k x↔y = x∨y∈l:=by rw [(eV l k x).mem_iff,List.mem_cons]
theorem fT {l:List Int} {k:Nat} {x:Int} (h:x∉l) (n:l.Nodup):(put l k x).Nodup:=(eV l k x).nodup_iff.mpr (List.nodup_cons.mpr ⟨h,n⟩)
theorem map_put {l:List Int} {k:Nat} {x:Int}:(l.map V.int).take k ++ V.int x :: (l.map V.int).drop k = (put l k x).map V.int:=by simp [put,List.map_take,List.map_drop]
structure iI (L:List (List Int)):Prop where
 nd:∀ (i:Nat) (l:List Int),L[i]? = some l→l.Nodup
 rg:∀ (i:Nat) (l:List Int),L[i]? = some l→∀ x∈l,0≤x∧x < L.length∧x≠i
 sy:∀ (i:Nat) (l:List Int),L[i]? = some l→∀ x∈l,∀ j:Nat,x = j→∀ m,L[j]? = some m→(i:Int)∈m
structure Made (n one other:Nat) (L:List (List Int)):Prop where
 len:L.length = n
 map:iI L
 bd:∀ (i:Nat) (l:List Int),L[i]? = some l→∀ x∈l,(i < one∧x < one)∨(i = one∧x < other)∨(x = one∧i < other)
theorem Made.skip {n one other:Nat} {L:List (List Int)} (h:Made n one other L):Made n one (other + 1) L:=
 ⟨h.len,h.map,fun i l e x hx=>by have:=h.bd i l e x hx; omega⟩
theorem Made.next {n one:Nat} {L:List (List Int)} (h:Made n one one L):Made n (one + 1) 0 L:=
 ⟨h.len,h.map,fun i l e x hx=>by have:=h.bd i l e x hx; omega⟩
theorem Made.start {n:Nat} {L:List (List Int)} (h:L.length = n) (e:∀ (i:Nat) (l:List Int),L[i]? = some l→l = []):Made n 0 0 L:=by
 refine ⟨h,⟨fun i l q=>by rw [e i l q]; exact List.nodup_nil,fun i l q x hx=>?_,fun i l q x hx=>?_⟩,fun i l q x hx=>?_⟩ <;> (rw [e i l q] at hx; cases hx)
theorem iP {L:List (List Int)} {a b i:Nat} {x y l:List Int} (h:((L.set a x).set b y)[i]? = some l):(i = b∧l = y)∨(i≠b∧i = a∧l = x)∨(i≠b∧i≠a∧L[i]? = some l):=by
 by_cases hb:i = b
 ·subst hb
  rw [List.getElem?_set] at h
  rw [if_pos rfl] at h
  split at h
  ·exact .inl ⟨rfl,(Option.some.inj h).symm⟩
  ·cases h
 ·rw [List.getElem?_set_ne (fun z=>hb z.symm)] at h
  by_cases ha:i = a
  ·subst ha
   rw [List.getElem?_set,if_pos rfl] at h
   split at h
   ·exact .inr (.inl ⟨hb,rfl,(Option.some.inj h).symm⟩)
   ·cases h
  ·rw [List.getElem?_set_ne (fun z=>ha z.symm)] at h
   exact .inr (.inr ⟨hb,ha,h⟩)
theorem Made.step {n one other k1 k2:Nat} {L:List (List Int)} {l1 l2:List Int} (h:Made n one other L) (ho:other < one) (hn:one < n) (e1:L[one]? = some l1) (e2:L[other]? = some l2) :
  Made n one (other + 1) ((L.set one (put l1 k1 other)).set other (put l2 k2 one)):=by
 have n1:(other:Int)∉l1:=fun z=>by have:=h.bd _ _ e1 _ z; omega
 have n2:(one:Int)∉l2:=fun z=>by have:=h.bd _ _ e2 _ z; omega
 have hl:=h.len
 refine ⟨by rw [List.length_set,List.length_set]; exact hl,⟨fun i l e=>?_,fun i l e x hx=>?_,fun i l e x hx j hj m em=>?_⟩,fun i l e x hx=>?_⟩
 ·rcases iP e with ⟨_,rfl⟩ | ⟨_,_,rfl⟩ | ⟨_,_,q⟩
  ·exact fT n2 (h.map.nd _ _ e2)
  ·exact fT n1 (h.map.nd _ _ e1)
  ·exact h.map.nd _ _ q
 ·rw [List.length_set,List.length_set]
  rcases iP e with ⟨rfl,rfl⟩ | ⟨_,rfl,rfl⟩ | ⟨_,_,q⟩
  ·rcases bG.mp hx with z | z
   ·omega
   ·exact h.map.rg _ _ e2 _ z
  ·rcases bG.mp hx with z | z
   ·omega
   ·exact h.map.rg _ _ e1 _ z
  ·exact h.map.rg _ _ q _ hx
 ·rcases iP e with ⟨rfl,rfl⟩ | ⟨hb,rfl,rfl⟩ | ⟨hb,ha,q⟩
  ·rcases iP em with ⟨rfl,rfl⟩ | ⟨jb,rfl,rfl⟩ | ⟨jb,ja,qm⟩
   ·rcases bG.mp hx with z | z
    ·omega
    ·have:=h.map.rg _ _ e2 _ z; omega
   ·exact bG.mpr (.inl rfl)
   ·rcases bG.mp hx with z | z
    ·omega
    ·exact h.map.sy _ _ e2 _ z _ hj _ qm
  ·rcases iP em with ⟨rfl,rfl⟩ | ⟨jb,rfl,rfl⟩ | ⟨jb,ja,qm⟩
   ·exact bG.mpr (.inl rfl)
   ·rcases bG.mp hx with z | z
    ·omega
    ·have:=h.map.rg _ _ e1 _ z; omega
   ·rcases bG.mp hx with z | z
    ·omega
    ·exact h.map.sy _ _ e1 _ z _ hj _ qm
  ·rcases iP em with ⟨rfl,rfl⟩ | ⟨jb,rfl,rfl⟩ | ⟨jb,ja,qm⟩
   ·exact bG.mpr (.inr (h.map.sy _ _ q _ hx _ hj _ e2))
   ·exact bG.mpr (.inr (h.map.sy _ _ q _ hx _ hj _ e1))
   ·exact h.map.sy _ _ q _ hx _ hj _ qm
 ·rcases iP e with ⟨rfl,rfl⟩ | ⟨_,rfl,rfl⟩ | ⟨_,_,q⟩
  ·rcases bG.mp hx with z | z
   ·omega
   ·have:=h.bd _ _ e2 _ z; omega
  ·rcases bG.mp hx with z | z
   ·omega
   ·have:=h.bd _ _ e1 _ z; omega
  ·have:=h.bd _ _ q _ hx; omega
structure bq (H:Hp) (p:Addr) (as:List Addr) (L:List (List Int)):Prop where
 top:H p = some (.lst (as.map V.ref))
 len:as.length = L.length
 row:∀ (i:Nat) (a:Addr) (l:List Int),as[i]? = some a→L[i]? = some l→H a = some (.lst (l.map V.int))
section
variable {H H':Hp} {p:Addr} {as:List Addr} {L:List (List Int)}
theorem bq.at (g:bq H p as L) {i:Nat} (hi:i < L.length):∃ a l,as[i]? = some a∧L[i]? = some l∧H a = some (.lst (l.map V.int)):=by
 have h2:i < as.length:=by rw [g.len]; exact hi
 exact ⟨as[i],L[i],by simp [h2],by simp [hi],g.row i _ _ (by simp [h2]) (by simp [hi])⟩
theorem bq.same (g:bq H p as L) (e:av H H'):bq H' p as L:=⟨e _ _ g.top,g.len,fun i a l h1 h2=>e _ _ (g.row i a l h1 h2)⟩
theorem bq.set (g:bq H p as L) (nd:(p :: as).Nodup) {i:Nat} {a:Addr} {l':List Int} (hi:as[i]? = some a):bq (upd H a (.lst (l'.map V.int))) p as (L.set i l'):=by
 have hp:p≠a:=fun z=>(List.nodup_cons.mp nd).1 (z▸List.mem_of_getElem? hi)
 refine ⟨by rw [ao hp]; exact g.top,by rw [List.length_set]; exact g.len,fun j b l h1 h2=>?_⟩
 by_cases hj:j = i
 ·subst hj
  rw [hi] at h1
  cases h1
  rw [List.getElem?_set,if_pos rfl] at h2
  split at h2
  ·cases h2; exact ar
  ·cases h2
 ·rw [List.getElem?_set_ne (fun z=>hj z.symm)] at h2
  have hb:b≠a:=fun z=>by
   subst z
   obtain ⟨q1,w1⟩:=List.getElem?_eq_some_iff.mp h1
   obtain ⟨q2,w2⟩:=List.getElem?_eq_some_iff.mp hi
   exact hj ((List.getElem_inj (List.nodup_cons.mp nd).2).mp (w1.trans w2.symm))
  rw [ao hb]
  exact g.row j b l h1 h2
theorem bq.ix (g:bq H p as L) {i:Nat} {a:Addr} (hi:as[i]? = some a):nq (as.map V.ref) (i:Int) = some (V.ref a):=de (by rw [List.getElem?_map,hi]; rfl)
theorem hW {H:Hp}:∀ l:List Int,bW H (l.map V.int) (l.map PyData.int)
 | []=>.nil
 | i :: l=>.cons (.int i) (hW l)
theorem dE {a:Addr} {l:List Int} (h:H a = some (.lst (l.map V.int))):kC H (.ref a) (bF l):=.lst h (hW l)
theorem hV:∀ {as:List Addr} {L:List (List Int)},as.length = L.length→(∀ (i:Nat) (a:Addr) (l:List Int),as[i]? = some a→L[i]? = some l→H a = some (.lst (l.map V.int)))→bW H (as.map V.ref) (L.map bF)
 | [],[],_,_=>.nil
 | [],_ :: _,h,_=>by simp at h
 | _ :: _,[],h,_=>by simp at h
 | a :: as,l :: L,h,r=>.cons (dE (r 0 a l rfl rfl)) (hV (by simpa using h) fun i b m h1 h2=>r (i + 1) b m (by simpa using h1) (by simpa using h2))
theorem bq.tO (g:bq H p as L):kC H (.ref p) (cw L):=.lst g.top (hV g.len g.row)
end
theorem av.fresh {H H':Hp} {a:Addr} {o:HO} (e:av H H') (h:H a = none):av H (upd H' a o):=fun b u q=>by rw [ao (fun z=>by rw [z,h] at q; cases q)]; exact e b u q
inductive Reach (L:List (List Int)) (s:Int):Int→Prop where
 | here:Reach L s s
 | step {i:Nat} {l:List Int} {x:Int}:Reach L s i→L[i]? = some l→x∈l→Reach L s x
theorem mh {α : Type} [BEq α] [LawfulBEq α]:∀ {l r:List α},l.Nodup→(∀ x∈l,x∈r)→l.length≤r.length
 | [],_,_,_=>Nat.zero_le _
 | x :: l,r,n,h=>by
  have hx:x∈r:=h x List.mem_cons_self
  have n2:=List.nodup_cons.mp n
  have ih:=mh (r:=r.erase x) n2.2 fun y hy=>by
   have ne:y≠x:=fun z=>n2.1 (z▸hy)
   exact (List.mem_erase_of_ne ne).mpr (h y (List.mem_cons_of_mem _ hy))
  rw [List.length_erase_of_mem hx] at ih
  have:=List.length_pos_of_mem hx
  rw [List.length_cons]; omega
theorem fV {n:Nat} {l:List Int} (h:l.Nodup) (r:∀ x∈l,0≤x∧x < n):l.length≤n:=by
 have:=mh (r:=(List.range n).map fun i:Nat=>(i:Int)) h fun x hx=>by
  have:=r x hx
  exact List.mem_map.mpr ⟨x.toNat,List.mem_range.mpr (by omega),by omega⟩
 simpa using this
end Gm
namespace Gm
open PySem L2
theorem Made.small {n i j:Nat} {L:List (List Int)} (m:Made n i j L) {k:Nat} {l:List Int} (h:L[k]? = some l):l.length≤n:=
 fV (m.map.nd _ _ h) fun x hx=>by have:=m.map.rg _ _ h _ hx; have:=m.len; omega
theorem b7 {n:Nat} (h:n≤1000):n < sizeLine:=by rw [PySem.sizeLine_eq]; omega
end Gm
end
section
namespace Gm
open PySem L2
def rR (i:Nat) (l:List Int):Nat→List Int
 | 0=>[]
 | j + 1=>rR i l j ++ (if ((i + 1 + j:Nat):Int)∈l then [((i + 1 + j:Nat):Int)] else [])
def sP (L:List (List Int)):Nat→List (Int×Int)
 | 0=>[]
 | k + 1=>sP L k ++ (rR k (L.getD k []) (L.length - (k + 1))).map fun x=>((k:Int),x)
abbrev PR (H:Hp):List Addr→List (Int×Int)→Prop:=Paired fun a x=>H a = some (.tup [.int x.1,.int x.2])
end Gm
end
section
namespace Gm
open PySem L2
structure Fl (L:List (List Int)) (s:Int) (ks ws:List Int):Prop where
 nd:ks.Nodup
 nw:ws.Nodup
 st:s∈ks
 re:∀ x∈ks,Reach L s x
 sub:∀ x∈ws,x∈ks
 cl:∀ (i:Nat) (l:List Int),(i:Int)∈ks→(i:Int)∉ws→L[i]? = some l→∀ x∈l,x∈ks
structure Fi (L:List (List Int)) (s:Int) (ks ws:List Int) (pl:Nat) (l:List Int) (k:Nat):Prop where
 nd:ks.Nodup
 nw:ws.Nodup
 st:s∈ks
 re:∀ x∈ks,Reach L s x
 sub:∀ x∈ws,x∈ks
 pk:(pl:Int)∈ks
 cl:∀ (i:Nat) (m:List Int),(i:Int)∈ks→(i:Int)∉ws→i≠pl→L[i]? = some m→∀ x∈m,x∈ks
 tk:∀ x∈l.take k,x∈ks
def yz (L:List (List Int)) (fs:List Int):Prop:=∀ (i:Nat) (l:List Int),L[i]? = some l→(∃ x,x∈l∧x∈fs)→(i:Int)∈fs
structure Pa (L:List (List Int)) (fs:List Int) (k:Nat):Prop where
 nd:fs.Nodup
 st:(0:Int)∈fs
 re:∀ x∈fs,Reach L 0 x
 gr:yz L fs∨k + 1≤fs.length
structure Pi (L:List (List Int)) (nT fs:List Int) (j:Nat):Prop where
 nd:fs.Nodup
 st:(0:Int)∈fs
 re:∀ x∈fs,Reach L 0 x
 kp:yz L nT→fs = nT
 gr:nT.length < fs.length∨(fs = nT∧∀ (i:Nat) (l:List Int),i < j→L[i]? = some l→(∃ x,x∈l∧x∈fs)→(i:Int)∈fs)
end Gm
namespace Gm
open PySem L2
theorem shaped_ints (l:List Int):SeqAt.shaped (bF l) = true:=by
 obtain ⟨h1,h2⟩:=lay_ints l
 unfold SeqAt.shaped bF
 simp [PyData.canLay0,PyData.depth,h1,h2]
theorem jL (l m:List Int):PyData.eqv (bF l) (bF m) = decide (l = m):=by unfold bF; rw [PyData.eqv]; exact fh l m
end Gm
end
section
namespace L2
open PySem PySem.Spec PySem.W PySem.Calls PyProof.Rows
section
variable {X:Cx} {K:Frag}
theorem fI (h:X.K = K):cU X (.type "list") (fun xs H Q=>∃ p ys,xs = [.ref p]∧(aD K H p ys∨SqT K H p ys)∧∀ l,H l = none→Q (.ref l) (upd H l (.lst ys))):=by subst h; exact gR
end
end L2
end
section
namespace L2
open PySem PySem.Spec PySem.W PySem.Calls PyProof.Rows HT
end L2
end
section
namespace L2
open PySem PySem.Spec PySem.W PySem.Calls PyProof.Rows HT
def zx (K:Frag):R2:=fun x y H Q=>∃ (a b:Addr) (ns ms:List Int),x = .ref a∧y = .ref b∧aD K H a (ns.map V.int)∧aD K H b (ms.map V.int)∧Q (.bl (lexLt ns ms)) H
def Le (a b:List Int):Prop:=lexLt b a = false
end L2
end
section
namespace L2
open PySem PySem.Spec PySem.W PySem.Calls PyProof.Rows
section
variable {cmp:Nat→Nat→(Bool→Shared→Prop)→Shared→Prop} {n:Nat} {f:Nat→List Int} {s:Shared}
def CP (cmp:Nat→Nat→(Bool→Shared→Prop)→Shared→Prop) (n:Nat) (f:Nat→List Int) (s:Shared):Prop:=∀ i j C,i < n→j < n→C (HT.lexLt (f i) (f j)) s→cmp i j C s
structure Arr (n:Nat) (p:Array Nat):Prop where
 size:p.size = n
 perm:p.Perm (List.toArray (List.range n))
def kf (f:Nat→List Int) (p:Array Nat) (i:Nat):List Int:=f (p.getD i 0)
def Up (f:Nat→List Int) (p:Array Nat) (m:Nat):Prop:=∀ i,i + 1 < m→Le (kf f p i) (kf f p (i + 1))
def Dn (f:Nat→List Int) (p:Array Nat) (m:Nat):Prop:=∀ i,i + 1 < m→Le (kf f p (i + 1)) (kf f p i)
def Flt (f:Nat→List Int) (p:Array Nat) (m q:Nat):Prop:=∀ i,m - (q + 1)≤i→i < m→kf f p i = kf f p (m - 1)
end
end L2
end
section
namespace L2
open PySem PySem.Spec PySem.W PySem.Calls PyProof.Rows
def wC (h:Heap) (vs:List Value) (f:Nat→List Int):Prop:=∀ i,i < vs.length→∃ b us,vs[i]? = some (.ref b)∧h.IsList b us∧IntsAre us.toList (f i)
def xu (vs:List Value) (p:Array Nat):Array Value:=List.toArray (p.toList.map fun i=>vs.getD i Value.none)
def Az (h:Heap) (a:Addr) (vs:List Value):Heap:=((h.update a (Obj.mapSeq fun _=>#[])).push (seqObj "tuple" vs.toArray 0)).push (seqObj "list" #[] 0)
end L2
end
section
namespace L2
open PySem PySem.Spec PySem.W PySem.Calls PyProof.Rows
section
variable {prog:Program} {w:World} {A:Around} {R:Result→Shared→Prop} {I:Addr} {fp wr:List Addr} {n:Nat} {P:Nat→Value→Prop} {St:Nat→Heap→Prop} {Kp:Heap→Prop} {bt:Nat→Nat→Bool} {S:Addr}
def yy (prog:Program) (w:World) (A:Around) (P:Nat→Value→Prop) (Kp:Heap→Prop) (bt:Nat→Nat→Bool):Prop:=
 ∀ (i j:Nat) (x y:Value) (t:Shared) (Q E:Value→Shared→Prop),P i x→P j y→Kp t.heap→Q (.bool (bt i j)) t→wpAny (model prog w) A (richCompare .Lt x y) Q E t
end
section
variable {X:Cx}
def pick {α : Type} (d : α) (L:List α) (p:Array Nat):List α:=p.toList.map fun i=>L.getD i d
def rS (K:Frag):List V→Hp→VK→Prop:=fun vs H Q=>∃ (a:Addr) (as:List Addr) (L:List (List Int)),vs = [.ref a]∧aD K H a (as.map V.ref)∧as.length = L.length∧(∀ (i:Nat) (b:Addr) (l:List Int),as[i]? = some b→L[i]? = some l→aD K H b (l.map V.int))∧as.length < 64∧
 ∀ (p:Array Nat) (q:Addr),Arr L.length p→Up (fun i=>L.getD i []) p L.length→H q = none→Q (.ref q) (upd H q (.lst ((pick 0 as p).map V.ref)))
def xp (K:Frag):List V→Hp→VK→Prop:=fun vs H Q=>∃ (a:Addr) (as:List Addr) (L:List (List Int)),vs = [.ref a]∧aD K H a (as.map V.ref)∧as.length = L.length∧(∀ (i:Nat) (b:Addr) (l:List Int),as[i]? = some b→L[i]? = some l→aD K H b (l.map V.int))∧0 < as.length∧
 ∀ (i:Nat) (b:Addr) (l:List Int),as[i]? = some b→L[i]? = some l→(∀ m∈L,Le l m)→Q (.ref b) H
def xq (K:Frag):List V→Hp→VK→Prop:=fun vs H Q=>∃ (a:Addr) (ns:List Int),vs = [.ref a]∧aD K H a (ns.map V.int)∧ns≠[]∧∀ m,m∈ns→(∀ x∈ns,m≤x)→Q (.int m) H
def zo (K:Frag):List V→Hp→VK→Prop:=fun vs H Q=>∃ (a:Addr) (ns:List Int),vs = [.ref a]∧aD K H a (ns.map V.int)∧ns.length≤1000∧(∀ x∈ns,0≤x∧x≤100000)∧Q (.int ns.sum) H
def uY (K:Frag):V→List V→Hp→VK→Prop:=fun x vs H Q=>∃ (l:Addr) (ns:List Int) (y:Int),x = .ref l∧vs = [.int y]∧H l = some (.lst (ns.map V.int))∧y∈ns∧Q (.int (ns.idxOf y:Nat)) H
end
end L2
end
section
namespace Gm
open PySem L2
def cy (r:List Int) (j:Nat):Int:=r.getD (j % r.length) 0
def tM (r:List Int) (k:Nat):List Int:=r.drop k ++ r.take k
abbrev aQ:=Int×Int
def rowOf (L:List (List Int)) (a:Int):List Int:=L.getD a.toNat []
def pre (l:List Int) (x:Int):Int:=cy l (l.idxOf x + l.length - 1)
structure Dt (L:List (List Int)) (d:aQ):Prop where
 lo:0≤d.1
 hi:d.1 < L.length
 mem:d.2∈rowOf L d.1
def nx (L:List (List Int)) (d:aQ):aQ:=(d.2,pre (rowOf L d.2) d.1)
theorem hR {L:List (List Int)} {a:Int} (h0:0≤a) (h1:a < L.length):L[a.toNat]? = some (rowOf L a):=by
 unfold rowOf
 have:a.toNat < L.length:=by omega
 simp [this]
section
variable {L:List (List Int)} {d e:aQ}
def ya (L:List (List Int)):Nat→List aQ
 | 0=>[]
 | k + 1=>ya L k ++ (rowOf L k).map fun x=>((k:Int),x)
def it (L:List (List Int)) (d:aQ):Nat→aQ
 | 0=>d
 | k + 1=>Gm.nx L (it L d k)
def yt (L:List (List Int)) (d:aQ) (k:Nat):Prop:=∀ i,0 < i→i < k→it L d i≠d
def tr (L:List (List Int)) (d:aQ) (k:Nat):List aQ:=(List.range k).map (it L d)
def dj (r:List Int) (j:Nat):aQ:=(cy r j,cy r (j + 1))
structure Good (L:List (List Int)) (r:List Int):Prop where
 two:2≤r.length
 dt:∀ j,Dt L (dj r j)
 st:∀ j,Gm.nx L (dj r j) = dj r (j + 1)
def sh (s:Nat) (r:List Int):List aQ:=(List.range r.length).map fun j=>dj r (j + s)
def uS (L:List (List Int)) (d:aQ) (k:Nat):List Int:=(List.range k).map fun i=>(it L d i).1
def ng (r:List Int):Prop:=∀ k,k < r.length→Le r (tM r k)
structure yv (L R:List (List Int)):Prop where
 good:∀ r∈R,Good L r
 least:∀ r∈R,ng r
 sorted:R.Pairwise (fun a b=>HT.lexLt a b = true)
 nd:(R.flatMap (sh 0)).Nodup
 all:∀ d,Dt L d→d∈R.flatMap (sh 0)
structure Lp (L R:List (List Int)) (ks:List aQ):Prop where
 good:∀ r∈R,Good L r
 least:∀ r∈R,ng r
 nd:ks.Nodup
 pm:ks.Perm (R.flatMap (sh 0))
 two:2 * R.length≤ks.length
end
end Gm
end
section
namespace Gm
open PySem L2
theorem range_getD {α : Type} {d : α} (L:List α):((List.range L.length).map fun i=>L.getD i d) = L:=by
 apply List.ext_getElem?
 intro i
 rw [List.getElem?_map]
 by_cases h:i < L.length
 ·simp [h]
 ·simp [h]
def si (d:aQ):List Key:=[.inl d.1,.inl d.2]
def kD (ks:List aQ):List (List Key×V):=ks.map fun d=>(si d,V.bl true)
theorem bq.snoc {H:Hp} {t b:Addr} {bs:List Addr} {R:List (List Int)} {l:List Int} (g:bq H t bs R) (nt:t∉bs) (nb:b≠t) (hb:H b = some (.lst (l.map V.int))):bq (upd H t (.lst (bs.map V.ref ++ [.ref b]))) t (bs ++ [b]) (R ++ [l]):=by
 refine ⟨by rw [List.map_append]; exact ar,by rw [List.length_append,List.length_append,g.len]; rfl,fun i a m h1 h2=>?_⟩
 rcases Nat.lt_or_ge i bs.length with hi | hi
 ·rw [List.getElem?_append_left hi] at h1
  rw [List.getElem?_append_left (by rw [← g.len]; exact hi)] at h2
  have am:=List.mem_of_getElem? h1
  have ne:a≠t:=fun z=>nt (by rw [← z]; exact am)
  rw [ao ne]
  exact g.row i a m h1 h2
 ·rw [List.getElem?_append_right hi] at h1
  rw [List.getElem?_append_right (by rw [← g.len]; exact hi),← g.len] at h2
  have:i - bs.length = 0:=by
   have:=(List.getElem?_eq_some_iff.mp h1).1
   rw [List.length_singleton] at this
   omega
  rw [this] at h1 h2
  simp at h1 h2
  subst h1 h2
  rw [ao nb]
  exact hb
theorem bq.r8 {H:Hp} {t b:Addr} {bs:List Addr} {R:List (List Int)} (g:bq H t bs R) (hb:H b = none):b∉t :: bs:=fun z=>by
 rcases List.mem_cons.mp z with z | z
 ·rw [z,g.top] at hb; cases hb
 ·obtain ⟨k,hk,Bg⟩:=List.mem_iff_getElem.mp z
  have kl:k < R.length:=by rw [← g.len]; exact hk
  have:=g.row k b _ (by rw [List.getElem?_eq_getElem hk,Bg]) (List.getElem?_eq_getElem kl)
  rw [hb] at this; cases this
theorem take_snoc {α : Type} {l:List α} {j:Nat} {x : α} (h:l[j]? = some x):l.take (j + 1) = l.take j ++ [x]:=by rw [List.take_succ,h]; rfl
theorem kW {l:List Addr} {x:Addr}:(l ++ [x]).Nodup↔x∉l∧l.Nodup:=by rw [(List.perm_append_singleton x l).nodup_iff,List.nodup_cons]
def DV (g:Addr) (H H':Hp):Prop:=∀ b o,b≠g→H b = some o→H' b = some o
def fl (R:List (List Int)) (k:Nat):List aQ:=(R.take k).flatMap fun r=>sh (r.length - 2) r
end Gm
end
section
namespace Gm
open PySem L2
def zV:Int→List Int→Int→Int
 | p,[],_=>p
 | p,h :: t,x=>if h = x then p else zV h t x
def lst (l:List Int):Int:=l.getD (l.length - 1) 0
def rem (L:List (List Int)) (a b:Int):List (List Int):=(L.set a.toNat ((rowOf L a).erase b)).set b.toNat ((rowOf L b).erase a)
end Gm
end
section
namespace Gm
open PySem L2
inductive Wk (f:aQ→aQ):aQ→List aQ→aQ→Prop where
 | nil (x:aQ):Wk f x [] x
 | cons {x y:aQ} {l:List aQ}:Wk f (f x) l y→Wk f x (x :: l) y
def uq (f:aQ→aQ) (c:List aQ):Prop:=∃ x l,c = x :: l∧Wk f x c x
structure Dec (L:List (List Int)) (R:List (List aQ)):Prop where
 BO:∀ c∈R,uq (nx L) c
 nd:R.flatten.Nodup
 mem:∀ d,d∈R.flatten↔Dt L d
end Gm
end
section
namespace Gm
open PySem L2
def iso (L:List (List Int)):Nat:=L.countP (·.isEmpty)
def pB (L:List (List Int)) (S:List Int):Prop:=∀ x:Int,0≤x→x < L.length→∃ s∈S,Reach L s x
end Gm
end
section
namespace Gm
open PySem L2
def vL (c:List aQ):aQ:=c.headD (0,0)
def rep (R:List (List aQ)) (d:aQ):aQ:=((R.find? fun c=>decide (d∈c)).map vL).getD (0,0)
structure Dp (L:List (List Int)) (R:List (List aQ)):Prop where
 BO:∀ c∈R,uq (nx L) c
 nd:R.flatten.Nodup
 dt:∀ d∈R.flatten,Dt L d
end Gm
end
section
namespace L2
open PySem PySem.Spec PySem.W PySem.Calls PyProof.Rows
section
variable {X:Cx}
def d8 (ns:List Int):List Int:=ns.foldl step_dedup []
theorem jg (ns:List Int):firstMet (fun i=>ns.getD i 0) ns.length = d8 ns:=by
 unfold firstMet d8
 rw [show ((List.range ns.length).map fun i=>ns.getD i 0) = ns from Gm.range_getD ns]
theorem jO:∀ (ns σ : List Int),σ.Nodup→((ns.foldl step_dedup σ).length = σ.length + ns.length↔(σ ++ ns).Nodup)
 | [],σ,h=>by simp [h]
 | x :: ns,σ,h=>by
  rw [List.foldl_cons]
  by_cases e:x∈σ
  ·have e1:step_dedup σ x = σ:=by unfold step_dedup; rw [if_pos (by simpa using e)]
   rw [e1]
   constructor
   ·intro z
    have:=foldl_step_dedup_length_le σ ns
    rw [List.length_cons] at z
    omega
   ·intro z
    exact absurd rfl ((List.nodup_append.mp z).2.2 x e x List.mem_cons_self)
  ·have e1:step_dedup σ x = σ ++ [x]:=by unfold step_dedup; rw [if_neg (by simpa using e)]
   rw [e1]
   have n1:(σ ++ [x]).Nodup:=(List.perm_append_singleton x σ).nodup_iff.mpr (List.nodup_cons.mpr ⟨e,h⟩)
   have:=jO ns (σ ++ [x]) n1
   rw [List.length_append,List.length_singleton,List.append_assoc,List.singleton_append] at this
   rw [← this,List.length_cons]
   omega
theorem iz (ns:List Int):(d8 ns).length = ns.length↔ns.Nodup:=by
 have:=jO ns [] .nil
 rw [List.length_nil,Nat.zero_add,List.nil_append] at this
 exact this
def rT (K:Frag):List V→Hp→VK→Prop:=fun vs H Q=>∃ (a:Addr) (ns:List Int),vs = [.ref a]∧aD K H a (ns.map V.int)∧ns.length≤1000∧∀ (p:Addr) (S:Int→Bool),H p = none→Q (.ref p) (upd H p (.set S (d8 ns).length))
theorem gd (hc:X.calm = true):cU X (.type "set") (rT X.K):=by
 intro pins s σ H xs us Q I r h
 obtain ⟨a,ns,rfl,ha,hl,q⟩:=h
 obtain ⟨u,rfl,ru⟩:=vals1 r
 cases ru
 obtain ⟨aH,rv,pl,hz⟩:=I.list ha
 have hi:IntsAre aH ns:=intsAre_of rv
 have zl:=hi.length
 refine call_set_list (I.ok.hd hc) pl.isList (by simpa using hi) (by rw [List.size_toArray,zl]; exact Nat.lt_of_le_of_lt (Nat.succ_le_succ hl) (by decide)) fun h' tk hS kk=>?_
 have ez:aH.toArray.size = ns.length:=by rw [List.size_toArray]; exact zl
 rw [ez,jg] at hS
 exact ⟨.ref s.heap.objs.size,_,I.laid (t':=tk) (fun b o e=>kk b o (Heap.lt_size e) e) (Nat.le_refl _) (show aS X.prog X.w _ h' s.heap.objs.size (.set _ (d8 ns).length) from hS),rfl,q _ _ (I.bc.fresh (Nat.le_refl _))⟩
theorem gf:cU X (.builtin "len") (fun xs H Q=>∃ a S n,xs = [V.ref a]∧H a = some (.set S n)∧Q (.int (n:Nat)) H):=by
 intro pins s σ H xs us Q I r h
 obtain ⟨a,S,n,rfl,ha,q⟩:=h
 obtain ⟨u,rfl,ru⟩:=vals1 r
 cases ru
 obtain ⟨o,es,ep,tt,ho,hex,hd,_,_,dq,hf,hn⟩:=(show s.heap.SetOf (intKind X.prog X.w) a S n from I.bc a _ ha)
 have lt:es.size < 4096:=dq
 refine call_len_set ho hex hd hf (by omega) ⟨.int (n:Nat),H,I.tok _,⟨_,by rw [hn]⟩,q⟩
def zA:R2:=fun x y H Q=>∃ a b:Bool,x = .bl a∧y = .bl b∧Q (.bl (a == b)) H
def zC (K:Frag):R2:=fun x y H Q=>∃ (p l:Addr) (d:Int×Int) (ps:List Addr) (T:List (Int×Int)),x = .ref p∧y = .ref l∧H p = some (.tup [.int d.1,.int d.2])∧H l = some (.lst (ps.map V.ref))∧Gm.PR H ps T∧Q (.bl (decide (d∈T))) H
def tQ:V→List V→Hp→VK→Prop:=fun x vs H Q=>∃ (l:Addr) (ns:List Int) (y:Int),x = .ref l∧vs = [.int y]∧H l = some (.lst (ns.map V.int))∧y∈ns∧Q .bp (upd H l (.lst ((ns.erase y).map V.int)))
end
end L2
end
section
namespace Gm
open PySem L2
structure sZ (L:List (List Int)):Prop where
 map:iI L
 two:2≤L.length
 span:pB L [0]
 B1:∃ R,Dec L R∧(L.length:Int) + R.length + iso L = (sP L L.length).length + 2
def both (L:List (List Int)) (a b:Int) (A B:List Int):List (List Int):=(L.set a.toNat A).set b.toNat B
structure wJ (L:List (List Int)) (a b:Int) (A B:List Int):Prop where
 map:iI L
 a0:0≤a
 a1:a < L.length
 b0:0≤b
 b1:b < L.length
 ne:a≠b
 no:b∉rowOf L a
 pa:A.Perm (b :: rowOf L a)
 pb:B.Perm (a :: rowOf L b)
 ea:A.erase b = rowOf L a
 eb:B.erase a = rowOf L b
end Gm
end
section
namespace Gm
open PySem L2
def AD (L:List (List Int)):List (List Int):=L ++ [[]]
structure Pl (L:List (List Int)) (r:List Int) (c1 cj:Nat) (dn:List Nat) (M:List (List Int)):Prop where
 sh:sZ M
 len:M.length = L.length + 1
 new:rowOf M (L.length:Int) = dn.map (cy r)
 hd:∃ rest,dn = c1 :: rest
 keep:∀ x:Int,0≤x→x < L.length→(∀ c∈dn,cy r c≠x)→rowOf M x = rowOf L x
 sub:∀ d,Dt L d→Dt M d
 le:c1≤cj
 top:cj < r.length
 i1:∀ i,cj≤i→i + 1 < c1 + r.length→nx M (dj r i) = dj r (i + 1)
 i2:nx M (dj r (c1 + (r.length - 1))) = (cy r c1,(L.length:Int))
 i3:nx M (cy r c1,(L.length:Int)) = ((L.length:Int),cy r cj)
 i4:nx M ((L.length:Int),cy r cj) = dj r cj
end Gm
end
section
namespace L2
open PySem PySem.Spec PySem.W PySem.Calls PyProof.Rows
theorem mY:bootBuiltins "set" = some (.type "set"):=by decide +kernel
end L2
namespace Gm
open PySem L2
end Gm
end
section
namespace L2
open PySem PySem.Spec PySem.W PySem.Calls PyProof.Rows
def Cu (K:Frag) (a b:Addr):It:=
 ⟨fun i H=>∃ xs ys x y,aD K H a xs∧aD K H b ys∧xs[i]? = some x∧ys[i]? = some y,
  fun i H v H'=>∃ p x y,H p = none∧v = .ref p∧(∀ xs,aD K H a xs→xs[i]? = some x)∧(∀ ys,aD K H b ys→ys[i]? = some y)∧H' = upd H p (.tup [x,y]),
  fun i H=>∃ xs ys,aD K H a xs∧aD K H b ys∧(xs.length≤i∨ys.length≤i)⟩
def AS (K:Frag) (ta:TA):TI:=fun σ H R=>ta σ H fun vs H1=>∃ a b,vs = [.ref a,.ref b]∧(∃ xs,aD K H1 a xs)∧(∃ ys,aD K H1 b ys)∧R (Cu K a b) H1
end L2
end
section
namespace Gm
open PySem L2
def jQ (a b:List Int):Prop:=a = b∨∃ c,c < b.length∧a = tM b c
end Gm
namespace L2
open PySem PySem.Spec PySem.W PySem.Calls PyProof.Rows
end L2
namespace Gm
open PySem L2
def wD (L M:List (List Int)):Prop:=L.length = M.length∧∀ (i:Nat) (l m:List Int),L[i]? = some l→M[i]? = some m→jQ l m
end Gm
end
section
namespace Gm
open PySem L2
end Gm
end
section
namespace PySem
abbrev wA (h:Heap) (z TI TO a:Addr) (f:Bool):Prop:=
 h.get? z = some { cls:=.type "zip",dict:=none,data:=.fields #[rawInt a,.bool f,.bool false,.ref TI,.ref TO],slots:=#[] }
structure yq (h:Heap) (z TI TO i1 i2 l1 l2 S:Addr) (i:Nat):Prop where
 own:(i = 0∧IsZip h z TI TO .none∧∃ a b,IsPair h TO a b)∨∃ a f oa,wA h z TI TO a f∧h.get? a = some oa∧a∉[z,i1,i2,S]
 it:IsPair h TI (.ref i1) (.ref i2)
 one:h.IsListIter i1 l1 i
 two:h.IsListIter i2 l2 i
structure Cf (xs ys:Array Value) (lo:Addr) (h:Heap) (as:List Addr):Prop where
 rise:as.Pairwise (· < ·)
 above:∀ a∈as,lo≤a
 pairs:∀ (j:Nat) (a:Addr),as[j]? = some a→∃ x y,xs[j]? = some x∧ys[j]? = some y∧IsPair h a x y
namespace F
end F
end PySem
end
section
namespace L2
open PySem PySem.Spec PySem.W PySem.Calls PyProof.Rows
def vm:List Addr→List (V×V)→Hp→Hp
 | a :: as,p :: ps,H=>upd (vm as ps H) a (.tup [p.1,p.2])
 | _,_,H=>H
def rq (K:Frag) (ta:TA):TE:=fun σ H Q=>ta σ H fun vs H1=>∃ a b xs ys,vs = [.ref a,.ref b]∧aD K H1 a xs∧aD K H1 b ys∧xs.length = ys.length∧
 ∀ (l:Addr) (as:List Addr) (H2:Hp),av H1 H2→H1 l = none→H2 l = some (.lst (as.map V.ref))→as.length = xs.length→
  (∀ (j:Nat) (a:Addr),as[j]? = some a→H1 a = none∧a≠l∧∃ x y,xs[j]? = some x∧ys[j]? = some y∧H2 a = some (.tup [x,y]))→Q (.ref l) H2
end L2
end
section
namespace Gm
open PySem L2
end Gm
end
section
namespace L2
open PySem PySem.Spec PySem.W PySem.Calls PyProof.Rows
section
variable {X:Cx}
def tR (K:Frag):R2:=fun x y H Q=>∃ (p l:Addr) (d:Int×Int) (ps:List Addr) (T:List (Int×Int)),x = .ref p∧y = .ref l∧H p = some (.tup [.int d.1,.int d.2])∧H l = some (.lst (ps.map V.ref))∧Gm.PR H ps T∧Q (.bl (!decide (d∈T))) H
end
end L2
namespace Gm
open PySem L2
end Gm
end
section
namespace Gm
open PySem L2
section
variable {K:PySem.W.Frag} {σ : St} {H:Hp} {Q:VK}
theorem mR {te:TE} {i:Nat} {p:Addr} {as:List Addr} {L:List (List Int)}
  (A1:∀ (σ':St) (H':Hp) (b:Addr) (l:List Int) (Q':VK),σ'[0]? = some (some (.ref b))→H' b = some (.lst (l.map V.int))→(∀ c,H' c = none→Q' (.ref c) (upd H' c (.lst (l.map V.int))))→te σ' H' Q')
  (hv : σ[i]? = some (some (.ref p))) (gp:bq H p as L) (hn:L.length≤1000)
  (q:∀ acc cs H',av H H'→bq H' acc cs L→(acc :: cs).Nodup→(∀ b∈acc :: cs,H b = none)→Q (.ref acc) H'):g7 (mC K (jU i)) (fY 0) js te 1 [] σ H Q:=by
 refine lJ ?_
 refine ⟨_,hv,p,rfl,⟨_,aD.of gp.top⟩,fun acc gK=>?_⟩
 refine kj (K:=K) (a:=p) (xs:=as.map V.ref) (fun i σ' ys Hx=>∃ (bs:List Addr) (v:Option V),σ' = [v]∧ys = bs.map V.ref∧av H Hx∧bs.length = i∧bq Hx acc bs (L.take i)∧(acc :: bs).Nodup∧∀ b∈acc :: bs,H b = none)
  ⟨[],none,rfl,rfl,av.upd gK,rfl,⟨ar,rfl,fun i a l z=>by simp at z⟩,by simp,by simpa using gK⟩ (fun i σ' ys Hx _ ⟨_,_,_,_,e,_⟩=>aD.of (e _ _ gp.top)) ?_ ?_
 ·rintro i x σ' ys Hx hx hi ⟨bs,v,rfl,rfl,e2,rfl,g2,tY,sM⟩
  obtain ⟨b,l,ha,hl,dJ⟩:=gp.at (i:=bs.length) (by rw [List.length_map,gp.len] at hi; exact hi)
  obtain rfl:x = V.ref b:=by
   rw [List.getElem?_map,ha] at hx
   exact (Option.some.inj hx).symm
  have Bi:=hi
  rw [List.length_map,gp.len] at Bi
  refine r_gname ?_
  refine gv ?_
  refine sm (A1 _ _ b l _ rfl (e2 _ _ dJ) fun c hc=>?_)
  have nc:=g2.r8 hc
  have e3:av Hx (upd Hx c (.lst (l.map V.int))):=av.upd hc
  have c3:upd Hx c (.lst (l.map V.int)) c = some (.lst (l.map V.int)):=ar
  have cH:H c = none:=e2.free hc
  generalize upd Hx c (.lst (l.map V.int)) = Hy at e3 c3 ⊢
  have g3:=g2.same e3
  have xD:c≠acc:=fun z=>nc (z▸List.mem_cons_self)
  refine ⟨g3.top,by rw [List.length_map]; exact b7 (by omega),pq hi ⟨bs ++ [c],_,rfl,by simp,av.fresh (e2.trans e3) (sM _ List.mem_cons_self),by simp,?_,?_,fun y hy=>?_⟩⟩
  ·rw [take_snoc hl]; exact g3.snoc (List.nodup_cons.mp tY).1 xD c3
  ·obtain ⟨n1,n2⟩:=List.nodup_cons.mp tY
   refine List.nodup_cons.mpr ⟨fun z=>?_,kW.mpr ⟨fun z=>nc (List.mem_cons_of_mem _ z),n2⟩⟩
   rcases List.mem_append.mp z with z | z
   ·exact n1 z
   ·exact xD (List.mem_singleton.mp z).symm
  ·rcases List.mem_cons.mp hy with z | z
   ·rw [z]; exact sM _ List.mem_cons_self
   ·rcases List.mem_append.mp z with z | z
    ·exact sM y (List.mem_cons_of_mem _ z)
    ·rw [List.mem_singleton.mp z]; exact cH
 ·rintro σ' ys H4 ⟨cs,v,rfl,rfl,e4,Ds,g4,vh,vY⟩
  rw [List.length_map,gp.len,List.take_length] at g4
  exact q acc cs H4 e4 g4 vh vY
theorem jz {i:Nat} {p:Addr} {as:List Addr} {L:List (List Int)} (hv : σ[i]? = some (some (.ref p))) (gp:bq H p as L) (hn:L.length≤1000)
  (q:∀ acc cs H',av H H'→bq H' acc cs L→(acc :: cs).Nodup→(∀ b∈acc :: cs,H b = none)→Q (.ref acc) H') :
  g7 (mC K (jU i)) (fY 0) js (tI (fun xs H Q=>∃ p ys,xs = [V.ref p]∧(aD K H p ys∨SqT K H p ys)∧∀ (l:Addr),H l = none→Q (V.ref l) (upd H l (HO.lst ys))) (kP (jU 0) pH)) 1 [] σ H Q:=
 mR (fun σ' H' b l Q' h1 h2 h3=>⟨_,h1,b,_,rfl,.inl (aD.of h2),h3⟩) hv gp hn q
end
end Gm
end
section
namespace L2
open PySem PySem.Spec PySem.W PySem.Calls PyProof.Rows
section
variable {X:Cx}
def zF (K:Frag):List V→Hp→VK→Prop:=fun vs H Q=>∃ (a:Addr) (bs:List Bool),vs = [.ref a]∧aD K H a (bs.map V.bl)∧Q (.bl (bs.all id)) H
end
end L2
end
section
namespace PySem
namespace F
end F
end PySem
namespace L2
open PySem PySem.Spec PySem.W PySem.Calls PyProof.Rows
section
variable {X:Cx} {e st:Expr} {te wU:TE} {p2 pos:Pos}
def yN (K:Frag) (te wU:TE):TE:=fun σ H Q=>te σ H fun x H1=>wU σ H1 fun y H2=>y = .int (-1)∧∃ a xs,x = .ref a∧aD K H2 a xs∧∀ p,H2 p = none→Q (.ref p) (upd H2 p (.lst xs.reverse))
end
section
variable {X:Cx} {l:Expr} {tl:TE} {p p2 pos u4:Pos}
def rA (K:Frag) (tl:TE):TE:=fun σ H Q=>tl σ H fun x H1=>∃ a xs,x = .ref a∧aD K H1 a xs∧∀ p,H1 p = none→Q (.ref p) (upd H1 p (.lst xs.reverse))
end
end L2
end
section
namespace Gm
open PySem L2
def kN (ks:List (aQ×Int)):List (List Key×V):=ks.map fun p=>(si p.1,V.int p.2)
def lk (s:List Int→Nat) (R:List (List Int)):Nat→List (aQ×Int)
 | 0=>[]
 | k + 1=>lk s R k ++ (sh (s (R.getD k [])) (R.getD k [])).map fun d=>(d,(k:Int))
def lo (R:List (List Int)) (d:aQ):Int:=(R.findIdx fun r=>decide (d∈sh 0 r):Nat)
def C3 (R:List (List Int)) (s:Nat) (r:List Int):List Int:=(sh s r).map fun d=>lo R (d.2,d.1)
def CI (D:List (List Int)):Prop:=∀ (k:Nat) (l:List Int),D[k]? = some l→(k:Int)∉l∧l.Nodup
end Gm
namespace Gm
open PySem L2
end Gm
namespace L2
open PySem PySem.Spec PySem.W PySem.Calls PyProof.Rows in
theorem oj (l:List Int):(d8 l).length≤l.length:=by
 have:=foldl_step_dedup_length_le [] l
 unfold d8
 simpa using this
end L2
namespace Gm
open PySem L2
end Gm
namespace Gm
end Gm
namespace L2
open PySem
end L2
namespace L2
end L2
end
section
namespace Gm
open PySem L2
inductive oE (L:List (List Int)) (S:List Int) (s:Int):Int→Prop where
 | here:oE L S s s
 | step {i:Nat} {l:List Int} {x:Int}:oE L S s i→L[i]? = some l→x∈l→x∉S→oE L S s x
structure DS (L:List (List Int)) (S:List Int) (s:Int) (ks ws:List Int):Prop where
 nd:ks.Nodup
 nw:ws.Nodup
 st:s∈ks
 re:∀ x∈ks,oE L S s x
 sub:∀ x∈ws,x∈ks
 cl:∀ (i:Nat) (l:List Int),(i:Int)∈ks→(i:Int)∉ws→L[i]? = some l→∀ x∈l,x∉S→x∈ks
structure DT (L:List (List Int)) (S:List Int) (s:Int) (ks ws:List Int) (pl:Nat) (l:List Int) (k:Nat):Prop where
 nd:ks.Nodup
 nw:ws.Nodup
 st:s∈ks
 re:∀ x∈ks,oE L S s x
 sub:∀ x∈ws,x∈ks
 pk:(pl:Int)∈ks
 cl:∀ (i:Nat) (m:List Int),(i:Int)∈ks→(i:Int)∉ws→i≠pl→L[i]? = some m→∀ x∈m,x∉S→x∈ks
 tk:∀ x∈l.take k,x∉S→x∈ks
def tu (L:List (List Int)) (S fs:List Int):Prop:=∀ (i:Nat) (l:List Int),L[i]? = some l→(i:Int)∉S→(∃ x,x∈l∧x∈fs)→(i:Int)∈fs
structure DJ (L:List (List Int)) (S:List Int) (s:Int) (fs:List Int) (k:Nat):Prop where
 nd:fs.Nodup
 st:s∈fs
 re:∀ x∈fs,oE L S s x
 gr:tu L S fs∨k + 1≤fs.length
structure DI (L:List (List Int)) (S:List Int) (s:Int) (nT fs:List Int) (j:Nat):Prop where
 nd:fs.Nodup
 st:s∈fs
 re:∀ x∈fs,oE L S s x
 kp:tu L S nT→fs = nT
 gr:nT.length < fs.length∨(fs = nT∧∀ (i:Nat) (l:List Int),i < j→L[i]? = some l→(i:Int)∉S→(∃ x,x∈l∧x∈fs)→(i:Int)∈fs)
def iN (n:Nat):List Int:=(List.range n).map fun i:Nat=>(i:Int)
def left (n:Nat) (S:List Int):List Int:=(iN n).filter fun x=>!decide (x∈S)
open Classical in
noncomputable def rn (L:List (List Int)) (S:List Int) (s:Int):Nat:=((iN L.length).filter fun x=>decide (oE L S s x)).length
noncomputable def C2 (L:List (List Int)) (S:List Int):Bool:=match left L.length S with | []=>false | s :: r=>decide (rn L S s < (s :: r).length)
def twos (n one:Nat):List (List Int):=(List.range (n - (one + 1))).map fun j:Nat=>[(one:Int),(one:Int) + 1 + (j:Int)]
def pL (n:Nat):Nat→List (List Int)
 | 0=>[] :: (iN n).map fun i=>[i]
 | k + 1=>pL n k ++ twos n k
end Gm
end
section
namespace Gm
open PySem L2
def sw (d:aQ):aQ:=(d.2,d.1)
def C7 (L:List (List Int)):List (List Int):=L.map List.reverse
def tD (r s:List Int):Prop:=∃ c,c < r.length∧s = tM r.reverse c∧ng s
abbrev yB:List (List Int)→List (List Int)→Prop:=Paired tD
end Gm
end
section
namespace Gm
open PySem L2
end Gm
end
section
namespace Gm
open PySem L2
structure Lay (A B:List (List Int)) (f:Int→Int):Prop where
 len:A.length = B.length
 rg:∀ i:Int,0≤i→i < A.length→0≤f i∧f i < B.length
 row:∀ i:Int,0≤i→i < A.length→jQ ((rowOf A i).map f) (rowOf B (f i))
end Gm
end
section
namespace Gm
open PySem L2
def nm (ks:List (Int×Int)) (p:Int):Int:=(ks.lookup p).getD 0
structure pA (A B:List (List Int)) (first x0 second:Int) (f:Int→Int):Prop where
 lay:Lay A B f
 e0:f 0 = first
 e1:f x0 = second
abbrev Wait:=Int×Int×Int
structure Nf (A B:List (List Int)) (first x0 second:Int) (ks:List (Int×Int)) (ws:List Wait):Prop where
 nd:(ks.map (·.1)).Nodup
 rg:∀ p∈ks,(0≤p.1∧p.1 < A.length)∧0≤p.2∧p.2 < B.length
 st:(0,first)∈ks
 wn:(ws.map (·.1)).Nodup
 wk:∀ w∈ws,∃ v,(w.1,v)∈ks∧w.2.1∈rowOf A w.1∧w.2.2∈rowOf B v
 cl:∀ p v,(p,v)∈ks→p∉ws.map (·.1)→(∀ y∈rowOf A p,∃ u,(y,u)∈ks)∧jQ ((rowOf A p).map (nm ks)) (rowOf B v)
 un:∀ f,pA A B first x0 second f→(∀ p∈ks,f p.1 = p.2)∧∀ w∈ws,f w.2.1 = w.2.2
 AR:(0,x0,second)∈ws∨(x0,second)∈ks
structure Ni (A B:List (List Int)) (first x0 second:Int) (ks:List (Int×Int)) (ws:List Wait) (p v:Int) (od gl:List Int) (k:Nat):Prop where
 nd:(ks.map (·.1)).Nodup
 rg:∀ p∈ks,(0≤p.1∧p.1 < A.length)∧0≤p.2∧p.2 < B.length
 st:(0,first)∈ks
 wn:(ws.map (·.1)).Nodup
 pn:p∉ws.map (·.1)
 pk:(p,v)∈ks
 wk:∀ w∈ws,∃ v,(w.1,v)∈ks∧w.2.1∈rowOf A w.1∧w.2.2∈rowOf B v
 cl:∀ q u,(q,u)∈ks→q∉ws.map (·.1)→q≠p→(∀ y∈rowOf A q,∃ u,(y,u)∈ks)∧jQ ((rowOf A q).map (nm ks)) (rowOf B u)
 un:∀ f,pA A B first x0 second f→(∀ p∈ks,f p.1 = p.2)∧∀ w∈ws,f w.2.1 = w.2.2
 tk:∀ (t:Nat) (y u:Int),t < k→od[t]? = some y→gl[t]? = some u→(y,u)∈ks
 AR:(0,x0,second)∈ws∨(x0,second)∈ks∨(od[0]? = some x0∧gl[0]? = some second)
end Gm
end
section
namespace Gm
open PySem L2
def kI (ks:List (Int×Int)):List (Key×V):=ks.map fun p=>((Sum.inl p.1:Key),V.int p.2)
abbrev WR (H:Hp):List Addr→List Wait→Prop:=Paired fun a w=>H a = some (.tup [.int w.1,.int w.2.1,.int w.2.2])
end Gm
end
section
namespace L2
open PySem PySem.Spec PySem.W PySem.Calls PyProof.Rows Gm
section
variable {X:Cx} {l:Expr} {tl:TE} {p p2 pos u4:Pos}
def rz (tl:TE):TE:=fun σ H Q=>tl σ H fun x H1=>∃ n:Nat,x = .int (n:Int)∧n≤1000∧∀ p,H1 p = none→Q (.ref p) (upd H1 p (.lst ((iN n).map V.int)))
end
section
variable {σ : St} {H:Hp} {Q:VK} {K:Frag}
theorem qG (xs:List Int) (k:Nat):(xs.map V.int).eraseIdx k = (xs.eraseIdx k).map V.int:=by
 rw [List.eraseIdx_eq_take_drop_succ,List.eraseIdx_eq_take_drop_succ,List.map_append,List.map_take,List.map_drop]
theorem nC {l:Addr} {xs:List Int} {k:Nat} {y:Int} (h:H l = some (.lst (xs.map V.int))) (hy:xs[k]? = some y) (hk:xs.length≤1000) (q:Q (.int y) (upd H l (.lst ((xs.eraseIdx k).map V.int)))):lL (.ref l) [.int (k:Int)] H Q:=by
 have hl:=(List.getElem?_eq_some_iff.mp hy).1
 refine ⟨l,_,(k:Int),k,.int y,rfl,rfl,h,by omega,by omega,?_,by rw [List.getElem?_map,hy]; rfl,?_⟩
 ·have:=PySem.StrLaws.seqIndex_nonneg (i:=(k:Int)) (n:=(xs.map V.int).length) (by omega) (by rw [List.length_map]; omega)
  rwa [Int.toNat_natCast] at this
 ·rw [qG]
  exact q
end
end L2
end
section
namespace Gm
open PySem L2
def AE (n:Nat) (l:List Int):List (List Int):=((iN n).filter fun x=>!decide (x∈l)).map fun x=>l ++ [x]
def wx (n:Nat):Nat→List (List Int)
 | 0=>[[]]
 | k + 1=>(wx n k).flatMap (AE n)
def tW (l:List Int) (i:Int):Int:=l.getD i.toNat 0
structure DN (n:Nat) (l:List Int):Prop where
 len:l.length = n
 nd:l.Nodup
 rg:∀ x∈l,0≤x∧x < n
structure DF (A:List (List Int)) (l:List Int) (R:List (List Int)):Prop where
 len:R.length = A.length
 row:∀ j:Int,0≤j→j < A.length→R[(tW l j).toNat]? = some ((rowOf A j).map (tW l))
def CG (L:List (List Int)):Prop:=∀ x:Int,0≤x→x < L.length→Reach L 0 x
def nG (n:Nat) (k:Nat):List Int:=[(k:Int) - 1,(k:Int) + 1].filter fun x=>decide (0≤x) && decide (x < n)
def path (n:Nat):List (List Int):=(List.range n).map (nG n)
theorem cq {a b:TS} {D:Ends} {σ : St} {H:Hp} (Pv:St→Hp→Prop) (hb:∀ σ' H',Pv σ' H'→b D σ' H') (ha:∀ T:St→Hp→Prop,(∀ σ' H',Pv σ' H'→T σ' H')→a { D with nx:=T } σ H):pG a b D σ H:=ha _ hb
def BN (A B:List (List Int)):PyData:=.list [cw A,cw B]
end Gm
end
section
namespace L2
open PySem PySem.Spec PySem.W PySem.Calls PyProof.Rows HT
def zD (K:Frag):R2:=fun x y H Q=>∃ (a b:Addr) (ns ms:List Int),x = .ref a∧y = .ref b∧aD K H a (ns.map V.int)∧aD K H b (ms.map V.int)∧Q (.bl (lexLt ms ns)) H
end L2
end
section
namespace L2
open PySem PySem.Spec PySem.W PySem.Calls PyProof.Rows Gm
section
variable {X:Cx}
def rJoin (K:Frag):V→List V→Hp→VK→Prop:=fun x vs H Q=>∃ (sep:Str) (a:Addr) (ts:List Str),x = .str sep∧vs = [.ref a]∧aD K H a (ts.map V.str)∧JoinOk sep ts = true∧Q (.str (Str.join sep ts)) H
def uU:V→List V→Hp→VK→Prop:=fun x vs H Q=>∃ (z y:Str),x = .str z∧vs = [.str y]∧(y.length == 0) = false∧z.length≤1000000∧(Builtin.Str.partsBetween z (Builtin.Str.occurrences z y 0 z.length (z.length + 1)) y.length).length≤sizeLine∧
 ∀ p,H p = none→Q (.ref p) (upd H p (.lst ((Txt.split z y).map V.str)))
def yS (te:TE) (y:Str):TE:=fun σ H Q=>te σ H fun x H1=>∃ n:Int,x = .int n∧n.natAbs.log2 < 1920∧((toString n:String):Str).length + y.length≤1000000∧Q (.str (((toString n:String):Str) ++ y)) H1
end
def Cy (x:Str):It:=⟨fun i _=>i < x.cps.size,fun i H v H'=>H' = H∧∃ c,x.cps[i]? = some c∧v = .str ⟨#[c]⟩,fun i _=>x.cps.size≤i⟩
section
variable {X:Cx} {tg:Expr}
def AV (tl:TE):TI:=fun σ H R=>tl σ H fun x H1=>∃ z:Str,x = .str z∧z.cps.all (· < 128) = true∧R (Cy z) H1
end
end L2
end
section
namespace Gm
open PySem L2
def jl (s:List Nat):List (List Nat)→List Nat
 | []=>[]
 | [a]=>a
 | a :: b :: r=>a ++ s ++ jl s (b :: r)
abbrev num (n:Int):Str:=((toString n:String):Str)
structure Num (x:Str):Prop where
 l1:1≤x.length
 l2:x.length≤2
 dg:∀ c∈x.cps.toList,48≤c∧c≤57
 hd:x = ((("0" : String)):Str)∨∃ c,x.cps[0]? = some c∧c≠48
end Gm
end
section
namespace Gm
open PySem L2
def DD (L:List (List Int)):Prop:=∀ d,Dt L d→∃ c,d∈c∧uq (nx L) c∧(c.map (·.1)).Nodup
def seg (r:List Int) (s m:Nat):List aQ:=(List.range m).map fun t=>dj r (s + t)
end Gm
end
section
namespace Gm
open PySem L2
section
variable {L N:List (List Int)} {r:List Int}
def CO (r:List Int) (n c1 cj:Nat) (d:aQ):Prop:=(∃ i,cj≤i∧i < c1 + r.length∧d = dj r i)∨d = (cy r c1,(n:Int))∨d = ((n:Int),cy r cj)
def DH (L:List (List Int)) (r:List Int) (c1 cj:Nat) (M:List (List Int)):Prop:=∀ d,Dt M d→CO r L.length c1 cj d∨∃ c,d∈c∧uq (nx M) c∧(c.map (·.1)).Nodup
end
end Gm
end
section
namespace Gm
open PySem L2
def tetra:List (List Int):=[[1,3,2],[2,3,0],[0,3,1],[2,0,1]]
def tetraR:List (List aQ):=[[(0,1),(1,3),(3,0)],[(0,3),(3,2),(2,0)],[(0,2),(2,1),(1,0)],[(1,2),(2,3),(3,1)]]
end Gm
end
section
namespace Gm
open PySem L2
abbrev y4:Str:=((" " : String):Str)
abbrev y3:Str:=((":" : String):Str)
abbrev y6:Str:=(("\n" : String):Str)
abbrev t0:Str:=(("" : String):Str)
def uR (k:Int) (l:List Int):Str:=Str.join y4 ((num k ++ y3) :: l.map num)
def rQ (L:List (List Int)):List Str:=L.mapIdx fun i l=>uR ((i:Nat):Int) l
def AA (L:List (List Int)):Str:=Str.join y6 (rQ L)
def CJ (l:List Int):Prop:=l.length≤14∧∀ x∈l,0≤x∧x < 14
structure Sm (L:List (List Int)):Prop where
 len:L.length≤14
 v9:∀ l∈L,CJ l
def mn (l:List Int):Int:=l.min?.getD 0
def lb (l:List Int):List Int:=tM l (l.idxOf (mn l))
end Gm
end
section
namespace L2
open PySem PySem.Spec PySem.W PySem.Calls PyProof.Rows Gm
end L2
end
section
namespace L2
open PySem PySem.Spec PySem.W PySem.Calls PyProof.Rows Gm
def DA (A:List (List Int)) (l:List Int):PyData:=.list [cw A,bF l]
end L2
end
section
namespace L2
open PySem PySem.Spec PySem.W PySem.Calls PyProof.Rows Gm
section
variable {X:Cx}
noncomputable def Dw (H:Hp) (l:List Int):Value→Bool:=fun v=>match v with | .ref b=>@decide (H b = some (.lst (l.map V.int))) (Classical.propDecidable _) | _=>false
def zB (neg:Bool):R2:=fun x y H Q=>∃ (a t:Addr) (bs:List Addr) (R:List (List Int)) (l:List Int),x = .ref a∧y = .ref t∧H a = some (.lst (l.map V.int))∧bq H t bs R∧Q (.bl (if neg then !decide (l∈R) else decide (l∈R))) H
def tS:V→List V→Hp→VK→Prop:=fun x vs H Q=>∃ (a t:Addr) (bs:List Addr) (R:List (List Int)) (l:List Int),x = .ref t∧vs = [.ref a]∧H a = some (.lst (l.map V.int))∧bq H t bs R∧l∈R∧Q (.int (R.idxOf l:Nat)) H
end
end L2
end
section
namespace L2
open PySem PySem.Spec PySem.W PySem.Calls PyProof.Rows HT
def zy (K:Frag):R2:=fun x y H Q=>∃ (a b:Addr) (ns ms:List Int),x = .ref a∧y = .ref b∧aD K H a (ns.map V.int)∧aD K H b (ms.map V.int)∧Q (.bl (!lexLt ms ns)) H
end L2
end
section
namespace Gm
open PySem L2
structure DG (L:List (List Int)):Prop where
 map:iI L
 B1:∃ R S,Dec L R∧pB L S∧2 * (L.length + R.length + iso L) = (ya L L.length).length + 4 * S.length
end Gm
end
section
namespace Gm
open PySem L2
def lp (v:Int) (p:List Int) (j:Nat):Int:=if j = 0 then v else p.getD (j - 1) v
def On (v:Int) (p:List Int) (d:aQ):Prop:=∃ j,j≤p.length∧(d = (lp v p j,lp v p (j + 1))∨d = (lp v p (j + 1),lp v p j))
end Gm
end
section
namespace L2
open PySem PySem.Spec PySem.W PySem.Calls PyProof.Rows Gm
def CB (d:Addr) (o:Obj) (aI:List (Key×V)):It:=
 ⟨fun i H=>H d = some (.fg o (.dK aI))∧i < aI.length,fun i H x H'=>H' = H∧∃ k v,aI[i]? = some (k,v)∧x = kV k,fun i H=>H d = some (.fg o (.dK aI))∧aI.length≤i⟩
section
variable {X:Cx} {tg:Expr}
def xI (tl:TE):TI:=fun σ H R=>tl σ H fun x H1=>∃ a aI,x = .ref a∧H1 a = some (.dK aI)∧∀ o,R (CB a o aI) (upd H1 a (.fg o (.dK aI)))
def uV:List V→Hp→VK→Prop:=fun xs H Q=>∃ a aI,xs = [V.ref a]∧H a = some (.dK aI)∧∀ p,H p = none→Q (.ref p) (upd H p (.lst (aI.map fun kv=>kV kv.1)))
def Cv (K:Frag) (a:Addr) (xs:List V):It:=
 ⟨fun i H=>aD K H a xs∧i < xs.length,fun i H x H'=>H' = H∧xs.reverse[i]? = some x,fun i H=>xs.length≤i⟩
def AW (K:Frag) (tl:TE):TI:=fun σ H R=>tl σ H fun x H1=>∃ a xs,x = .ref a∧aD K H1 a xs∧R (Cv K a xs) H1
end
end L2
end
section
namespace Gm
open PySem L2
def kF (ks:List Int) (f:Int→Int):List (Key×V):=ks.map fun x=>((Sum.inl x:Key),V.int (f x))
def BA (f:Int→Int) (x h:Int):Int→Int:=fun y=>if y = x then h else f y
structure DQ (L:List (List Int)) (ks:List Int) (f:Int→Int):Prop where
 nd:ks.Nodup
 rg:∀ x∈ks,0≤x∧x < L.length
 hu:∀ x∈ks,0≤f x∧f x < 5
 ap:∀ x∈ks,∀ y∈rowOf L x,y∈ks→f y≠f x
def near (L:List (List Int)) (ks:List Int) (v:Int):List Int:=(rowOf L v).filter fun z=>decide (z∈ks)
def x6 (ts:List Int):List Int:=(iN 5).filter fun h=>!decide (h∈ts)
section
variable {L:List (List Int)} {ks:List Int} {f:Int→Int} {v:Int}
structure Cj (L:List (List Int)) (ks:List Int) (f:Int→Int) (a b:Int) (S:List Int):Prop where
 sh:∀ x,x∈S↔(0≤x∧x < L.length)∧¬ (x∈ks∧(f x = a∨f x = b))
def rK (L:List (List Int)) (ks:List Int) (f:Int→Int) (a b:Int):List Int:=(iN L.length).filter fun x=>!decide (x∈ks∧(f x = a∨f x = b))
def DR (L:List (List Int)) (ks:List Int) (f:Int→Int) (one other x:Int):Prop:=oE L (rK L ks f (f one) (f other)) one x
def wR (f:Int→Int) (a b:Int) (G:List Int):Int→Int:=fun y=>if y∈G then a + b - f y else f y
end
structure Off (L:List (List Int)) (os:List Int):Prop where
 nd:os.Nodup
 rg:∀ x∈os,0≤x∧x < L.length
 v9:∀ (i:Nat) (x:Int),os[i]? = some x→((rowOf L x).filter fun z=>!decide (z∈os.take i)).length≤5
end Gm
end
section
namespace Gm
open PySem L2
def B4:List (List Int):=[[1,2,3,4,5],[0,5,10,6,2],[0,1,6,7,3],[0,2,7,8,4],[0,3,8,9,5],[0,4,9,10,1],[1,10,11,7,2],[2,6,11,8,3],[3,7,11,9,4],[4,8,11,10,5],[5,9,11,6,1],[10,9,8,7,6]]
def yp:List (List aQ):=[[(0,1),(1,2),(2,0)],[(0,2),(2,3),(3,0)],[(0,3),(3,4),(4,0)],[(0,4),(4,5),(5,0)],[(0,5),(5,1),(1,0)],[(1,5),(5,10),(10,1)],[(1,10),(10,6),(6,1)],[(1,6),(6,2),(2,1)],[(2,6),(6,7),(7,2)],[(2,7),(7,3),(3,2)],[(3,7),(7,8),(8,3)],[(3,8),(8,4),(4,3)],[(4,8),(8,9),(9,4)],[(4,9),(9,5),(5,4)],[(5,9),(9,10),(10,5)],[(6,10),(10,11),(11,6)],[(6,11),(11,7),(7,6)],[(7,11),(11,8),(8,7)],[(8,11),(11,9),(9,8)],[(9,11),(11,10),(10,9)]]
section
variable {A R:List (List Int)} {l:List Int}
def C4 (l:List Int) (d:aQ):aQ:=(tW l d.1,tW l d.2)
end
end Gm
end
section
namespace L2
open PySem PySem.Spec PySem.W PySem.Calls PyProof.Rows Gm Fr
end L2
namespace Gm
open PySem L2
end Gm
end
section
namespace L2
open PySem PySem.Spec PySem.W PySem.Calls PyProof.Rows Gm
def Cz (d:Addr) (o:Obj) (aI:List (List Key×V)):It:=
 ⟨fun i H=>H d = some (.fg o (.dT aI))∧i < aI.length,fun i H x H'=>H' = H∧∃ k v b,aI[i]? = some (k,v)∧H b = some (.tup (k.map kV))∧x = .ref b,fun i H=>H d = some (.fg o (.dT aI))∧aI.length≤i⟩
section
variable {X:Cx} {tg:Expr}
def vq (tl:TE):TI:=fun σ H R=>tl σ H fun x H1=>∃ a aI,x = .ref a∧H1 a = some (.dT aI)∧∀ o,R (Cz a o aI) (upd H1 a (.fg o (.dT aI)))
end
end L2
end
section
namespace L2
open PySem PySem.Spec PySem.W PySem.Calls PyProof.Rows Gm
section
variable {X:Cx} {pins:List (Addr×Obj)} {σ : St} {H:Hp} {s:Shared} {a:Addr} {A:Around} {E:Value→Shared→Prop}
def uC (tk tv:TE):TE:=fun σ H Q=>∀ p,H p = none→gn [(tk,tv)] σ (upd H p (.dT [])) fun ps H2=>H2 p = some (.dT [])∧∃ (b:Addr) (k:List Key) (y:V),ps = [(.ref b,y)]∧H2 b = some (.tup (k.map kV))∧Q (.ref p) (upd H2 p (.dT [(k,y)]))
end
end L2
namespace L2
open PySem PySem.Spec PySem.W PySem.Calls PyProof.Rows Gm
section
variable {X:Cx} {pins:List (Addr×Obj)} {σ : St} {H:Hp} {s:Shared} {a:Addr} {A:Around} {E:Value→Shared→Prop}
def uD (td ty:TE):TE:=fun σ H Q=>td σ H fun x H1=>∃ a,x = .ref a∧tj H1 a∧ty σ H1 fun y H2=>∃ (aI:List (List Key×V)) (j:Nat) (k:List Key) (v:V) (b:Addr),H2 a = some (.dT aI)∧y = .ref b∧H2 b = some (.tup (k.map kV))∧aI[j]? = some (k,v)∧Q v (upd H2 a (.dT (aI.eraseIdx j)))
def wW (H0:Hp) (t:TS):TS:=fun D σ H=>t { D with nx:=fun σ' H'=>∃ (d:Addr) (o:Obj) (aI:List (List Key×V)),H' d = some (.fg o (.dT aI))∧(∀ o' u',H0 d≠some (.fg o' u'))∧D.nx σ' (upd H' d (.dT aI)) } σ H
end
end L2
end
section
namespace fo
open PySem
def wF (xs:Array Nat):Prop:=∀ i j a b:Nat,xs[i]? = some a→xs[j]? = some b→i < j→a < b
structure Tb (led:Bool) (t:SetTable):Prop where
 rise:wF t.place
 dm:t.dummies = #[]
 ld:t.led = led
end fo
end
section
namespace fo
open PySem PySem.Spec PyProof.Rows
section
variable {prog:Program} {w:World} {A:Around} {E:Value→Shared→Prop} {s:Shared} {led:Bool}
def Ck (prog:Program) (w:World) (led:Bool) (h:Heap) (a:Addr) (S:Int→Bool) (n:Nat):Prop:=
 ∃ o es ep t,h.get? a = some o∧o.ExactSet∧o.data = .set es ep t∧ElemsOf (intKind prog w) es.toList∧(∀ k,S k = true↔∃ e∈es.toList,(intKind prog w).is k e.2 = true)∧es.size < scanBound∧t.fits es.size = true∧es.size = n∧Tb led t
end
end fo
end
section
namespace fo
open PySem PySem.Spec PyProof.Rows
end fo
end
section
namespace fo
open PySem PySem.Spec PyProof.Rows
section
variable {prog:Program} {w:World} {A:Around} {E:Value→Shared→Prop} {s:Shared}
def sf (w:World):Bool:=!w.params.followText "set-order"
def Aw (w:World):Obj:={ cls:=.type "set",dict:=none,data:=.set #[] 0 (.fresh 0 0 (sf w)) }
end
end fo
end
section
namespace fo
open PySem PySem.Spec
end fo
end
section
namespace fo
open PySem PySem.Spec
end fo
end
section
namespace fo
open PySem PySem.Spec PyProof.Rows
section
variable {prog:Program} {w:World} {A:Around} {E:Value→Shared→Prop} {s:Shared} {a:Addr} {o:Obj} {es:Array (Int×Value)} {ep:Nat} {t:SetTable}
def At (t:SetTable) (i slot:Nat):Prop:=(i = 0∧slot = 0)∨∃ k j,i = k + 1∧t.place[k]? = some j∧slot = j + 1
end
end fo
end
section
namespace fo
open PySem PySem.Spec PyProof.Rows PySem.Calls
def CC (h:Heap) (ik a:Addr) (first:Value) (i size ep:Nat):Prop:=∃ oi,h.get? ik = some oi∧oi.cls = .type "set_iterator"∧oi.data = .fields #[first,.int i 0,.ref a,.int size 0,.int ep 0]
end fo
end
section
namespace fo
open PySem PySem.Spec PyProof.Rows PySem.Calls
end fo
end
section
namespace fo
open PySem PySem.Spec PyProof.Rows PySem.Calls
end fo
end
section
namespace fo
open PySem PySem.Spec PyProof.Rows PySem.Calls
def vInt:Value→Int
 | .int k _=>k
 | _=>0
section
variable {prog:Program} {w:World} {A:Around} {E:Value→Shared→Prop} {s:Shared} {a:Addr}
def Met (S:Int→Bool) (n:Nat) (vs:List Value):Prop:=∃ ns:List Int,IntsAre vs ns∧ns.length = n∧∀ k,S k = true↔k∈ns
end
end fo
end
section
namespace fo
open PySem PySem.Spec PyProof.Rows PySem.Calls
end fo
namespace L2
open PySem PySem.Spec PySem.W PySem.Calls PyProof.Rows
def rh (K:Frag) (te:TE):TE:=fun σ H Q=>te σ H fun x H1=>∃ (a:Addr) (ns:List Int),x = .ref a∧aD K H1 a (ns.map V.int)∧ns.length < 64∧
 ∀ (p8:List Int) (p:Addr),p8.Perm (d8 ns)→p8.Pairwise (·≤·)→H1 p = none→Q (.ref p) (upd H1 p (.lst (p8.map V.int)))
end L2
end
section
namespace Gm
open PySem L2
def rZ (L:List (List Int)) (r:List Int) (c:Nat):List Int:=put (rowOf L (cy r c)) ((rowOf L (cy r c)).idxOf (cy r (c + (r.length - 1)))) L.length
def rY (L:List (List Int)) (r:List Int) (cs:List Nat):List (List Int):=cs.foldl (fun M c=>M.set (cy r c).toNat (rZ L r c)) L
def zU (L:List (List Int)) (r:List Int) (cs:List Nat):List (List Int):=rY L r cs ++ [cs.map (cy r)]
def Cn (r:List Int) (cs:List Nat):Prop:=cs≠[]∧cs.Pairwise (· < ·)∧(cs.map (cy r)).Nodup
end Gm
end
section
namespace L2
open PySem
theorem lE {t:TT} {ta tb:TS} {D:Ends} {σ : St} {H:Hp} (Y N:Hp→Prop) (hy:∀ H',Y H'→ta D σ H') (hn:∀ H',N H'→tb D σ H')
  (h:∀ R:Bool→Hp→Prop,(∀ H',Y H'→R true H')→(∀ H',N H'→R false H')→t σ H R):pI t ta tb D σ H:=
 jx (h _ (fun H' y=>sm (hy H' y)) fun H' y=>t8 (hn H' y))
end L2
namespace Gm
open PySem L2
def Ay (cs:List Nat):List Int:=cs.map fun c:Nat=>(c:Int)
end Gm
end
section
namespace Gm
open PySem L2
def du (L:List (List Int)) (i:Nat):Prop:=¬ ((L.getD i []).Nodup∧∀ x∈L.getD i [],x≠(i:Int)∧0≤x∧x < L.length∧(i:Int)∈rowOf L x)
structure eh (L:List (List Int)) (i:Nat):Prop where
 lt:i < L.length
 wr:du L i
 no:∀ j,j < i→¬ du L j
theorem eh.uniq {L:List (List Int)} {i j:Nat} (a:eh L i) (b:eh L j):i = j:=by
 rcases Nat.lt_trichotomy i j with h | h | h
 ·exact absurd a.wr (b.no i h)
 ·exact h
 ·exact absurd b.wr (a.no j h)
theorem getD_at {L:List (List Int)} {i:Nat} {l:List Int} (h:L[i]? = some l):L.getD i [] = l:=by rw [List.getD_eq_getElem?_getD,h]; rfl
theorem hJ {L:List (List Int)} {k m:Nat} {l:List Int} (h:∀ r∈L,r.length≤m) (hl:l.length≤m):∀ r∈L.set k l,r.length≤m:=fun r hr=>by
 rcases List.mem_or_eq_of_mem_set hr with z | z
 ·exact h r z
 ·rw [z]; exact hl
theorem jB (l:List Int) (k:Nat) (y:Int):(put l k y).length = l.length + 1:=by rw [(eV l k y).length_eq]; rfl
end Gm
end
section
namespace qP
open PySem L2 Fr Gm
local macro_rules | `(tactic| walk_at "rd1")=>`(tactic| first
 | with_reducible refine r_seq ?_ | with_reducible refine r_asg ?_ | with_reducible refine r_gname ?_ | with_reducible refine r_op ?_ | with_reducible refine r_c ?_
 | ((with_reducible refine' r_var ?hv ?_); case' hv=>exact rfl)
 | with_reducible refine lu ?_ | with_reducible refine pO ?_ | with_reducible refine pP ?_ | with_reducible refine lH ?_ | with_reducible refine lz ?_
 | with_reducible refine lr ?_ | with_reducible refine lq ?_ | with_reducible refine iV ?_ | with_reducible refine jx ?_ | with_reducible refine iS ?_ | with_reducible refine uT ?_ | with_reducible refine pU ?_
 | with_reducible refine ly ?_ | with_reducible refine lK ?_ | with_reducible refine pQ ?_ | with_reducible refine iW ?_ | with_reducible refine oT ?_ | with_reducible refine iT ?_ | with_reducible refine oV ?_
 | with_reducible refine hX ?_ | with_reducible refine d5 ?_ | with_reducible refine gw ?_ | with_reducible refine pS ?_ | with_reducible refine lj ?_ | with_reducible refine lB ?_ | with_reducible refine iU ?_
 | with_reducible refine jy ?_ | with_reducible refine lG ?_ | with_reducible refine oS ?_ | with_reducible refine sm ?_ | with_reducible refine t8 ?_ | with_reducible refine qr ?_ | with_reducible refine sq ?_
 | ((with_reducible refine nB ?hc ?_); case' hc=>walk_at "side")
 | ((with_reducible refine' oU ?hp ?hi ?_); (case' hp=>walk_at "seq"); (case' hi=>exact rfl))
 | ((with_reducible refine' bJ ?hp ?hi ?_); (case' hp=>walk_at "seq"); (case' hi=>exact rfl))
 | ((with_reducible refine' lF ?hp ?hi ?_); (case' hp=>walk_at "seq"); (case' hi=>exact rfl))
 | ((with_reducible refine And.intro ?hl ?_); case' hl=>(first | exact oQ | exact rJ))
 | with_reducible refine pT ?_ | with_reducible refine oX ?_ | with_reducible refine gv ?_ | with_reducible refine lC ?_ | with_reducible refine lx ?_ | with_reducible refine jv ?_ | with_reducible refine gx ?_ | with_reducible refine iR ?_ | with_reducible refine lA ?_ | with_reducible refine eU ?_ | with_reducible refine lh ?_ | with_reducible refine gu ?_ | with_reducible refine hZ ?_ | with_reducible refine oW ?_ | with_reducible refine lI ?_
 | dsimp only)
local macro_rules | `(tactic| walk_at "rd")=>`(tactic| repeat walk_at "rd1")
local macro_rules | `(tactic| walk_at "blk_vis")=>`(tactic| first | exact Or.inl rfl | exact Or.inr (Or.inl rfl) | exact Or.inr (Or.inr rfl))
local macro_rules | `(tactic| walk_at "blk_ok")=>`(tactic| exact ⟨rfl,by decide +kernel,by decide +kernel,rfl,by (first | exact trivial | exact ⟨rfl,trivial⟩ | exact ⟨rfl,rfl,trivial⟩ | exact ⟨rfl,rfl,rfl,trivial⟩ | exact ⟨rfl,rfl,rfl,rfl,trivial⟩ | exact ⟨rfl,rfl,rfl,rfl,rfl,trivial⟩),rfl,
 by (first | exact ak | exact ae ⟨rfl,by walk_at "blk_vis",rfl,rfl⟩ ak | exact ae ⟨rfl,by walk_at "blk_vis",rfl,rfl⟩ (ae ⟨rfl,by walk_at "blk_vis",rfl,rfl⟩ ak) | exact ae ⟨rfl,by walk_at "blk_vis",rfl,rfl⟩ (ae ⟨rfl,by walk_at "blk_vis",rfl,rfl⟩ (ae ⟨rfl,by walk_at "blk_vis",rfl,rfl⟩ ak)) | exact ae ⟨rfl,by walk_at "blk_vis",rfl,rfl⟩ (ae ⟨rfl,by walk_at "blk_vis",rfl,rfl⟩ (ae ⟨rfl,by walk_at "blk_vis",rfl,rfl⟩ (ae ⟨rfl,by walk_at "blk_vis",rfl,rfl⟩ ak)))),
 by (first | exact ae rfl (ae rfl (ae rfl (ae rfl ak))) | exact ak | exact ae rfl ak | exact ae rfl (ae rfl ak) | exact ae rfl (ae rfl (ae rfl ak)))⟩)
local macro_rules | `(tactic| walk_at "blk_ok1")=>`(tactic| exact ⟨rfl,fun _=>rfl,fun _=>rfl,by decide +kernel,rfl,by (first | exact trivial | exact ⟨rfl,trivial⟩ | exact ⟨rfl,rfl,trivial⟩ | exact ⟨rfl,rfl,rfl,trivial⟩ | exact ⟨rfl,rfl,rfl,rfl,trivial⟩),rfl,
 by (first | exact ak | exact ae ⟨rfl,by walk_at "blk_vis",⟨rfl,rfl⟩,rfl⟩ ak | exact ae ⟨rfl,by walk_at "blk_vis",⟨rfl,rfl⟩,rfl⟩ (ae ⟨rfl,by walk_at "blk_vis",⟨rfl,rfl⟩,rfl⟩ ak) | exact ae ⟨rfl,by walk_at "blk_vis",⟨rfl,rfl⟩,rfl⟩ (ae ⟨rfl,by walk_at "blk_vis",⟨rfl,rfl⟩,rfl⟩ (ae ⟨rfl,by walk_at "blk_vis",⟨rfl,rfl⟩,rfl⟩ ak))),
 by (first | exact ak | exact ae rfl ak | exact ae rfl (ae rfl ak) | exact ae rfl (ae rfl (ae rfl ak)))⟩)
local macro_rules | `(tactic| walk_at "side")=>`(tactic| first | assumption | exact (show (0:Int) < _ by decide) | exact gP (by decide) (by decide) | exact gQ (by decide) (by decide) | exact mulL (by decide) (by decide))
local macro_rules | `(tactic| walk_at "seq")=>`(tactic| first | assumption | exact SqT.of (by assumption))
def top (i:Nat):Stmt:=PySem.Challenge.pw_standup_k11_what_is_no_map.main.body.getD i (.Pass ⟨0,0,0,0⟩)
abbrev bx:Stmt:=top 18
abbrev bS:Stmt:=top 19
abbrev aG:Stmt:=top 21
abbrev aT:Stmt:=top 22
abbrev aV:Stmt:=top 23
abbrev aU:Stmt:=top 24
abbrev bA:Stmt:=top 25
abbrev aE:Stmt:=top 26
abbrev aF:Stmt:=top 27
abbrev bz:Stmt:=top 28
abbrev aN:Stmt:=top 29
abbrev dD:Stmt:=top 30
abbrev bh:Stmt:=sk (top 14) 0
structure yE where
 cT:Addr
 bU:Addr
 er:Addr
 gm:Addr
 di:Addr
 cm:Addr
 cS:Addr
 cn:Addr
 df:Addr
 Flat:Addr
 b5:Addr
 eg:Addr
 ef:Addr
 bD:Addr
 dh:Addr
 ec:Addr
structure Txt (K:PySem.W.Frag) (mg:Str→Option Value) (Z:yE):Prop where
 len:mg "len" = none
 isinstance:mg "isinstance" = none
 int:mg "int" = none
 bool:mg "bool" = none
 range:mg "range" = none
 min:mg "min" = none
 set:mg "set" = none
 list:mg "list" = none
 ValueError:mg "ValueError" = none
 fm:mg "MapError" = some (.ref Z.cT)
 jj:mg "NoNumber" = some (.ref Z.bU)
 ot:mg "NoOne" = some (.ref Z.er)
 oq:mg "NoTie" = some (.ref Z.gm)
 kx:mg "NoOther" = some (.ref Z.di)
 ky:mg "NoNames" = some (.ref Z.cm)
 mX:mg "NoLand" = some (.ref Z.cS)
 kz:mg "NoFrame" = some (.ref Z.cn)
 kr:mg "NoThree" = some (.ref Z.df)
 qK:mg "Flat" = some (.ref Z.Flat)
 iC:mg "NotInside" = some (.ref Z.b5)
 mW:mg "NoStep" = some (.ref Z.eg)
 mV:mg "NoText" = some (.ref Z.ef)
 gS:mg "NoMap" = some (.ref Z.bD)
 ku:mg "NoSheet" = some (.ref Z.dh)
 mU:mg "Parted" = some (.ref Z.ec)
 cz:cK K Z.bD
 m1:PySem.W.exmOne K (.ref Z.bD) (.ref Z.cT) = some true
 m2:PySem.W.kitOne K (.ref Z.bD) (.ref Z.bD) = some true
 m3:PySem.W.kitAny K (.ref Z.bD) [.ref Z.Flat,.ref Z.cn,.ref Z.cS,.ref Z.cm,.ref Z.bU,.ref Z.er] = some false
 m4:PySem.W.kitAny K (.ref Z.bD) [.ref Z.di,.ref Z.dh,.ref Z.df,.ref Z.gm,.ref Z.b5,.ref Z.ec,.ref Z.eg,.ref Z.ef] = some false
 m5:PySem.W.kitOne K (.ref Z.bD) (.type "ValueError") = some true
 n3:PySem.W.kitAny K (.type "NoneType") [.ref Z.Flat,.ref Z.cn,.ref Z.cS,.ref Z.cm,.ref Z.bU,.ref Z.er] = some false
 n4:PySem.W.kitAny K (.type "NoneType") [.ref Z.di,.ref Z.dh,.ref Z.df,.ref Z.gm,.ref Z.b5,.ref Z.ec,.ref Z.eg,.ref Z.ef] = some false
 gO:PySem.W.hasDictIn K Z.bD = true
 gT:PySem.W.findIn K (.ref Z.bD) "place" = some none
def ju (K:PySem.W.Frag):Sp:=fun vs H Q _=>∃ (a:Addr) (ns:List Int) (k:Int),vs = [.ref a,.int k]∧aD K H a (ns.map V.int)∧0≤k∧∀ n,Q (.int n) H
def hB:Sp:=fun vs H Q _=>∃ n:Int,vs = [.int n]∧Q (.bl true) H
def cL (K:PySem.W.Frag):Sp:=fun vs H Q _=>∃ (a:Addr) (ns:List Int) (k:Int),vs = [.ref a,.int k]∧aD K H a (ns.map V.int)∧0≤k∧k≤100000∧∀ n,0≤n→n < 2147483587→Q (.int n) H
def kU (K:PySem.W.Frag):Sp:=fun vs H Q _=>∃ (a:Addr) (ns:List Int) (st n:Int),vs = [.ref a,.int st,.int n]∧aD K H a (ns.map V.int)∧0≤st∧st≤1000∧0≤n∧n≤60∧
 ∀ p as L H',av H H'→bq H' p as L→(p :: as).Nodup→(∀ b∈p :: as,H b = none)→(L.length:Int) = n→iI L→Q (.ref p) H'
def g9:Sp:=fun vs H Q _=>∃ (p:Addr) (as:List Addr) (L:List (List Int)) (k:Nat),vs = [.ref p,.int (k:Int)]∧bq H p as L∧k < L.length∧L.length≤60∧(∀ r∈L,r.length≤500)∧∀ H' b,av H H'→(b = true↔du L k)→Q (.bl b) H'
def d3 (N:Addr):Sp:=fun vs H Q E=>∃ (p:Addr) (as:List Addr) (L:List (List Int)),vs = [.ref p]∧bq H p as L∧L.length≤60∧(∀ r∈L,r.length≤500)∧((∀ i,i < L.length→¬ du L i)→∀ H',av H H'→Q .bp H')∧
 (∀ i d H',eh L i→av H H'→H d = none→H' d = some (.xd [("place",.int (i:Int))])→E (.ref N) (some d) H')
def kT:Sp:=fun vs H Q _=>∃ (p:Addr) (as:List Addr) (L:List (List Int)),vs = [.ref p]∧bq H p as L∧L.length≤60∧(∀ r∈L,r.length≤500)∧((∀ i,i < L.length→¬ du L i)→∀ H',av H H'→Q .bp H')∧
 (∀ i H',eh L i→av H H'→Q (.int (i:Int)) H')
def fQ (N:Addr):Sp:=fun vs H Q _=>∃ (p:Addr) (as:List Addr) (L:List (List Int)),vs = [.ref p]∧bq H p as L∧L.length≤60∧(∀ r∈L,r.length≤500)∧((∀ i,i < L.length→¬ du L i)→∀ H',av H H'→Q .bp H')∧
 (∀ i a d H',eh L i→av H H'→H' a = some (dP N (some d) a)→H' d = some (.xd [("place",.int (i:Int))])→Q (.ref a) H')
def eR (N:Addr):Sp:=fun vs H Q _=>(∃ a d,vs = [.ref a]∧H a = some (dP N (some d) a)∧∀ H',av H H'→Q (.bl false) H')∨(vs = [.bp]∧∀ H',av H H'→Q (.bl false) H')
def eS:Sp:=fun vs H Q _=>∃ (p:Addr) (as:List Addr) (L:List (List Int)) (n fZ:Int) (m:Nat),vs = [.ref p,.int n,.int fZ]∧bq H p as L∧(p :: as).Nodup∧0 < L.length∧L.length≤60∧(∀ r∈L,r.length≤m)∧m≤400∧0≤n∧
 ∀ H' L',(∀ b o,b∉as→H b = some o→H' b = some o)→bq H' p as L'→L'.length = L.length→(∀ r∈L',r.length≤m + 6)→Q .bp H'
def gs (K:PySem.W.Frag):Sp:=fun vs H Q _=>∃ (a:Addr) (ns:List Int),vs = [.ref a]∧aD K H a (ns.map V.int)∧ns.length≤63∧∀ H',Q (.bl true) H'
end qP
end
section
namespace qP
open PySem L2 Fr Gm
local macro_rules | `(tactic| walk_at "rd1")=>`(tactic| first
 | with_reducible refine r_seq ?_ | with_reducible refine r_asg ?_ | with_reducible refine r_gname ?_ | with_reducible refine r_op ?_ | with_reducible refine r_c ?_
 | ((with_reducible refine' r_var ?hv ?_); case' hv=>exact rfl)
 | with_reducible refine lu ?_ | with_reducible refine pO ?_ | with_reducible refine pP ?_ | with_reducible refine lH ?_ | with_reducible refine lz ?_
 | with_reducible refine lr ?_ | with_reducible refine lq ?_ | with_reducible refine iV ?_ | with_reducible refine jx ?_ | with_reducible refine iS ?_ | with_reducible refine uT ?_ | with_reducible refine pU ?_
 | with_reducible refine ly ?_ | with_reducible refine lK ?_ | with_reducible refine pQ ?_ | with_reducible refine iW ?_ | with_reducible refine oT ?_ | with_reducible refine iT ?_ | with_reducible refine oV ?_
 | with_reducible refine hX ?_ | with_reducible refine d5 ?_ | with_reducible refine gw ?_ | with_reducible refine pS ?_ | with_reducible refine lj ?_ | with_reducible refine lB ?_ | with_reducible refine iU ?_
 | with_reducible refine jy ?_ | with_reducible refine lG ?_ | with_reducible refine oS ?_ | with_reducible refine sm ?_ | with_reducible refine t8 ?_ | with_reducible refine qr ?_ | with_reducible refine sq ?_
 | ((with_reducible refine nB ?hc ?_); case' hc=>walk_at "side")
 | ((with_reducible refine' oU ?hp ?hi ?_); (case' hp=>walk_at "seq"); (case' hi=>exact rfl))
 | ((with_reducible refine' bJ ?hp ?hi ?_); (case' hp=>walk_at "seq"); (case' hi=>exact rfl))
 | ((with_reducible refine' lF ?hp ?hi ?_); (case' hp=>walk_at "seq"); (case' hi=>exact rfl))
 | ((with_reducible refine And.intro ?hl ?_); case' hl=>(first | exact oQ | exact rJ))
 | with_reducible refine pT ?_ | with_reducible refine oX ?_ | with_reducible refine gv ?_ | with_reducible refine lC ?_ | with_reducible refine lx ?_ | with_reducible refine jv ?_ | with_reducible refine gx ?_ | with_reducible refine iR ?_ | with_reducible refine lA ?_ | with_reducible refine eU ?_ | with_reducible refine lh ?_ | with_reducible refine gu ?_ | with_reducible refine hZ ?_ | with_reducible refine oW ?_ | with_reducible refine lI ?_
 | dsimp only)
local macro_rules | `(tactic| walk_at "rd")=>`(tactic| repeat walk_at "rd1")
local macro_rules | `(tactic| walk_at "blk_vis")=>`(tactic| first | exact Or.inl rfl | exact Or.inr (Or.inl rfl) | exact Or.inr (Or.inr rfl))
local macro_rules | `(tactic| walk_at "blk_ok")=>`(tactic| exact ⟨rfl,by decide +kernel,by decide +kernel,rfl,by (first | exact trivial | exact ⟨rfl,trivial⟩ | exact ⟨rfl,rfl,trivial⟩ | exact ⟨rfl,rfl,rfl,trivial⟩ | exact ⟨rfl,rfl,rfl,rfl,trivial⟩ | exact ⟨rfl,rfl,rfl,rfl,rfl,trivial⟩),rfl,
 by (first | exact ak | exact ae ⟨rfl,by walk_at "blk_vis",rfl,rfl⟩ ak | exact ae ⟨rfl,by walk_at "blk_vis",rfl,rfl⟩ (ae ⟨rfl,by walk_at "blk_vis",rfl,rfl⟩ ak) | exact ae ⟨rfl,by walk_at "blk_vis",rfl,rfl⟩ (ae ⟨rfl,by walk_at "blk_vis",rfl,rfl⟩ (ae ⟨rfl,by walk_at "blk_vis",rfl,rfl⟩ ak)) | exact ae ⟨rfl,by walk_at "blk_vis",rfl,rfl⟩ (ae ⟨rfl,by walk_at "blk_vis",rfl,rfl⟩ (ae ⟨rfl,by walk_at "blk_vis",rfl,rfl⟩ (ae ⟨rfl,by walk_at "blk_vis",rfl,rfl⟩ ak)))),
 by (first | exact ae rfl (ae rfl (ae rfl (ae rfl ak))) | exact ak | exact ae rfl ak | exact ae rfl (ae rfl ak) | exact ae rfl (ae rfl (ae rfl ak)))⟩)
local macro_rules | `(tactic| walk_at "blk_ok1")=>`(tactic| exact ⟨rfl,fun _=>rfl,fun _=>rfl,by decide +kernel,rfl,by (first | exact trivial | exact ⟨rfl,trivial⟩ | exact ⟨rfl,rfl,trivial⟩ | exact ⟨rfl,rfl,rfl,trivial⟩ | exact ⟨rfl,rfl,rfl,rfl,trivial⟩),rfl,
 by (first | exact ak | exact ae ⟨rfl,by walk_at "blk_vis",⟨rfl,rfl⟩,rfl⟩ ak | exact ae ⟨rfl,by walk_at "blk_vis",⟨rfl,rfl⟩,rfl⟩ (ae ⟨rfl,by walk_at "blk_vis",⟨rfl,rfl⟩,rfl⟩ ak) | exact ae ⟨rfl,by walk_at "blk_vis",⟨rfl,rfl⟩,rfl⟩ (ae ⟨rfl,by walk_at "blk_vis",⟨rfl,rfl⟩,rfl⟩ (ae ⟨rfl,by walk_at "blk_vis",⟨rfl,rfl⟩,rfl⟩ ak))),
 by (first | exact ak | exact ae rfl ak | exact ae rfl (ae rfl ak) | exact ae rfl (ae rfl (ae rfl ak)))⟩)
local macro_rules | `(tactic| walk_at "side")=>`(tactic| first | assumption | exact (show (0:Int) < _ by decide) | exact gP (by decide) (by decide) | exact gQ (by decide) (by decide) | exact mulL (by decide) (by decide))
local macro_rules | `(tactic| walk_at "seq")=>`(tactic| first | assumption | exact SqT.of (by assumption))
section
variable {P:Program} {w:World} {K:PySem.W.Frag} {mg:Str→Option Value} {base:Heap} {Z:yE}
theorem eA:aM ["_law_script", "_law_k"] ["_law_script", "_law_k"] (ai aG):=⟨rfl,rfl,rfl,by decide +kernel,rfl,by decide +kernel,by decide +kernel⟩
theorem eD (D:Def K mg "_law_cell_at" aG ["_law_script", "_law_k"]) (T:Txt K mg Z):dX P w K mg base (b6 P w) "_law_cell_at" 1 ["_law_script", "_law_k"] (ju K):=by
 refine D.fG eA (fun vs H Q E h=>?_) (fun f bV A outer s H vs Q E hr h=>?_)
 ·obtain ⟨a,ns,k,rfl,_⟩:=h; rfl
 ·obtain ⟨a,ns,k,rfl,hS,hk,q⟩:=h
  refine ⟨_,(ah (bC (ax h8 (pv 1) (au aA (by rfl) T.len aZ (aa (pv 0) ag)) (aL _)) (aj (aY (bY bb (pv 0) (pv 1) (fun _ _=>rfl)))) aB)
   (aj (aY af))),?_⟩
  dsimp only [d9]
  walk_at "rd"
  refine ⟨_,_,rfl,.inl ⟨_,hS,rfl⟩,?_⟩
  walk_at "rd"
  refine if2 (fun dq=>?_) (fun dq=>?_)
  ·walk_at "rd"
   obtain ⟨j,rfl⟩:=Int.eq_ofNat_of_zero_le hk
   have hj:j < ns.length:=by rw [List.length_map] at dq; omega
   refine bJ hS (de (j:=j) (v:=V.int ns[j]) (by simp [hj])) ?_
   exact q _
  ·walk_at "rd"
   exact q _
theorem fv:aM ["_law_found"] ["_law_found"] (ai aT):=⟨rfl,rfl,rfl,by decide +kernel,rfl,by decide +kernel,by decide +kernel⟩
theorem fB (D:Def K mg "_law_whole" aT ["_law_found"]) (T:Txt K mg Z):dX P w K mg base (b6 P w) "_law_whole" 1 ["_law_found"] hB:=by
 refine D.fG fv (fun vs H Q E h=>?_) (fun f bV A outer s H vs Q E hr h=>?_)
 ·obtain ⟨n,rfl,_⟩:=h; rfl
 ·obtain ⟨n,rfl,q⟩:=h
  refine ⟨_,(aj (aY (gB (au gg (by rfl) T.isinstance bw (aa (pv 0) (aa (gA (v:=.ty "int") rfl T.int qM rfl) ag))) (iY (p0 (au gg (by rfl) T.isinstance bw (aa (pv 0) (aa (gA (v:=.ty "bool") rfl T.bool ow rfl) ag)))))))),?_⟩
  try dsimp only [d9]
  walk_at "rd"
  refine lD (.int n) (.ty _) nK ?_
  walk_at "rd"
  refine lD (.int n) (.ty _) qg ?_
  walk_at "rd"
  exact q
theorem bE:aM ["_law_script", "_law_k", "_law_cell", "_law_j"] ["_law_script", "_law_k"] (ai aV):=⟨rfl,rfl,rfl,by decide +kernel,rfl,by decide +kernel,by decide +kernel⟩
theorem fE (D:Def K mg "_law_block" aV ["_law_script", "_law_k"]) (T:Txt K mg Z):dX P w K mg base (b6 P w) "_law_block" 1 ["_law_script", "_law_k"] (cL K):=by
 refine D.fG bE (fun vs H Q E h=>?_) (fun f bV A outer s H vs Q E hr h=>?_)
 ·obtain ⟨a,ns,k,rfl,_⟩:=h; rfl
 ·obtain ⟨a,ns,k,rfl,hS,xS,xR,q⟩:=h
  refine ⟨_,(ah (aX (i:=2) bE.nd rfl (by first | exact Or.inl rfl | exact Or.inr rfl) af)
   (ah (bC (ax h8 (aq bB af (aq aK (aq bK (pv 1) af) af)) (au aA (by rfl) T.len aZ (aa (pv 0) ag)) (aL _)) (aj (aX (i:=2) bE.nd rfl (by first | exact Or.inl rfl | exact Or.inr rfl) (aq bK (bY bb (pv 0) (aq bB af (aq aK (aq bK (pv 1) af) af)) (fun _ _=>rfl)) (eK (v:=10000000000000000000000000000000000000000000000000000000000000000) gC af af ⟨by decide,by decide,by decide⟩ (by decide +kernel))))) aB)
   (ah (cN PassesOwn.never rfl (bN rfl T.range (aa (aq aK (pv 1) af) ag)) (bR (i:=3) bE.nd rfl (by first | exact Or.inl rfl | exact Or.inr rfl))
   (aj (aX (i:=2) bE.nd rfl (by first | exact Or.inl rfl | exact Or.inr rfl) (aq bK (pv 2) af))))
   (aj (aY (aq aK (pv 2) af)))))),?_⟩
  dsimp only [d9]
  walk_at "rd"
  refine ⟨_,_,rfl,.inl ⟨_,hS,rfl⟩,?_⟩
  walk_at "rd"
  refine if2 (fun dq=>?_) (fun dq=>?_)
  ·walk_at "rd"
   rw [List.length_map] at dq
   obtain ⟨n0,sC⟩:=gD (ns:=ns) (k:=1 + k / 8 % 62) (by omega) dq
   refine bJ hS sC ?_
   walk_at "rd"
   refine dF ?_
   refine ⟨_,rfl,_,_,rfl,rfl,(show (0:Int) < 8 by decide),k % 8,rfl,by omega,by omega,bP (fun i σ H1=>∃ (c:Int) (v:Option V),σ = [some (.ref a),some (.int k),some (.int c),v]∧H1 = H) ⟨_,_,rfl,rfl⟩ ?_ ?_⟩
   ·rintro i σ H1 hi ⟨c,v,rfl,rfl⟩
    walk_at "rd"
    exact ⟨_,_,rfl,rfl⟩
   ·rintro σ H1 ⟨c,v,rfl,rfl⟩
    walk_at "rd"
    exact q _ (Int.emod_nonneg _ (by decide)) (Int.emod_lt_of_pos _ (by decide))
  ·walk_at "rd"
   refine dF ?_
   refine ⟨_,rfl,_,_,rfl,rfl,(show (0:Int) < 8 by decide),k % 8,rfl,by omega,by omega,bP (fun i σ H1=>∃ (c:Int) (v:Option V),σ = [some (.ref a),some (.int k),some (.int c),v]∧H1 = H) ⟨_,_,rfl,rfl⟩ ?_ ?_⟩
   ·rintro i σ H1 hi ⟨c,v,rfl,rfl⟩
    walk_at "rd"
    exact ⟨_,_,rfl,rfl⟩
   ·rintro σ H1 ⟨c,v,rfl,rfl⟩
    walk_at "rd"
    exact q _ (Int.emod_nonneg _ (by decide)) (Int.emod_lt_of_pos _ (by decide))
theorem bu:aM ["_law_script", "_law_k", "_law_cell", "_law_number"] ["_law_script", "_law_k"] (ai aU):=⟨rfl,rfl,rfl,by decide +kernel,rfl,by decide +kernel,by decide +kernel⟩
theorem fD (D:Def K mg "_law_mixed" aU ["_law_script", "_law_k"]) (T:Txt K mg Z) (gM:dX P w K mg base (b6 P w) "_law_block" 1 ["_law_script", "_law_k"] (cL K)):dX P w K mg base (b6 P w) "_law_mixed" 2 ["_law_script", "_law_k"] (cL K):=by
 refine D.fG bu (fun vs H Q E h=>?_) (fun f bV A outer s H vs Q E hr h=>?_)
 ·obtain ⟨a,ns,k,rfl,_⟩:=h; rfl
 ·obtain ⟨a,ns,k,rfl,hS,xS,xR,q⟩:=h
  refine ⟨_,(ah (aX (i:=2) bu.nd rfl (by first | exact Or.inl rfl | exact Or.inr rfl) af)
   (ah (bC (ax o8 (au aA (by rfl) T.len aZ (aa (pv 0) ag)) af (aL _)) (aj (aX (i:=2) bu.nd rfl (by first | exact Or.inl rfl | exact Or.inr rfl) (bY bb (pv 0) af (fun _ _=>rfl)))) aB)
   (ah (bC (ax dk (aq aK (aq bK (pv 2) (eK (v:=1000000) gC af af ⟨by decide,by decide,by decide⟩ (by decide +kernel))) af) af (aL _)) (aj (aY (aP gM hr bT (aa (pv 0) (aa (pv 1) ag))))) aB)
   (ah (bC (ax o8 (au aA (by rfl) T.len aZ (aa (pv 0) ag)) af (aL _)) (aj (aX (i:=2) bu.nd rfl (by first | exact Or.inl rfl | exact Or.inr rfl) (bY bb (pv 0) (aq aK (pv 1) (au (ko rfl) (by rfl) T.min qL (aa af (aa (au aA (by rfl) T.len aZ (aa (pv 0) ag)) ag)))) (fun _ _=>rfl)))) aB)
   (ah (aX (i:=3) bu.nd rfl (by first | exact Or.inl rfl | exact Or.inr rfl) (aq bB (aq aK (pv 2) (eK (v:=1000000000000000000) gC af af ⟨by decide,by decide,by decide⟩ (by decide +kernel))) (aq dH af (aq bB (pv 1) af))))
   (ah (aX (i:=3) bu.nd rfl (by first | exact Or.inl rfl | exact Or.inr rfl) (aq bB (aq aK (aq dH (pv 3) (pv 3)) af) (aq dH af (pv 1))))
   (aj (aY (aq aK (aq dH (pv 3) (pv 3)) af))))))))),?_⟩
  dsimp only [d9]
  walk_at "rd"
  refine ⟨_,_,rfl,.inl ⟨_,hS,rfl⟩,?_⟩
  walk_at "rd"
  refine if2 (fun ip=>?_) (fun ip=>?_)
  ·walk_at "rd"
   rw [List.length_map] at ip
   obtain ⟨n0,sC⟩:=gD (ns:=ns) (k:=0) (by omega) ip
   refine bJ hS sC ?_
   walk_at "rd"
   refine if2 (fun _=>?_) (fun _=>?_)
   ·walk_at "rd"
    exact ⟨a,ns,k,rfl,hS,xS,xR,q⟩
   ·walk_at "rd"
    refine ⟨_,_,rfl,.inl ⟨_,hS,rfl⟩,?_⟩
    walk_at "rd"
    rw [List.length_map]
    refine if2 (fun _=>?_) (fun h=>absurd ip h)
    walk_at "rd"
    refine ⟨_,_,rfl,.inl ⟨_,hS,rfl⟩,?_⟩
    walk_at "rd"
    rw [List.length_map]
    refine ⟨_,_,rfl,?_⟩
    have mp:0 < (if (ns.length:Int) < 63 then (ns.length:Int) else 63):=by split <;> omega
    have ml:(if (ns.length:Int) < 63 then (ns.length:Int) else 63)≤ns.length:=by split <;> omega
    generalize (if (ns.length:Int) < 63 then (ns.length:Int) else 63) = mm at mp ml ⊢
    walk_at "rd"
    have i0:=Int.emod_nonneg k (show mm≠0 by omega)
    have i1:=Int.emod_lt_of_pos k mp
    obtain ⟨n1,xP⟩:=gD (ns:=ns) (k:=k % mm) i0 (by omega)
    refine bJ hS xP ?_
    walk_at "rd"
    generalize n1 = cc
    have c0:=Int.emod_nonneg cc (show (1000000000000000000:Int)≠0 by decide)
    have c1:=Int.emod_lt_of_pos cc (show (0:Int) < 1000000000000000000 by decide)
    generalize cc % 1000000000000000000 = r at c0 c1 ⊢
    have hm:IntMulOk (r + 48271 * (k + 1)) (r + 48271 * (k + 1)):=mulL (by omega) (by omega)
    walk_at "rd"
    generalize (r + 48271 * (k + 1)) * (r + 48271 * (k + 1)) = zz
    have z0:=Int.emod_nonneg zz (show (2147483629:Int)≠0 by decide)
    have z1:=Int.emod_lt_of_pos zz (show (0:Int) < 2147483629 by decide)
    generalize zz % 2147483629 = r2 at z0 z1 ⊢
    have Bd:IntMulOk (r2 + 69621 * k) (r2 + 69621 * k):=mulL (by omega) (by omega)
    walk_at "rd"
    exact q _ (Int.emod_nonneg _ (by decide)) (Int.emod_lt_of_pos _ (by decide))
  ·walk_at "rd"
   rw [List.length_map] at ip
   refine if2 (fun z=>absurd z (by decide)) (fun _=>?_)
   walk_at "rd"
   refine ⟨_,_,rfl,.inl ⟨_,hS,rfl⟩,?_⟩
   walk_at "rd"
   rw [List.length_map]
   refine if2 (fun h=>absurd h ip) (fun _=>?_)
   walk_at "rd"
   generalize Dq:(0:Int) % 1000000000000000000 = r
   have c0:0≤r:=by omega
   have c1:r < 1000000000000000000:=by omega
   have hm:IntMulOk (r + 48271 * (k + 1)) (r + 48271 * (k + 1)):=mulL (by omega) (by omega)
   walk_at "rd"
   generalize (r + 48271 * (k + 1)) * (r + 48271 * (k + 1)) = zz
   have z0:=Int.emod_nonneg zz (show (2147483629:Int)≠0 by decide)
   have z1:=Int.emod_lt_of_pos zz (show (0:Int) < 2147483629 by decide)
   generalize zz % 2147483629 = r2 at z0 z1 ⊢
   have Bd:IntMulOk (r2 + 69621 * k) (r2 + 69621 * k):=mulL (by omega) (by omega)
   walk_at "rd"
   exact q _ (Int.emod_nonneg _ (by decide)) (Int.emod_lt_of_pos _ (by decide))
theorem bH:aM ["_law_script", "_law_start", "_law_many", "_law_orders", "_law_thick", "_law_one", "_law_other", "_law_number"] ["_law_script", "_law_start", "_law_many"] (ai bA):=⟨rfl,rfl,rfl,by decide +kernel,rfl,by decide +kernel,by decide +kernel⟩
theorem ib (D:Def K mg "_law_any" bA ["_law_script", "_law_start", "_law_many"]) (T:Txt K mg Z) (bL:dX P w K mg base (b6 P w) "_law_mixed" 2 ["_law_script", "_law_k"] (cL K)):dX P w K mg base (b6 P w) "_law_any" 3 ["_law_script", "_law_start", "_law_many"] (kU K):=by
 refine D.fG bH (fun vs H Q E h=>?_) (fun f bV A outer s H vs Q E hr h=>?_)
 ·obtain ⟨a,ns,st,n,rfl,_⟩:=h; rfl
 ·obtain ⟨a,ns,st,n,rfl,hS,Dl,Dk,sC,xP,q⟩:=h
  refine ⟨_,(ah (jC (i:=3) bH.nd rfl (by first | exact Or.inl rfl | exact Or.inr rfl) (tg:=["_law_k"]) (fr:=[]) (by walk_at "blk_ok") rfl (bN rfl T.range (aa (pv 2) ag)) (fun _ _ _ _ _=>(bR (i:=0) (show [("_law_k" : Str)].Nodup by decide +kernel) rfl (by first | exact Or.inl rfl | exact Or.inr rfl))) (fun _ _ _ _ _=>h7) (fun _ _ _ _ _=>(eY ag)))
   (ah (aX (i:=4) bH.nd rfl (by first | exact Or.inl rfl | exact Or.inr rfl) (aq bB af (aq aK (aP bL hr bT (aa (pv 0) (aa (pv 1) ag))) af)))
   (ah (cN PassesOwn.never rfl (bN rfl T.range (aa (pv 2) ag)) (bR (i:=5) bH.nd rfl (by first | exact Or.inl rfl | exact Or.inr rfl))
   (aj (cN PassesOwn.never rfl (bN rfl T.range (aa (pv 5) ag)) (bR (i:=6) bH.nd rfl (by first | exact Or.inl rfl | exact Or.inr rfl))
   (ah (aX (i:=7) bH.nd rfl (by first | exact Or.inl rfl | exact Or.inr rfl) (aP bL hr bT (aa (pv 0) (aa (aq bB (aq bB (aq bB (pv 1) af) (aq dH af (pv 5))) (pv 6)) ag))))
   (aj (bC (ax o7 (aq aK (pv 7) (pv 4)) af (aL _)) (ah (bQ (el PySem.F.plainAttrs_list PySem.F.slot_list_insert PySem.F.type_list_insert bO (bY bb (pv 3) (pv 5) (fun _ _=>rfl)) (aa (aq aK (aq bK (pv 7) af) (aq bB (au aA (by rfl) T.len aZ (aa (bY bb (pv 3) (pv 5) (fun _ _=>rfl)) ag)) af)) (aa (pv 6) ag))))
   (aj (bQ (el PySem.F.plainAttrs_list PySem.F.slot_list_insert PySem.F.type_list_insert bO (bY bb (pv 3) (pv 6) (fun _ _=>rfl)) (aa (aq aK (aq bK (pv 7) af) (aq bB (au aA (by rfl) T.len aZ (aa (bY bb (pv 3) (pv 6) (fun _ _=>rfl)) ag)) af)) (aa (pv 5) ag)))))) aB))))))
   (aj (aY (pv 3)))))),?_⟩
  dsimp only [d9]
  walk_at "rd"
  refine lJ ?_
  refine ⟨_,rfl,n,rfl,by omega,by omega,fun acc gK=>ji (fun i σ' ys H1=>∃ (as:List Addr) (v:Option V),σ' = [v]∧ys = as.map V.ref∧as.length = i∧av H H1∧H1 acc = some (.lst ys)∧(acc :: as).Nodup∧(∀ b∈acc :: as,H b = none)∧∀ b∈as,H1 b = some (.lst [])) ⟨[],none,rfl,rfl,rfl,av.upd gK,ar,by simp,by simpa using gK,by simp⟩ ?_ ?_⟩
  ·rintro i σ' ys H1 hi ⟨as,v,rfl,rfl,rfl,e1,h1,nd,fr,hb⟩
   walk_at "rd"
   refine ⟨Nat.zero_le _,fun p hp=>⟨by rw [ao (az h1 hp)]; exact h1,by rw [List.length_map]; exact b7 (by omega),pq hi ⟨as ++ [p],_,rfl,by simp,by simp,av.fresh (av.fresh e1 (e1.free hp)) gK,ar,?_,?_,?_⟩⟩⟩
   ·have np:p∉acc :: as:=fun z=>by
     rcases List.mem_cons.mp z with z | z
     ·rw [z,h1] at hp; cases hp
     ·rw [hb p z] at hp; cases hp
    have:=List.nodup_cons.mpr ⟨np,nd⟩
    have pm:(acc :: (as ++ [p])).Perm (p :: acc :: as):=by
     have:acc :: (as ++ [p]) = (acc :: as) ++ [p]:=rfl
     rw [this]
     exact List.perm_append_singleton _ _
    exact pm.nodup_iff.mpr this
   ·intro b nj
    rcases List.mem_cons.mp nj with z | z
    ·rw [z]; exact gK
    ·rcases List.mem_append.mp z with z | z
     ·exact fr b (List.mem_cons_of_mem _ z)
     ·rw [List.mem_singleton.mp z]; exact e1.free hp
   ·intro b nj
    have ba:b≠acc:=fun z=>by
     subst z
     rcases List.mem_append.mp nj with z | z
     ·exact (List.nodup_cons.mp nd).1 z
     ·exact az h1 hp (List.mem_singleton.mp z)
    rw [ao ba]
    rcases List.mem_append.mp nj with z | z
    ·rw [ao (az (hb b z) hp)]; exact hb b z
    ·rw [List.mem_singleton.mp z]; exact ar
  ·rintro σ' ys H1 ⟨as,v,rfl,rfl,has,e1,h1,nd,fr,hb⟩
   walk_at "rd"
   refine ⟨a,ns,st,rfl,e1.seq hS,by omega,by omega,fun n1 a0 a1=>?_⟩
   have yL:(0:Int) < 2 + n1 % 3:=by omega
   walk_at "rd"
   generalize 2 + n1 % 3 = th at yL ⊢
   refine dF ?_
   refine ⟨_,rfl,n,rfl,by omega,by omega,bP (fun i σ H1=>∃ (L:List (List Int)) (v5 v6 v7:Option V),σ = [some (.ref a),some (.int st),some (.int n),some (.ref acc),some (.int th),v5,v6,v7]∧av H H1∧bq H1 acc as L∧Made n.toNat i 0 L) ⟨List.replicate n.toNat [],none,none,none,rfl,e1,⟨h1,by simp [has],fun i b l h2 h3=>?_⟩,Made.start (by simp) fun i l h=>?_⟩ ?_ ?_⟩
   ·rw [List.getElem?_replicate] at h3
    split at h3
    ·cases h3; exact hb b (List.mem_of_getElem? h2)
    ·cases h3
   ·rw [List.getElem?_replicate] at h
    split at h
    ·cases h; rfl
    ·cases h
   ·rintro i σ H2 hi ⟨L,v5,v6,v7,rfl,e2,g2,m2⟩
    simp only [Int.zero_add]
    walk_at "rd"
    refine dF ?_
    refine ⟨_,rfl,(i:Int),rfl,by omega,by omega,?_⟩
    rw [Int.toNat_natCast]
    refine bP (fun j σ H1=>∃ (L:List (List Int)) (v6 v7:Option V),σ = [some (.ref a),some (.int st),some (.int n),some (.ref acc),some (.int th),some (.int (i:Int)),v6,v7]∧av H H1∧bq H1 acc as L∧Made n.toNat i j L) ⟨L,v6,v7,rfl,e2,g2,m2⟩ ?_ ?_
    ·rintro j σ H3 hj ⟨L3,w6,w7,rfl,e3,g3,m3⟩
     simp only [Int.zero_add]
     walk_at "rd"
     refine ⟨a,ns,_,rfl,e3.seq hS,by omega,by omega,fun nb b0 b1=>?_⟩
     walk_at "rd"
     refine mB (fun _=>?_) (fun _=>?_)
     ·have hL:=m3.len
      obtain ⟨p1,l1,qB,xQ,vx⟩:=g3.at (i:=i) (by omega)
      obtain ⟨p2,l2,kH,qX,A4⟩:=g3.at (i:=j) (by omega)
      have z1:=m3.small xQ
      have z2:=m3.small qX
      have zW:p2≠p1:=fun z=>by
       subst z
       obtain ⟨q1,w1⟩:=List.getElem?_eq_some_iff.mp qB
       obtain ⟨q2,w2⟩:=List.getElem?_eq_some_iff.mp kH
       exact Nat.ne_of_lt hj ((List.getElem_inj (List.nodup_cons.mp nd).2).mp (w2.trans w1.symm))
      walk_at "rd"
      refine bJ (aD.of g3.top) (g3.ix qB) ?_
      refine ⟨.inl ⟨rfl,_,aD.of vx⟩,?_⟩
      walk_at "rd"
      refine bJ (aD.of g3.top) (g3.ix qB) ?_
      walk_at "rd"
      refine ⟨_,_,rfl,.inl ⟨_,aD.of vx,rfl⟩,?_⟩
      rw [List.length_map]
      have A6:(0:Int) < (l1.length:Int) + 1:=by omega
      walk_at "rd"
      have d0:=Int.emod_nonneg (nb / 12) (show (l1.length:Int) + 1≠0 by omega)
      have d1:=Int.emod_lt_of_pos (nb / 12) A6
      generalize nb / 12 % ((l1.length:Int) + 1) = k1 at d0 d1 ⊢
      refine b8 (k:=k1.toNat) (by omega) vx (by rw [List.length_map]; omega) (by rw [List.length_map]; exact b7 (by omega)) ?_
      rw [map_put]
      have g4:=g3.set (l':=put l1 k1.toNat (j:Int)) nd qB
      have vZ:H p1 = none:=fr p1 (List.mem_cons_of_mem _ (List.mem_of_getElem? qB))
      have sM:H p2 = none:=fr p2 (List.mem_cons_of_mem _ (List.mem_of_getElem? kH))
      have qu:upd H3 p1 (.lst ((put l1 k1.toNat (j:Int)).map V.int)) p2 = some (.lst (l2.map V.int)):=by rw [ao zW]; exact A4
      have e4:av H (upd H3 p1 (.lst ((put l1 k1.toNat (j:Int)).map V.int))):=av.fresh e3 vZ
      walk_at "rd"
      refine bJ (aD.of g4.top) (g4.ix kH) ?_
      refine ⟨.inl ⟨rfl,_,aD.of qu⟩,?_⟩
      walk_at "rd"
      refine bJ (aD.of g4.top) (g4.ix kH) ?_
      walk_at "rd"
      refine ⟨_,_,rfl,.inl ⟨_,aD.of qu,rfl⟩,?_⟩
      rw [List.length_map]
      have A5:(0:Int) < (l2.length:Int) + 1:=by omega
      walk_at "rd"
      have c0:=Int.emod_nonneg (nb / 128) (show (l2.length:Int) + 1≠0 by omega)
      have c1:=Int.emod_lt_of_pos (nb / 128) A5
      generalize nb / 128 % ((l2.length:Int) + 1) = k2 at c0 c1 ⊢
      refine b8 (k:=k2.toNat) (by omega) qu (by rw [List.length_map]; omega) (by rw [List.length_map]; exact b7 (by omega)) ?_
      rw [map_put]
      exact ⟨_,_,_,rfl,av.fresh e4 sM,g4.set nd kH,m3.step hj (by omega) xQ qX⟩
     ·walk_at "rd"
      exact ⟨L3,_,_,rfl,e3,g3,m3.skip⟩
    ·rintro σ H3 ⟨L3,w6,w7,rfl,e3,g3,m3⟩
     exact ⟨L3,_,_,_,rfl,e3,g3,m3.next⟩
   ·rintro σ H2 ⟨L,v5,v6,v7,rfl,e2,g2,m2⟩
    walk_at "rd"
    exact q acc as L H2 e2 g2 nd fr (by have:=m2.len; omega) m2.map
theorem fz:aM ["self", "place"] ["self", "place"] (ai bh):=⟨rfl,rfl,rfl,by decide +kernel,rfl,by decide +kernel,by decide +kernel⟩
theorem fA {f:Addr} {fd:FuncData} (F:nu K "__init__" "NoMap.__init__" bh f fd) (c:kB K Z.bD Z.cT f "place") (T:Txt K mg Z):dZ P w K mg base (b6 P w) 1 f fd ["self", "place"] (eI Z.bD "place"):=by
 refine F.zY fz (fun vs H Q E h=>?_) (fun bV A outer s H vs Q E hr h=>?_)
 ·obtain ⟨a,v,rfl,_⟩:=h; rfl
 ·obtain ⟨a,v,rfl,ha,q⟩:=h
  refine ⟨_,(ah (bQ (lW c T.fm (aa (pv 0) (aa pZ ag)))) (aj (nE c (pv 0) (pv 1) rfl))),?_⟩
  try dsimp only [d9]
  walk_at "rd"
  refine ⟨a,none,_,rfl,ha,?_⟩
  walk_at "rd"
  exact ⟨a,rfl,ha,fun d hd nd=>q d hd nd⟩
theorem cM:aM ["orders", "place", "order", "neighbour"] ["orders", "place"] (ai bx):=⟨rfl,rfl,rfl,by decide +kernel,rfl,by decide +kernel,by decide +kernel⟩
theorem h9 (D:Def K mg "is_wrong" bx ["orders", "place"]) (T:Txt K mg Z):dX P w K mg base (b6 P w) "is_wrong" 1 ["orders", "place"] g9:=by
 refine D.fG cM (fun vs H Q E h=>?_) (fun f bV A outer s H vs Q E hr h=>?_)
 ·obtain ⟨p,as,L,k,rfl,_⟩:=h; rfl
 ·obtain ⟨p,as,L,k,rfl,g,hk,hn,qt,q⟩:=h
  obtain ⟨b,l,ha,hl,dJ⟩:=g.at hk
  have ll:=qt l (List.mem_of_getElem? hl)
  have gl:=getD_at hl
  refine ⟨_,(ah (aX (i:=2) cM.nd rfl (by first | exact Or.inl rfl | exact Or.inr rfl) (bY bb (pv 0) (pv 1) (fun _ _=>rfl)))
   (ah (bC (ax o7 (au gf (by rfl) T.len aZ (aa (d6 (gd rfl) (by rfl) T.set mY (aa (pv 2) ag)) ag)) (au aA (by rfl) T.len aZ (aa (pv 2) ag)) (aL _)) (aj (aY eZ)) aB)
   (ah (cN PassesOwn.never rfl (gz (pv 2)) (bR (i:=3) cM.nd rfl (by first | exact Or.inl rfl | exact Or.inr rfl))
   (ah (bC (PW.pt (pw_or (ax dk (pv 3) (pv 1) (aL _)) (pw_or (ax h8 (pv 3) af (aL _)) (pw_or1 (ax o9 (pv 3) (au aA (by rfl) T.len aZ (aa (pv 0) ag)) (aL _)))))) (aj (aY eZ)) aB)
   (aj (bC (ax dG (pv 1) (bY bb (pv 0) (pv 3) (fun _ _=>rfl)) (by with_unfolding_all rfl)) (aj (aY eZ)) aB))))
   (aj (aY eZ))))),?_⟩
  dsimp only [d9]
  walk_at "rd"
  refine bJ (aD.of g.top) (g.ix ha) ?_
  walk_at "rd"
  refine ⟨b,l,rfl,aD.of dJ,by omega,fun ps S vy=>?_⟩
  have e1:av H (upd H ps (.set S (d8 l).length)):=av.upd vy
  refine ⟨ps,S,_,rfl,ar,?_⟩
  generalize upd H ps (.set S (d8 l).length) = H1 at e1 ⊢
  walk_at "rd"
  refine ⟨_,_,rfl,.inl ⟨_,aD.of (e1 _ _ dJ),rfl⟩,?_⟩
  rw [List.length_map]
  have dl:=iz l
  walk_at "rd"
  refine mB (fun z=>?_) (fun z=>?_)
  ·walk_at "rd"
   refine q _ _ e1 ⟨fun _ ⟨nd,_⟩=>z (by rw [gl] at nd; rw [dl.mpr nd]),fun _=>rfl⟩
  have nd:l.Nodup:=dl.mp (by omega)
  walk_at "rd"
  refine dF ?_
  refine ⟨_,rfl,b,rfl,⟨_,aD.of (e1 _ _ dJ)⟩,iu (K:=K) (a:=b) (xs:=l.map V.int) (fun i σ H2=>∃ v:Option V,σ = [some (.ref p),some (.int (k:Int)),some (.ref b),v]∧av H H2∧∀ x∈l.take i,x≠(k:Int)∧0≤x∧x < L.length∧(k:Int)∈rowOf L x) ⟨none,rfl,e1,by simp⟩ (fun i σ H2 _ ⟨_,_,e,_⟩=>aD.of (e _ _ dJ)) ?_ ?_⟩
  ·rintro i x σ H2 hx ⟨v,rfl,e2,ok⟩
   obtain ⟨y,hy,rfl⟩:∃ y,l[i]? = some y∧x = V.int y:=by
    rw [List.getElem?_map] at hx
    cases e:l[i]? with
    | none=>rw [e] at hx; cases hx
    | some z=>rw [e] at hx; exact ⟨z,rfl,(Option.some.inj hx).symm⟩
   have ym:y∈L.getD k []:=by rw [gl]; exact List.mem_of_getElem? hy
   have bad:∀ {H':Hp},av H H'→¬ (y≠(k:Int)∧0≤y∧y < L.length∧(k:Int)∈rowOf L y)→Q (.bl true) H':=fun e no=>q _ _ e ⟨fun _ ⟨_,h⟩=>no (h y ym),fun _=>rfl⟩
   refine r_seq (lE (fun H'=>av H H'∧¬ (y≠(k:Int)∧0≤y∧y < L.length)) (fun H'=>av H H'∧(y≠(k:Int)∧0≤y∧y < L.length)) (fun H3 ⟨e3,no⟩=>?_) (fun H3 ⟨e3,y0,y1,y2⟩=>?_) (fun RR yes no=>?_))
   ·walk_at "rd"
    exact bad e3 fun z=>no ⟨z.1,z.2.1,z.2.2.1⟩
   ·obtain ⟨yn,rfl⟩:=Int.eq_ofNat_of_zero_le y1
    obtain ⟨b2,l2,kH,qX,mD⟩:=g.at (i:=yn) (by omega)
    have row:rowOf L (yn:Int) = l2:=by
     have:=hR (L:=L) (a:=(yn:Int)) (by omega) y2
     rw [Int.toNat_natCast,qX] at this
     exact (Option.some.inj this).symm
    walk_at "rd"
    refine bJ (aD.of (e3 _ _ g.top)) (g.ix kH) ?_
    refine pR (ns:=l2) (aD.of (e3 _ _ mD)) ?_
    rw [if_pos rfl]
    walk_at "rd"
    refine mB (fun z=>?_) (fun z=>?_)
    ·walk_at "rd"
     exact bad e3 fun w=>z (by rw [← row]; exact w.2.2.2)
    ·refine ⟨_,rfl,e3,fun x hx=>?_⟩
     rw [take_snoc hy] at hx
     rcases List.mem_append.mp hx with hx | hx
     ·exact ok x hx
     ·rw [List.mem_singleton.mp hx]
      exact ⟨y0,y1,y2,by rw [row]; exact z⟩
   ·walk_at "rd"
    refine if2 (fun z=>yes _ ⟨e2,fun w=>w.1 z⟩) (fun z=>?_)
    walk_at "rd"
    refine if2 (fun z2=>yes _ ⟨e2,fun w=>by omega⟩) (fun z2=>?_)
    walk_at "rd"
    refine ⟨_,_,rfl,.inl ⟨_,aD.of (e2 _ _ g.top),rfl⟩,?_⟩
    rw [List.length_map,g.len]
    walk_at "rd"
    by_cases z3:y≥(L.length:Int)
    ·rw [decide_eq_true z3]
     exact yes _ ⟨e2,fun w=>by omega⟩
    ·rw [decide_eq_false z3]
     exact no _ ⟨e2,z,by omega,by omega⟩
  ·rintro σ H2 ⟨v,rfl,e2,ok⟩
   walk_at "rd"
   rw [List.length_map,List.take_length] at ok
   refine q _ _ e2 ⟨fun z=>Bool.noConfusion z,fun z=>absurd ⟨by rw [gl]; exact nd,by rw [gl]; exact ok⟩ z⟩
theorem fR:aM ["orders", "place"] ["orders"] (ai bS):=⟨rfl,rfl,rfl,by decide +kernel,rfl,by decide +kernel,by decide +kernel⟩
theorem j4 (D:Def K mg "looked" bS ["orders"]) (T:Txt K mg Z) (jd:dX P w K mg base (b6 P w) "is_wrong" 1 ["orders", "place"] g9) (dW:tm P w K mg base (b6 P w) 1 Z.bD Z.cT "place" ["self", "place"]):dX P w K mg base (b6 P w) "looked" 3 ["orders"] (d3 Z.bD):=by
 refine D.vM fR (fun vs H Q E h=>?_) (fun f bV A outer s H vs Q E hr h=>?_)
 ·obtain ⟨p,as,L,rfl,_⟩:=h; rfl
 ·obtain ⟨p,as,L,rfl,g,hn,qt,q,qE⟩:=h
  refine ⟨_,(aj (cN PassesOwn.leaving rfl (bN rfl T.range (aa (au aA (by rfl) T.len aZ (aa (pv 0) ag)) ag)) (bR (i:=1) fR.nd rfl (by first | exact Or.inl rfl | exact Or.inr rfl))
   (aj (bC (eW (aP jd hr bT (aa (pv 0) (aa (pv 1) ag)))) (aj (jZ dW hr T.gS bT rfl (aa (pv 1) ag) pN)) aB)))),?_⟩
  dsimp only [d9]
  walk_at "rd"
  refine dF ?_
  refine ⟨_,rfl,_,_,rfl,.inl ⟨_,aD.of g.top,rfl⟩,(L.length:Int),by rw [List.length_map,g.len],by omega,by omega,?_⟩
  rw [Int.toNat_natCast]
  refine bP (fun k σ H1=>∃ v:Option V,σ = [some (.ref p),v]∧av H H1∧∀ j,j < k→¬ du L j) ⟨none,rfl,fun _ _ e=>e,fun j h=>absurd h (Nat.not_lt_zero _)⟩ ?_ ?_
  ·rintro k σ H1 hk ⟨v,rfl,e1,no⟩
   simp only [Int.zero_add]
   walk_at "rd"
   refine ⟨p,as,L,k,rfl,g.same e1,hk,hn,qt,fun H2 b e2 hb=>?_⟩
   cases b with
   | true=>
    walk_at "rd"
    refine ⟨_,rfl,fun d hd=>?_⟩
    exact qE k d _ ⟨hk,hb.mp rfl,no⟩ ((e1.trans e2).trans (av.upd hd)) ((e1.trans e2).free hd) ar
   | false=>
    walk_at "rd"
    refine ⟨_,rfl,e1.trans e2,fun j hj=>?_⟩
    by_cases z:j = k
    ·rw [z]; exact fun w=>by have:=hb.mpr w; cases this
    ·exact no j (by omega)
  ·rintro σ H1 ⟨v,rfl,e1,no⟩
   exact q no _ e1
theorem bo:aM ["_law_orders", "_law_number", "_law_far", "_law_place", "_law_order", "_law_at", "_law_way"] ["_law_orders", "_law_number", "_law_far"] (ai aF):=⟨rfl,rfl,rfl,by decide +kernel,rfl,by decide +kernel,by decide +kernel⟩
theorem eC (D:Def K mg "_law_spoiled" aF ["_law_orders", "_law_number", "_law_far"]) (T:Txt K mg Z):dX P w K mg base (b6 P w) "_law_spoiled" 1 ["_law_orders", "_law_number", "_law_far"] eS:=by
 refine D.fG bo (fun vs H Q E h=>?_) (fun f bV A outer s H vs Q E hr h=>?_)
 ·obtain ⟨p,as,L,n,fZ,m,rfl,_⟩:=h; rfl
 ·obtain ⟨p,as,L,n,fZ,m,rfl,g,nd,l0,C8,rm,m4,n0,q⟩:=h
  have Lp:(0:Int) < (L.length:Int):=by omega
  refine ⟨_,(ah (aX (i:=3) bo.nd rfl (by first | exact Or.inl rfl | exact Or.inr rfl) (aq aK (pv 1) (au aA (by rfl) T.len aZ (aa (pv 0) ag))))
   (ah (aX (i:=4) bo.nd rfl (by first | exact Or.inl rfl | exact Or.inr rfl) (bY bb (pv 0) (pv 3) (fun _ _=>rfl)))
   (ah (aX (i:=5) bo.nd rfl (by first | exact Or.inl rfl | exact Or.inr rfl) (aq aK (aq bK (pv 1) af) (aq bB (au aA (by rfl) T.len aZ (aa (pv 4) ag)) af)))
   (ah (aX (i:=6) bo.nd rfl (by first | exact Or.inl rfl | exact Or.inr rfl) (aq aK (aq bK (pv 1) af) af))
   (ah (bC (ax dk (pv 6) af (aL _)) (aj (bQ (el PySem.F.plainAttrs_list PySem.F.slot_list_insert PySem.F.type_list_insert bO (pv 4) (aa (pv 5) (aa (pv 3) ag))))) aB)
   (ah (bC (PW.pt (pw_and (ax dk (pv 6) af (aL _)) (pw_and1 (ax (i5 hr.units) (pv 4) (eY ag) (aL _))))) (aj (bQ (el PySem.F.plainAttrs_list PySem.F.slot_list_insert PySem.F.type_list_insert bO (pv 4) (aa (pv 5) (aa (bY bb (pv 4) (aq aK (aq bK (pv 1) af) (au aA (by rfl) T.len aZ (aa (pv 4) ag))) (fun _ _=>rfl)) ag))))) aB)
   (ah (bC (ax dk (pv 6) af (aL _)) (aj (bQ (el PySem.F.plainAttrs_list PySem.F.slot_list_insert PySem.F.type_list_insert bO (pv 4) (aa (pv 5) (aa (bY bb (eY (aa (o6 kL af) (aa (aq p5 (o6 kL af) (pv 2)) ag))) (aq aK (aq bK (pv 1) af) af) (fun _ _=>rfl)) ag))))) aB)
   (ah (bC (ax dk (pv 6) af (aL _)) (aj (bQ (el PySem.F.plainAttrs_list PySem.F.slot_list_insert PySem.F.type_list_insert bO (pv 4) (aa (pv 5) (aa (aq bB (au aA (by rfl) T.len aZ (aa (pv 0) ag)) (bY bb (eY (aa af (aa (pv 2) ag))) (aq aK (aq bK (pv 1) af) af) (fun _ _=>rfl))) ag))))) aB)
   (ah (bC (ax dk (pv 6) af (aL _)) (aj (bQ (el PySem.F.plainAttrs_list PySem.F.slot_list_insert PySem.F.type_list_insert bO (pv 4) (aa (pv 5) (aa (aq aK (aq bK (pv 1) af) (au aA (by rfl) T.len aZ (aa (pv 0) ag))) ag))))) aB)
   (aj (bC (PW.pt (pw_and (ax dk (pv 6) af (aL _)) (pw_and1 (ax (i5 hr.units) (pv 4) (eY ag) (aL _))))) (aj (bQ (el PySem.F.plainAttrs_list PySem.F.slot_list_pop PySem.F.type_list_pop md (pv 4) (aa (aq aK (aq bK (pv 1) af) (au aA (by rfl) T.len aZ (aa (pv 4) ag))) ag)))) aB))))))))))),?_⟩
  dsimp only [d9]
  have k0:=Int.emod_nonneg n (show (L.length:Int)≠0 by omega)
  have k1:=Int.emod_lt_of_pos n Lp
  obtain ⟨k,hk⟩:=Int.eq_ofNat_of_zero_le k0
  rw [hk] at k1
  obtain ⟨ca,l,ni,hl,dJ⟩:=g.at (i:=k) (by omega)
  have ll:=rm l (List.mem_of_getElem? hl)
  have lp:(0:Int) < (l.length:Int) + 1:=by omega
  have a0:=Int.emod_nonneg (n / 8) (show (l.length:Int) + 1≠0 by omega)
  have a1:=Int.emod_lt_of_pos (n / 8) lp
  obtain ⟨at_,x2⟩:=Int.eq_ofNat_of_zero_le a0
  rw [x2] at a1
  have yo:=List.mem_of_getElem? ni
  have two0:=Int.emod_nonneg (n / 512) (show (2:Int)≠0 by decide)
  have two1:=Int.emod_lt_of_pos (n / 512) (show (0:Int) < 2 by decide)
  obtain ⟨tw,vt⟩:=Int.eq_ofNat_of_zero_le two0
  rw [vt] at two1
  have inv:∀ (c:Nat) (H':Hp) (L':List (List Int)) (l':List Int) (y:Int),c≤5→(∀ b o,b∉as→H b = some o→H' b = some o)→bq H' p as L'→L'.length = L.length→L'[k]? = some l'→at_≤l'.length→(∀ r∈L',r.length≤m + c)→
    H' ca = some (.lst (l'.map V.int))∧at_≤(l'.map V.int).length∧(l'.map V.int).length < PySem.sizeLine∧∃ (L2:List (List Int)) (l2:List Int),(∀ b o,b∉as→H b = some o→upd H' ca (.lst ((put l' at_ y).map V.int)) b = some o)∧bq (upd H' ca (.lst ((put l' at_ y).map V.int))) p as L2∧L2.length = L.length∧L2[k]? = some l2∧at_≤l2.length∧(∀ r∈L2,r.length≤m + (c + 1)):=fun c H' L' l' y hc off g' vk vG Bt xm=>by
   have rl:=xm l' (List.mem_of_getElem? vG)
   refine ⟨g'.row _ _ _ ni vG,by rw [List.length_map]; exact Bt,by rw [List.length_map]; exact b7 (by omega),L'.set k (put l' at_ y),put l' at_ y,fun b o hb e=>?_,g'.set nd (l':=put l' at_ y) ni,by rw [List.length_set]; exact vk,List.getElem?_set_self (List.getElem?_eq_some_iff.mp vG).1,by rw [jB]; omega,hJ (fun r hr=>by have:=xm r hr; omega) (by rw [jB]; omega)⟩
   rw [ao (fun z:b = ca=>hb (z▸yo))]
   exact off b o hb e
  refine cq (fun σ H'=>σ = [some (.ref p),some (.int n),some (.int fZ),some (.int (k:Int)),none,none,none]∧H' = H) ?_ (fun N hN=>?_)
  rotate_left
  ·walk_at "rd"
   refine ⟨_,_,rfl,.inl ⟨_,aD.of g.top,rfl⟩,?_⟩
   rw [List.length_map,g.len]
   walk_at "rd"
   rw [hk]
   exact hN _ _ ⟨rfl,rfl⟩
  rintro σ H0 ⟨rfl,rfl⟩
  refine cq (fun σ H'=>σ = [some (.ref p),some (.int n),some (.int fZ),some (.int (k:Int)),some (.ref ca),none,none]∧H' = H0) ?_ (fun N hN=>?_)
  rotate_left
  ·walk_at "rd"
   refine bJ (aD.of g.top) (g.ix ni) ?_
   walk_at "rd"
   exact hN _ _ ⟨rfl,rfl⟩
  rintro σ H1 ⟨rfl,rfl⟩
  refine cq (fun σ H'=>σ = [some (.ref p),some (.int n),some (.int fZ),some (.int (k:Int)),some (.ref ca),some (.int (at_:Int)),none]∧H' = H1) ?_ (fun N hN=>?_)
  rotate_left
  ·walk_at "rd"
   refine ⟨_,_,rfl,.inl ⟨_,aD.of dJ,rfl⟩,?_⟩
   rw [List.length_map]
   walk_at "rd"
   rw [x2]
   exact hN _ _ ⟨rfl,rfl⟩
  rintro σ H2 ⟨rfl,rfl⟩
  refine cq (fun σ H'=>σ = [some (.ref p),some (.int n),some (.int fZ),some (.int (k:Int)),some (.ref ca),some (.int (at_:Int)),some (.int (n / 64 % 6))]∧H' = H2) ?_ (fun N hN=>?_)
  rotate_left
  ·walk_at "rd"
   exact hN _ _ ⟨rfl,rfl⟩
  rintro σ H3 ⟨rfl,rfl⟩
  generalize n / 64 % 6 = wy
  have rF:∀ c:Nat,∃ Pv:St→Hp→Prop,∀ σ H',Pv σ H'↔∃ (L':List (List Int)) (l':List Int),σ = [some (.ref p),some (.int n),some (.int fZ),some (.int (k:Int)),some (.ref ca),some (.int (at_:Int)),some (.int wy)]∧(∀ b o,b∉as→H3 b = some o→H' b = some o)∧bq H' p as L'∧L'.length = L.length∧L'[k]? = some l'∧at_≤l'.length∧(∀ r∈L',r.length≤m + c):=fun c=>⟨_,fun _ _=>Iff.rfl⟩
  obtain ⟨P1,vT⟩:=rF 1
  obtain ⟨P2,ui⟩:=rF 2
  obtain ⟨P3,vS⟩:=rF 3
  obtain ⟨P4,vR⟩:=rF 4
  obtain ⟨P5,vQ⟩:=rF 5
  refine cq P1 ?_ (fun N hN=>?_)
  rotate_left
  ·walk_at "rd"
   obtain ⟨i1,i2,i3,L2,l2,i4⟩:=inv 0 H3 L l (k:Int) (by decide) (fun _ _ _ e=>e) g rfl hl (by omega) rm
   refine if2 (fun h=>?_) (fun h=>?_)
   ·walk_at "rd"
    refine ⟨.inl ⟨rfl,_,aD.of i1⟩,?_⟩
    walk_at "rd"
    refine b8 (k:=at_) rfl i1 i2 i3 ?_
    rw [map_put]
    exact hN _ _ ((vT _ _).mpr ⟨L2,l2,rfl,i4⟩)
   ·exact hN _ _ ((vT _ _).mpr ⟨L,l,rfl,fun _ _ _ e=>e,g,rfl,hl,by omega,fun r hr=>by have:=rm r hr; omega⟩)
  intro σ H4 h4
  obtain ⟨L4,l4,rfl,o4,g4,n4,k4,t4,r4⟩:=(vT _ _).mp h4
  refine cq P2 ?_ (fun N hN=>?_)
  rotate_left
  ·have eT:=g4.row _ _ _ ni k4
   have same:P2 [some (.ref p),some (.int n),some (.int fZ),some (.int (k:Int)),some (.ref ca),some (.int (at_:Int)),some (.int wy)] H4:=(ui _ _).mpr ⟨L4,l4,rfl,o4,g4,n4,k4,t4,fun r hr=>by have:=r4 r hr; omega⟩
   walk_at "rd"
   refine if2 (fun h=>?_) (fun h=>hN _ _ same)
   walk_at "rd"
   refine ⟨Nat.zero_le _,fun z hz=>?_⟩
   have e5:av H4 (upd H4 z (.lst [])):=av.upd hz
   refine ⟨bF l4,bF [],dE (e5 _ _ eT),dE ar,shaped_ints _,shaped_ints _,?_⟩
   rw [if_pos rfl,jL]
   generalize upd H4 z (.lst []) = H5 at e5 ⊢
   have g5:=g4.same e5
   have iQ:=e5 _ _ eT
   have o5:∀ b o,b∉as→H3 b = some o→H5 b = some o:=fun b o hb e=>e5 _ _ (o4 b o hb e)
   walk_at "rd"
   refine mB (fun vD=>?_) (fun heq=>?_)
   ·have vi:(0:Int) < (l4.length:Int):=by have:=List.length_pos_iff.mpr vD; omega
    have j0:=Int.emod_nonneg (n / 512) (show (l4.length:Int)≠0 by omega)
    have j1:=Int.emod_lt_of_pos (n / 512) vi
    obtain ⟨j,hj⟩:=Int.eq_ofNat_of_zero_le j0
    rw [hj] at j1
    have ej:l4[j]? = some (l4[j]'(by omega)):=List.getElem?_eq_getElem (by omega)
    obtain ⟨i1,i2,i3,L2,l2,i4⟩:=inv 1 H5 L4 l4 (l4[j]'(by omega)) (by decide) o5 g5 n4 k4 t4 r4
    walk_at "rd"
    refine ⟨.inl ⟨rfl,_,aD.of iQ⟩,?_⟩
    walk_at "rd"
    refine ⟨_,_,rfl,.inl ⟨_,aD.of iQ,rfl⟩,?_⟩
    rw [List.length_map]
    walk_at "rd"
    rw [hj]
    refine bJ (aD.of iQ) (de (by rw [List.getElem?_map,ej]; rfl)) ?_
    walk_at "rd"
    refine b8 (k:=at_) rfl i1 i2 i3 ?_
    rw [map_put]
    exact hN _ _ ((ui _ _).mpr ⟨L2,l2,rfl,i4⟩)
   ·exact hN _ _ ((ui _ _).mpr ⟨L4,l4,rfl,o5,g5,n4,k4,t4,fun r hr=>by have:=r4 r hr; omega⟩)
  clear h4 o4 g4 n4 k4 t4 r4
  intro σ H4 h4
  obtain ⟨L4,l4,rfl,o4,g4,n4,k4,t4,r4⟩:=(ui _ _).mp h4
  refine cq P3 ?_ (fun N hN=>?_)
  rotate_left
  ·have eT:=g4.row _ _ _ ni k4
   walk_at "rd"
   refine if2 (fun h=>?_) (fun h=>hN _ _ ((vS _ _).mpr ⟨L4,l4,rfl,o4,g4,n4,k4,t4,fun r hr=>by have:=r4 r hr; omega⟩))
   walk_at "rd"
   refine ⟨.inl ⟨rfl,_,aD.of eT⟩,?_⟩
   walk_at "rd"
   intro z hz
   have e5:av H4 (upd H4 z (.lst [.int (-1),.int (-1 - fZ)])):=av.upd hz
   have z5:upd H4 z (.lst [.int (-1),.int (-1 - fZ)]) z = some (.lst [.int (-1),.int (-1 - fZ)]):=ar
   generalize upd H4 z (.lst [.int (-1),.int (-1 - fZ)]) = H5 at e5 z5 ⊢
   walk_at "rd"
   rw [vt]
   obtain ⟨y,hy⟩:∃ y:Int,[V.int (-1),V.int (-1 - fZ)][tw]? = some (V.int y):=by
    have:tw = 0∨tw = 1:=by omega
    rcases this with z | z
    ·rw [z]; exact ⟨_,rfl⟩
    ·rw [z]; exact ⟨_,rfl⟩
   refine bJ (aD.of z5) (de hy) ?_
   obtain ⟨i1,i2,i3,L2,l2,i4⟩:=inv 2 H5 L4 l4 y (by decide) (fun b o hb e=>e5 _ _ (o4 b o hb e)) (g4.same e5) n4 k4 t4 r4
   walk_at "rd"
   refine b8 (k:=at_) rfl i1 i2 i3 ?_
   rw [map_put]
   exact hN _ _ ((vS _ _).mpr ⟨L2,l2,rfl,i4⟩)
  clear h4 o4 g4 n4 k4 t4 r4
  intro σ H4 h4
  obtain ⟨L4,l4,rfl,o4,g4,n4,k4,t4,r4⟩:=(vS _ _).mp h4
  refine cq P4 ?_ (fun N hN=>?_)
  rotate_left
  ·have eT:=g4.row _ _ _ ni k4
   walk_at "rd"
   refine if2 (fun h=>?_) (fun h=>hN _ _ ((vR _ _).mpr ⟨L4,l4,rfl,o4,g4,n4,k4,t4,fun r hr=>by have:=r4 r hr; omega⟩))
   walk_at "rd"
   refine ⟨.inl ⟨rfl,_,aD.of eT⟩,?_⟩
   walk_at "rd"
   refine ⟨_,_,rfl,.inl ⟨_,aD.of g4.top,rfl⟩,?_⟩
   walk_at "rd"
   intro z hz
   have e5:av H4 (upd H4 z (.lst [.int 0,.int fZ])):=av.upd hz
   have z5:upd H4 z (.lst [.int 0,.int fZ]) z = some (.lst [.int 0,.int fZ]):=ar
   generalize upd H4 z (.lst [.int 0,.int fZ]) = H5 at e5 z5 ⊢
   walk_at "rd"
   rw [vt]
   obtain ⟨y,hy⟩:∃ y:Int,[V.int 0,V.int fZ][tw]? = some (V.int y):=by
    have:tw = 0∨tw = 1:=by omega
    rcases this with z | z
    ·rw [z]; exact ⟨_,rfl⟩
    ·rw [z]; exact ⟨_,rfl⟩
   refine bJ (aD.of z5) (de hy) ?_
   walk_at "rd"
   obtain ⟨i1,i2,i3,L2,l2,i4⟩:=inv 3 H5 L4 l4 (((as.map V.ref).length:Int) + y) (by decide) (fun b o hb e=>e5 _ _ (o4 b o hb e)) (g4.same e5) n4 k4 t4 r4
   refine b8 (k:=at_) rfl i1 i2 i3 ?_
   rw [map_put]
   exact hN _ _ ((vR _ _).mpr ⟨L2,l2,rfl,i4⟩)
  clear h4 o4 g4 n4 k4 t4 r4
  intro σ H4 h4
  obtain ⟨L4,l4,rfl,o4,g4,n4,k4,t4,r4⟩:=(vR _ _).mp h4
  refine cq P5 ?_ (fun N hN=>?_)
  rotate_left
  ·have eT:=g4.row _ _ _ ni k4
   walk_at "rd"
   refine if2 (fun h=>?_) (fun h=>hN _ _ ((vQ _ _).mpr ⟨L4,l4,rfl,o4,g4,n4,k4,t4,fun r hr=>by have:=r4 r hr; omega⟩))
   walk_at "rd"
   refine ⟨.inl ⟨rfl,_,aD.of eT⟩,?_⟩
   walk_at "rd"
   refine ⟨_,_,rfl,.inl ⟨_,aD.of g4.top,rfl⟩,?_⟩
   rw [List.length_map,g4.len,n4]
   walk_at "rd"
   obtain ⟨i1,i2,i3,L2,l2,i4⟩:=inv 4 H4 L4 l4 (n / 512 % L.length) (by decide) o4 g4 n4 k4 t4 r4
   refine b8 (k:=at_) rfl i1 i2 i3 ?_
   rw [map_put]
   exact hN _ _ ((vQ _ _).mpr ⟨L2,l2,rfl,i4⟩)
  clear h4 o4 g4 n4 k4 t4 r4
  intro σ H4 h4
  obtain ⟨L4,l4,rfl,o4,g4,n4,k4,t4,r4⟩:=(vQ _ _).mp h4
  have eT:=g4.row _ _ _ ni k4
  have fin:∀ H',(∀ b o,b∉as→H3 b = some o→H' b = some o)→∀ L',bq H' p as L'→L'.length = L.length→(∀ r∈L',r.length≤m + 6)→Q .bp H':=fun H' o' L' g' n' r'=>q H' L' o' g' n' r'
  walk_at "rd"
  refine if2 (fun h=>?_) (fun h=>fin _ o4 _ g4 n4 fun r hr=>by have:=r4 r hr; omega)
  walk_at "rd"
  refine ⟨Nat.zero_le _,fun z hz=>?_⟩
  have e5:av H4 (upd H4 z (.lst [])):=av.upd hz
  refine ⟨bF l4,bF [],dE (e5 _ _ eT),dE ar,shaped_ints _,shaped_ints _,?_⟩
  rw [if_pos rfl,jL]
  generalize upd H4 z (.lst []) = H5 at e5 ⊢
  have g5:=g4.same e5
  have iQ:=e5 _ _ eT
  have o5:∀ b o,b∉as→H3 b = some o→H5 b = some o:=fun b o hb e=>e5 _ _ (o4 b o hb e)
  walk_at "rd"
  refine mB (fun vD=>?_) (fun heq=>fin _ o5 _ g5 n4 fun r hr=>by have:=r4 r hr; omega)
  have vi:(0:Int) < (l4.length:Int):=by have:=List.length_pos_iff.mpr vD; omega
  have j0:=Int.emod_nonneg (n / 512) (show (l4.length:Int)≠0 by omega)
  have j1:=Int.emod_lt_of_pos (n / 512) vi
  obtain ⟨j,hj⟩:=Int.eq_ofNat_of_zero_le j0
  rw [hj] at j1
  have ej:l4[j]? = some (l4[j]'(by omega)):=List.getElem?_eq_getElem (by omega)
  have rl:=r4 l4 (List.mem_of_getElem? k4)
  walk_at "rd"
  refine ⟨.inl ⟨rfl,_,aD.of iQ⟩,?_⟩
  walk_at "rd"
  refine ⟨_,_,rfl,.inl ⟨_,aD.of iQ,rfl⟩,?_⟩
  rw [List.length_map]
  walk_at "rd"
  rw [hj]
  refine nC (k:=j) iQ ej (by omega) ?_
  have g6:=g5.set nd (l':=l4.eraseIdx j) ni
  refine fin _ (fun b o hb e=>?_) _ g6 (by rw [List.length_set]; exact n4) (hJ (fun r hr=>by have:=r4 r hr; omega) ?_)
  ·rw [ao (fun z:b = ca=>hb (z▸yo))]
   exact o5 b o hb e
  ·have:=List.length_eraseIdx_le l4 j
   omega
theorem cg:aM ["_law_orders", "_law_place", "_law_order", "_law_other"] ["_law_orders"] (ai bz):=⟨rfl,rfl,rfl,by decide +kernel,rfl,by decide +kernel,by decide +kernel⟩
theorem ia (D:Def K mg "_law_due" bz ["_law_orders"]) (T:Txt K mg Z):dX P w K mg base (b6 P w) "_law_due" 1 ["_law_orders"] kT:=by
 refine D.fG cg (fun vs H Q E h=>?_) (fun f bV A outer s H vs Q E hr h=>?_)
 ·obtain ⟨p,as,L,rfl,_⟩:=h; rfl
 ·obtain ⟨p,as,L,rfl,g,hn,qt,q,qi⟩:=h
  refine ⟨_,(ah (cN PassesOwn.never rfl (bN rfl T.range (aa (au aA (by rfl) T.len aZ (aa (pv 0) ag)) ag)) (bR (i:=1) cg.nd rfl (by first | exact Or.inl rfl | exact Or.inr rfl))
   (ah (aX (i:=2) cg.nd rfl (by first | exact Or.inl rfl | exact Or.inr rfl) (bY bb (pv 0) (pv 1) (fun _ _=>rfl)))
   (ah (bC (PW.pt (pw_or (ax j3 (pv 1) (pv 2) (by with_unfolding_all rfl)) (pw_or1 (ax h8 (au gf (by rfl) T.len aZ (aa (d6 (gd rfl) (by rfl) T.set mY (aa (pv 2) ag)) ag)) (au aA (by rfl) T.len aZ (aa (pv 2) ag)) (aL _))))) (aj (aY (pv 1))) aB)
   (aj (cN PassesOwn.never rfl (gz (pv 2)) (bR (i:=3) cg.nd rfl (by first | exact Or.inl rfl | exact Or.inr rfl))
   (aj (bC (PW.pt (pw_or (ax h8 (pv 3) af (aL _)) (pw_or (ax o9 (pv 3) (au aA (by rfl) T.len aZ (aa (pv 0) ag)) (aL _)) (pw_or1 (ax dG (pv 1) (bY bb (pv 0) (pv 3) (fun _ _=>rfl)) (by with_unfolding_all rfl)))))) (aj (aY (pv 1))) aB)))))))
   (aj (aY lU))),?_⟩
  dsimp only [d9]
  walk_at "rd"
  refine dF ?_
  refine ⟨_,rfl,_,_,rfl,.inl ⟨_,aD.of g.top,rfl⟩,(L.length:Int),by rw [List.length_map,g.len],by omega,by omega,?_⟩
  rw [Int.toNat_natCast]
  refine bP (fun k σ H1=>∃ v2 v3 v4:Option V,σ = [some (.ref p),v2,v3,v4]∧av H H1∧∀ j,j < k→¬ du L j) ⟨none,none,none,rfl,fun _ _ e=>e,fun j h=>absurd h (Nat.not_lt_zero _)⟩ ?_ ?_
  ·rintro k σ H1 hk ⟨v2,v3,v4,rfl,e1,no⟩
   simp only [Int.zero_add]
   obtain ⟨b,l,ha,hl,dJ⟩:=g.at hk
   have ll:=qt l (List.mem_of_getElem? hl)
   have gl:=getD_at hl
   have dl:=iz l
   have bad:∀ {H':Hp},av H H'→du L k→Q (.int (k:Int)) H':=fun e w=>qi k _ ⟨hk,w,no⟩ e
   refine r_gname ?_
   refine cq (fun σ H'=>σ = [some (.ref p),some (.int (k:Int)),some (.ref b),v4]∧H' = H1) ?_ (fun N hN=>?_)
   rotate_left
   ·walk_at "rd"
    refine bJ (aD.of (e1 _ _ g.top)) (g.ix ha) ?_
    walk_at "rd"
    exact hN _ _ ⟨rfl,rfl⟩
   rintro σ H0 ⟨rfl,rfl⟩
   refine r_seq (lE (fun H'=>av H H'∧du L k) (fun H'=>av H H'∧(k:Int)∉l∧l.Nodup) (fun H3 ⟨e3,no⟩=>?_) (fun H3 ⟨e3,nk,nd⟩=>?_) (fun RR yes vg=>?_))
   ·walk_at "rd"
    exact bad e3 no
   ·walk_at "rd"
    refine dF ?_
    refine ⟨_,rfl,b,rfl,⟨_,aD.of (e3 _ _ dJ)⟩,iu (K:=K) (a:=b) (xs:=l.map V.int) (fun i σ H2=>∃ v:Option V,σ = [some (.ref p),some (.int (k:Int)),some (.ref b),v]∧av H H2∧∀ x∈l.take i,0≤x∧x < L.length∧(k:Int)∈rowOf L x) ⟨v4,rfl,e3,by simp⟩ (fun i σ H2 _ ⟨_,_,e,_⟩=>aD.of (e _ _ dJ)) ?_ ?_⟩
    ·rintro i x σ H2 hx ⟨v,rfl,e2,ok⟩
     obtain ⟨y,hy,rfl⟩:∃ y,l[i]? = some y∧x = V.int y:=by
      rw [List.getElem?_map] at hx
      cases e:l[i]? with
      | none=>rw [e] at hx; cases hx
      | some z=>rw [e] at hx; exact ⟨z,rfl,(Option.some.inj hx).symm⟩
     have ym:y∈L.getD k []:=by rw [gl]; exact List.mem_of_getElem? hy
     refine r_gname (lE (fun H'=>av H H'∧¬ (0≤y∧y < L.length∧(k:Int)∈rowOf L y)) (fun H'=>av H H'∧(0≤y∧y < L.length∧(k:Int)∈rowOf L y)) (fun H4 ⟨e4,no⟩=>?_) (fun H4 ⟨e4,y0⟩=>?_) (fun RR yes vg=>?_))
     ·walk_at "rd"
      exact bad e4 fun ⟨_,z⟩=>no ⟨(z y ym).2.1,(z y ym).2.2.1,(z y ym).2.2.2⟩
     ·walk_at "rd"
      refine ⟨_,rfl,e4,fun x hx=>?_⟩
      rw [take_snoc hy] at hx
      rcases List.mem_append.mp hx with hx | hx
      ·exact ok x hx
      ·rw [List.mem_singleton.mp hx]; exact y0
     ·walk_at "rd"
      refine if2 (fun z=>yes _ ⟨e2,fun w=>by omega⟩) (fun z=>?_)
      walk_at "rd"
      refine ⟨_,_,rfl,.inl ⟨_,aD.of (e2 _ _ g.top),rfl⟩,?_⟩
      rw [List.length_map,g.len]
      walk_at "rd"
      refine if2 (fun z2=>yes _ ⟨e2,fun w=>by omega⟩) (fun z2=>?_)
      obtain ⟨yn,rfl⟩:=Int.eq_ofNat_of_zero_le (show 0≤y by omega)
      obtain ⟨b2,l2,kH,qX,mD⟩:=g.at (i:=yn) (by omega)
      have row:rowOf L (yn:Int) = l2:=by
       have:=hR (L:=L) (a:=(yn:Int)) (by omega) (by omega)
       rw [Int.toNat_natCast,qX] at this
       exact (Option.some.inj this).symm
      walk_at "rd"
      refine bJ (aD.of (e2 _ _ g.top)) (g.ix kH) ?_
      refine pR (ns:=l2) (aD.of (e2 _ _ mD)) ?_
      rw [if_pos rfl]
      by_cases z3:(k:Int)∈l2
      ·rw [decide_eq_true z3]
       exact ⟨_,rfl,vg _ ⟨e2,by omega,by omega,by rw [row]; exact z3⟩⟩
      ·rw [decide_eq_false z3]
       exact ⟨_,rfl,yes _ ⟨e2,fun w=>z3 (by rw [← row]; exact w.2.2)⟩⟩
    ·rintro σ H2 ⟨v,rfl,e2,ok⟩
     rw [List.length_map,List.take_length] at ok
     refine ⟨_,_,_,rfl,e2,fun j hj=>?_⟩
     by_cases z:j = k
     ·rw [z]
      intro w
      refine w ⟨by rw [gl]; exact nd,fun x hx=>?_⟩
      rw [gl] at hx
      exact ⟨fun z=>nk (z▸hx),ok x hx⟩
     ·exact no j (by omega)
   ·walk_at "rd"
    refine pR (ns:=l) (aD.of (e1 _ _ dJ)) ?_
    rw [if_neg (by decide)]
    walk_at "rd"
    refine if2 (fun z=>yes _ ⟨e1,fun ⟨_,w⟩=>(w _ (by rw [gl]; exact z)).1 rfl⟩) (fun z=>?_)
    walk_at "rd"
    refine ⟨b,l,rfl,aD.of (e1 _ _ dJ),by omega,fun ps S vy=>?_⟩
    have e2:av H0 (upd H0 ps (.set S (d8 l).length)):=av.upd vy
    refine ⟨ps,S,_,rfl,ar,?_⟩
    generalize upd H0 ps (.set S (d8 l).length) = H2 at e2 ⊢
    walk_at "rd"
    refine ⟨_,_,rfl,.inl ⟨_,aD.of (e2 _ _ (e1 _ _ dJ)),rfl⟩,?_⟩
    rw [List.length_map]
    have le:=oj l
    walk_at "rd"
    by_cases z2:((d8 l).length:Int) < (l.length:Int)
    ·rw [decide_eq_true z2]
     refine yes _ ⟨e1.trans e2,fun ⟨w,_⟩=>?_⟩
     rw [gl] at w
     have:=dl.mpr w
     omega
    ·rw [decide_eq_false z2]
     exact vg _ ⟨e1.trans e2,z,dl.mp (by omega)⟩
  ·rintro σ H1 ⟨v2,v3,v4,rfl,e1,no⟩
   walk_at "rd"
   exact q no _ e1
theorem bI:aM ["_law_orders", "_law_caught_here", "e"] ["_law_orders"] (ai aN):=⟨rfl,rfl,rfl,by decide +kernel,rfl,by decide +kernel,by decide +kernel⟩
theorem e8 (D:Def K mg "_law_caught" aN ["_law_orders"]) (T:Txt K mg Z) (fc:dX P w K mg base (b6 P w) "looked" 3 ["orders"] (d3 Z.bD)):dX P w K mg base (b6 P w) "_law_caught" 4 ["_law_orders"] (fQ Z.bD):=by
 refine D.fG bI (fun vs H Q E h=>?_) (fun f bV A outer s H vs Q E hr h=>?_)
 ·obtain ⟨p,as,L,rfl,_⟩:=h; rfl
 ·obtain ⟨p,as,L,rfl,g,hn,qt,q,qi⟩:=h
  refine ⟨_,(ah (aX (i:=1) bI.nd rfl (by first | exact Or.inl rfl | exact Or.inr rfl) lU)
   (ah (lR fc hr (aa (pv 0) ag) m7 T.fm bI.nd (jn:=2) rfl rfl (fun _=>(aj (aX (i:=1) bI.nd rfl (by first | exact Or.inl rfl | exact Or.inr rfl) (pv 2)))))
   (aj (aY (pv 1))))),?_⟩
  dsimp only [d9]
  walk_at "rd"
  refine ⟨p,as,L,rfl,g,hn,qt,fun no H1 e1=>?_,fun i d H1 fw e1 fd hd=>⟨_,rfl,T.m1,fun x hx=>?_⟩⟩
  ·walk_at "rd"
   exact q no _ e1
  ·walk_at "rd"
   refine qi i x d _ fw (e1.trans (av.upd hx)) ar ?_
   have nd:d≠x:=fun z=>by rw [z] at hd; rw [hx] at hd; cases hd
   rw [ao nd]
   exact hd
theorem ey:aM ["_law_caught_here"] ["_law_caught_here"] (ai aE):=⟨rfl,rfl,rfl,by decide +kernel,rfl,by decide +kernel,by decide +kernel⟩
theorem eB (D:Def K mg "_law_strange" aE ["_law_caught_here"]) (T:Txt K mg Z):dX P w K mg base (b6 P w) "_law_strange" 1 ["_law_caught_here"] (eR Z.bD):=by
 refine D.fG ey (fun vs H Q E h=>?_) (fun f bV A outer s H vs Q E hr h=>?_)
 ·rcases h with ⟨a,d,rfl,_⟩ | ⟨rfl,_⟩ <;> rfl
 ·refine ⟨_,(ah (bC (eW (au fk (by rfl) T.isinstance bw (aa (pv 0) (aa (lT (aa (bj (v:=.ref Z.Flat) rfl T.qK rfl) (aa (bj (v:=.ref Z.cn) rfl T.kz rfl) (aa (bj (v:=.ref Z.cS) rfl T.mX rfl) (aa (bj (v:=.ref Z.cm) rfl T.ky rfl) (aa (bj (v:=.ref Z.bU) rfl T.jj rfl) (aa (bj (v:=.ref Z.er) rfl T.ot rfl) ag))))))) ag)))) (aj (aY eZ)) aB)
   (aj (aY (au fk (by rfl) T.isinstance bw (aa (pv 0) (aa (lT (aa (bj (v:=.ref Z.di) rfl T.kx rfl) (aa (bj (v:=.ref Z.dh) rfl T.ku rfl) (aa (bj (v:=.ref Z.df) rfl T.kr rfl) (aa (bj (v:=.ref Z.gm) rfl T.oq rfl) (aa (bj (v:=.ref Z.b5) rfl T.iC rfl) (aa (bj (v:=.ref Z.ec) rfl T.mU rfl) (aa (bj (v:=.ref Z.eg) rfl T.mW rfl) (aa (bj (v:=.ref Z.ef) rfl T.mV rfl) ag))))))))) ag)))))),?_⟩
  dsimp only [d9]
  rcases h with ⟨a,d,rfl,ha,q⟩ | ⟨rfl,q⟩
  ·walk_at "rd"
   refine ⟨by rw [PySem.sizeLine_eq]; simp,fun tp qs=>?_⟩
   walk_at "rd"
   have e1:av H (upd H tp (.tup [.ref Z.Flat,.ref Z.cn,.ref Z.cS,.ref Z.cm,.ref Z.bU,.ref Z.er])):=av.upd qs
   refine eJ (.dP (e1 _ _ ha) T.cz) ar (.cons (.ref _) (.cons (.ref _) (.cons (.ref _) (.cons (.ref _) (.cons (.ref _) (.cons (.ref _) .nil)))))) T.m3 ?_
   generalize upd H tp (.tup [.ref Z.Flat,.ref Z.cn,.ref Z.cS,.ref Z.cm,.ref Z.bU,.ref Z.er]) = H1 at e1 ⊢
   walk_at "rd"
   refine ⟨by rw [PySem.sizeLine_eq]; simp,fun t2 vv=>?_⟩
   walk_at "rd"
   have e2:av H1 (upd H1 t2 (.tup [.ref Z.di,.ref Z.dh,.ref Z.df,.ref Z.gm,.ref Z.b5,.ref Z.ec,.ref Z.eg,.ref Z.ef])):=av.upd vv
   refine eJ (.dP (e2 _ _ (e1 _ _ ha)) T.cz) ar (.cons (.ref _) (.cons (.ref _) (.cons (.ref _) (.cons (.ref _) (.cons (.ref _) (.cons (.ref _) (.cons (.ref _) (.cons (.ref _) .nil)))))))) T.m4 ?_
   exact q _ (e1.trans e2)
  ·walk_at "rd"
   refine ⟨by rw [PySem.sizeLine_eq]; simp,fun tp qs=>?_⟩
   walk_at "rd"
   have e1:av H (upd H tp (.tup [.ref Z.Flat,.ref Z.cn,.ref Z.cS,.ref Z.cm,.ref Z.bU,.ref Z.er])):=av.upd qs
   refine eJ .bp ar (.cons (.ref _) (.cons (.ref _) (.cons (.ref _) (.cons (.ref _) (.cons (.ref _) (.cons (.ref _) .nil)))))) T.n3 ?_
   generalize upd H tp (.tup [.ref Z.Flat,.ref Z.cn,.ref Z.cS,.ref Z.cm,.ref Z.bU,.ref Z.er]) = H1 at e1 ⊢
   walk_at "rd"
   refine ⟨by rw [PySem.sizeLine_eq]; simp,fun t2 vv=>?_⟩
   walk_at "rd"
   have e2:av H1 (upd H1 t2 (.tup [.ref Z.di,.ref Z.dh,.ref Z.df,.ref Z.gm,.ref Z.b5,.ref Z.ec,.ref Z.eg,.ref Z.ef])):=av.upd vv
   refine eJ .bp ar (.cons (.ref _) (.cons (.ref _) (.cons (.ref _) (.cons (.ref _) (.cons (.ref _) (.cons (.ref _) (.cons (.ref _) (.cons (.ref _) .nil)))))))) T.n4 ?_
   exact q _ (e1.trans e2)
theorem d4:aM ["_law_script", "_law_orders", "_law_k", "_law_due_here", "_law_handed", "_law_caught_here"] ["_law_script"] (ai dD):=⟨rfl,rfl,rfl,by decide +kernel,rfl,by decide +kernel,by decide +kernel⟩
theorem p7 {fa:Addr} {fd:FuncData} (F:nu K "law" "law" dD fa fd) (T:Txt K mg Z)
  (fc:dX P w K mg base (b6 P w) "looked" 3 ["orders"] (d3 Z.bD)) (cQ:dX P w K mg base (b6 P w) "_law_cell_at" 1 ["_law_script", "_law_k"] (ju K)) (gL:dX P w K mg base (b6 P w) "_law_whole" 1 ["_law_found"] hB) (bL:dX P w K mg base (b6 P w) "_law_mixed" 2 ["_law_script", "_law_k"] (cL K)) (jf:dX P w K mg base (b6 P w) "_law_any" 3 ["_law_script", "_law_start", "_law_many"] (kU K)) (fe:dX P w K mg base (b6 P w) "_law_strange" 1 ["_law_caught_here"] (eR Z.bD)) (ff:dX P w K mg base (b6 P w) "_law_spoiled" 1 ["_law_orders", "_law_number", "_law_far"] eS) (je:dX P w K mg base (b6 P w) "_law_due" 1 ["_law_orders"] kT) (fH:dX P w K mg base (b6 P w) "_law_caught" 4 ["_law_orders"] (fQ Z.bD)) (dW:tm P w K mg base (b6 P w) 1 Z.bD Z.cT "place" ["self", "place"]):dZ P w K mg base (b6 P w) 10 fa fd ["_law_script"] (gs K):=by
 refine F.okN d4 (fun vs H Q E h=>?_) (fun bV A outer s H vs Q E hr h=>?_)
 ·obtain ⟨a,ns,rfl,_⟩:=h; rfl
 ·obtain ⟨a,ns,rfl,hS,hlen,kq⟩:=h
  refine ⟨_,(ah (aX (i:=1) d4.nd rfl (by first | exact Or.inl rfl | exact Or.inr rfl) (aP jf hr bT (aa (pv 0) (aa af (aa (aq bB af (aq aK (aP cQ hr bT (aa (pv 0) (aa af ag))) af)) ag)))))
   (ah (cN PassesOwn.never rfl (bN rfl T.range (aa (aq aK (aP bL hr bT (aa (pv 0) (aa af ag))) af) ag)) (bR (i:=2) d4.nd rfl (by first | exact Or.inl rfl | exact Or.inr rfl))
   (aj (bQ (aP ff hr bT (aa (pv 1) (aa (aP bL hr bT (aa (pv 0) (aa (aq bB af (pv 2)) ag))) (aa (aq aK (aP cQ hr bT (aa (pv 0) (aa af ag))) (eK (v:=1000000000000000000000000000000000000000000000000000000000000) gC af af ⟨by decide,by decide,by decide⟩ (by decide +kernel))) ag)))))))
   (ah (aX (i:=3) d4.nd rfl (by first | exact Or.inl rfl | exact Or.inr rfl) (aP je hr bT (aa (pv 1) ag)))
   (ah (jC (i:=4) d4.nd rfl (by first | exact Or.inl rfl | exact Or.inr rfl) (tg:=["_law_order"]) (fr:=[]) (by walk_at "blk_ok") rfl (gz (pv 1)) (fun _ _ _ _ _=>(bR (i:=0) (show [("_law_order" : Str)].Nodup by decide +kernel) rfl (by first | exact Or.inl rfl | exact Or.inr rfl))) (fun _ _ _ _ _=>h7) (fun _ _ _ _ _=>(d6 (fI (K:=K) rfl) (by rfl) T.list ou (aa (pv 0) ag))))
   (ah (aX (i:=5) d4.nd rfl (by first | exact Or.inl rfl | exact Or.inr rfl) (aP fH hr bT (aa (pv 4) ag)))
   (ah (bC (PW.pt (pw_or (ax (i5 hr.units) (pv 4) (pv 1) (aL _)) (pw_or1 (eW (aP fe hr bT (aa (pv 5) ag)))))) (aj (aY eZ)) aB)
   (ah (bC (pX (iZ (pv 3))) (aj (aY (gB (lV (iZ (pv 5))) (iY (lV (iZ (aP fc hr bT (aa (pv 4) ag)))))))) aB)
   (ah (bC (PW.pt (pw_or (lQ (eW (au fj (by rfl) T.isinstance bw (aa (pv 5) (aa (bj (v:=.ref Z.bD) rfl T.gS rfl) ag))))) (pw_or1 (lQ (eW (au fj (by rfl) T.isinstance bw (aa (pv 5) (aa (gA (v:=.ty "ValueError") rfl T.ValueError fJ rfl) ag)))))))) (aj (aY eZ)) aB)
   (aj (aY (gB (aP gL hr bT (aa (iX (pv 5) rfl) ag)) (gB (jD dk (iX (pv 5) rfl) (pv 3) (aL _)) (iY (jD dk (iX (p4 dW hr T.gS bT (aa (aq bB (pv 3) af) ag)) rfl) (aq bB (pv 3) af) (aL _))))))))))))))),?_⟩
  dsimp only [d9]
  walk_at "rd"
  refine ⟨a,ns,0,rfl,hS,by decide,fun n0=>?_⟩
  walk_at "rd"
  have m0:=Int.emod_nonneg n0 (show (7:Int)≠0 by decide)
  have m1:=Int.emod_lt_of_pos n0 (show (0:Int) < 7 by decide)
  refine ⟨a,ns,3,1 + n0 % 7,rfl,hS,by decide,by decide,by omega,by omega,fun p as L H1 e1 g1 Ax vZ hL im=>?_⟩
  have r1:∀ r∈L,r.length≤7:=fun r hr=>by
   obtain ⟨k,hk⟩:=List.mem_iff_getElem?.mp hr
   have:=fV (im.nd _ _ hk) (n:=L.length) fun y hy=>⟨(im.rg _ _ hk y hy).1,(im.rg _ _ hk y hy).2.1⟩
   omega
  walk_at "rd"
  refine dF ?_
  refine d5 (r_op (gw (d5 (r_var rfl (d5 (r_c (hX ⟨a,ns,2,rfl,e1.seq hS,by decide,by decide,fun n1 C6 C5=>r_c (nB (by first | decide | walk_at "side") (hX ?_))⟩)))))))
  have t0:=Int.emod_nonneg n1 (show (3:Int)≠0 by decide)
  have t1:=Int.emod_lt_of_pos n1 (show (0:Int) < 3 by decide)
  obtain ⟨c,hc⟩:=Int.eq_ofNat_of_zero_le t0
  rw [hc] at t1 ⊢
  refine ⟨(c:Int),rfl,by omega,by omega,?_⟩
  rw [Int.toNat_natCast]
  refine bP (fun k σ H2=>∃ (v:Option V) (L':List (List Int)),σ = [some (.ref a),some (.ref p),v,none,none,none]∧(∀ b o,b∉as→H1 b = some o→H2 b = some o)∧bq H2 p as L'∧L'.length = L.length∧∀ r∈L',r.length≤7 + 6 * k) ⟨none,L,rfl,fun _ _ _ e=>e,g1,rfl,r1⟩ ?_ ?_
  ·rintro k σ H2 hk ⟨v,L',rfl,o2,g2,n2,r2⟩
   simp only [Int.zero_add]
   have x3:aD K H2 a (ns.map V.int):=by
    refine av.seq (fun b o e=>o2 b o (fun z=>?_) (e1 _ _ e)) hS
    have:=vZ b (List.mem_cons_of_mem _ z)
    rw [e] at this
    cases this
   walk_at "rd"
   refine ⟨a,ns,80 + k,rfl,x3,by omega,by omega,fun num n0 n1=>?_⟩
   walk_at "rd"
   refine ⟨a,ns,1,rfl,x3,by decide,fun fZ=>?_⟩
   walk_at "rd"
   refine ⟨p,as,L',num,_,7 + 6 * k,rfl,g2,Ax,by omega,by omega,r2,by omega,n0,fun H3 L3 o3 g3 n3 r3=>?_⟩
   walk_at "rd"
   exact ⟨_,L3,rfl,fun b o hb e=>o3 b o hb (o2 b o hb e),g3,by omega,fun r hr=>by have:=r3 r hr; omega⟩
  ·rintro σ H2 ⟨v,L',rfl,o2,g2,n2,r2⟩
   clear g1 r1
   have rr:∀ r∈L',r.length≤500:=fun r hr=>by have:=r2 r hr; omega
   walk_at "rd"
   refine ⟨p,as,L',rfl,g2,by omega,rr,fun no H3 e3=>?_,fun i H3 fw e3=>?_⟩
   ·walk_at "rd"
    refine jz (i:=1) rfl (g2.same e3) (by omega) fun hp hs H4 e4 g4 vh vY=>?_
    have vX:=(g2.same e3).same e4
    walk_at "rd"
    refine ⟨hp,hs,L',rfl,g4,by omega,rr,fun _ H5 e5=>?_,fun i _ _ _ fw=>absurd fw.wr (no i fw.lt)⟩
    walk_at "rd"
    refine ⟨cw L',cw L',(g4.same e5).tO,(vX.same e5).tO,cf _,cf _,?_⟩
    rw [if_pos rfl,iy,decide_eq_true rfl]
    walk_at "rd"
    refine .inr ⟨rfl,fun H6 e6=>?_⟩
    walk_at "rd"
    rw [decide_eq_true rfl]
    walk_at "rd"
    rw [decide_eq_true rfl]
    walk_at "rd"
    refine ⟨hp,hs,L',rfl,(g4.same e5).same e6,by omega,rr,fun _ H7 e7=>?_,fun i _ _ fw=>absurd fw.wr (no i fw.lt)⟩
    dsimp only
    rw [decide_eq_true rfl]
    exact kq _
   ·walk_at "rd"
    refine jz (i:=1) rfl (g2.same e3) (by omega) fun hp hs H4 e4 g4 vh vY=>?_
    have vX:=(g2.same e3).same e4
    walk_at "rd"
    refine ⟨hp,hs,L',rfl,g4,by omega,rr,fun no=>absurd fw.wr (no i fw.lt),fun i' x d H5 Bz e5 hx hd=>?_⟩
    obtain rfl:i' = i:=Bz.uniq fw
    walk_at "rd"
    refine ⟨cw L',cw L',(g4.same e5).tO,(vX.same e5).tO,cf _,cf _,?_⟩
    rw [if_pos rfl,iy,decide_eq_true rfl]
    walk_at "rd"
    refine .inl ⟨x,d,rfl,hx,fun H6 e6=>?_⟩
    have t9:=e6 _ _ hx
    have xX:=e6 _ _ hd
    walk_at "rd"
    rw [decide_eq_false (fun z=>by cases z)]
    walk_at "rd"
    refine jw (.dP t9 T.cz) (.ref _) T.m2 ?_
    walk_at "rd"
    refine jw (.dP t9 T.cz) (.ty _) T.m5 ?_
    walk_at "rd"
    refine ⟨x,_,d,_,_,rfl,.inl t9,xX,T.cz,T.gO,T.gT,rfl,?_⟩
    walk_at "rd"
    refine ⟨_,rfl,?_⟩
    walk_at "rd"
    refine ⟨x,_,d,_,_,rfl,.inl t9,xX,T.cz,T.gO,T.gT,rfl,?_⟩
    walk_at "rd"
    refine if2 (fun _=>?_) (fun h=>absurd rfl h)
    walk_at "rd"
    refine ⟨_,rfl,fun y d2 hy hd2 tY=>?_⟩
    refine ⟨y,_,d2,_,_,rfl,.inr (by rw [ao (Ne.symm tY)]; exact ar),ar,T.cz,T.gO,T.gT,rfl,?_⟩
    walk_at "rd"
    rw [decide_eq_true rfl]
    exact kq _
end
end qP
end
namespace qP
open PySem L2 Fr Gm
local macro_rules | `(tactic| walk_at "rd1")=>`(tactic| first
 | with_reducible refine r_seq ?_ | with_reducible refine r_asg ?_ | with_reducible refine r_gname ?_ | with_reducible refine r_op ?_ | with_reducible refine r_c ?_
 | ((with_reducible refine' r_var ?hv ?_); case' hv=>exact rfl)
 | with_reducible refine lu ?_ | with_reducible refine pO ?_ | with_reducible refine pP ?_ | with_reducible refine lH ?_ | with_reducible refine lz ?_
 | with_reducible refine lr ?_ | with_reducible refine lq ?_ | with_reducible refine iV ?_ | with_reducible refine jx ?_ | with_reducible refine iS ?_ | with_reducible refine uT ?_ | with_reducible refine pU ?_
 | with_reducible refine ly ?_ | with_reducible refine lK ?_ | with_reducible refine pQ ?_ | with_reducible refine iW ?_ | with_reducible refine oT ?_ | with_reducible refine iT ?_ | with_reducible refine oV ?_
 | with_reducible refine hX ?_ | with_reducible refine d5 ?_ | with_reducible refine gw ?_ | with_reducible refine pS ?_ | with_reducible refine lj ?_ | with_reducible refine lB ?_ | with_reducible refine iU ?_
 | with_reducible refine jy ?_ | with_reducible refine lG ?_ | with_reducible refine oS ?_ | with_reducible refine sm ?_ | with_reducible refine t8 ?_ | with_reducible refine qr ?_ | with_reducible refine sq ?_
 | ((with_reducible refine nB ?hc ?_); case' hc=>walk_at "side")
 | ((with_reducible refine' oU ?hp ?hi ?_); (case' hp=>walk_at "seq"); (case' hi=>exact rfl))
 | ((with_reducible refine' bJ ?hp ?hi ?_); (case' hp=>walk_at "seq"); (case' hi=>exact rfl))
 | ((with_reducible refine' lF ?hp ?hi ?_); (case' hp=>walk_at "seq"); (case' hi=>exact rfl))
 | ((with_reducible refine And.intro ?hl ?_); case' hl=>(first | exact oQ | exact rJ))
 | with_reducible refine pT ?_ | with_reducible refine oX ?_ | with_reducible refine gv ?_ | with_reducible refine lC ?_ | with_reducible refine lx ?_ | with_reducible refine jv ?_ | with_reducible refine gx ?_ | with_reducible refine iR ?_ | with_reducible refine lA ?_ | with_reducible refine eU ?_ | with_reducible refine lh ?_ | with_reducible refine gu ?_ | with_reducible refine hZ ?_ | with_reducible refine oW ?_ | with_reducible refine lI ?_
 | dsimp only)
local macro_rules | `(tactic| walk_at "rd")=>`(tactic| repeat walk_at "rd1")
local macro_rules | `(tactic| walk_at "blk_vis")=>`(tactic| first | exact Or.inl rfl | exact Or.inr (Or.inl rfl) | exact Or.inr (Or.inr rfl))
local macro_rules | `(tactic| walk_at "blk_ok")=>`(tactic| exact ⟨rfl,by decide +kernel,by decide +kernel,rfl,by (first | exact trivial | exact ⟨rfl,trivial⟩ | exact ⟨rfl,rfl,trivial⟩ | exact ⟨rfl,rfl,rfl,trivial⟩ | exact ⟨rfl,rfl,rfl,rfl,trivial⟩ | exact ⟨rfl,rfl,rfl,rfl,rfl,trivial⟩),rfl,
 by (first | exact ak | exact ae ⟨rfl,by walk_at "blk_vis",rfl,rfl⟩ ak | exact ae ⟨rfl,by walk_at "blk_vis",rfl,rfl⟩ (ae ⟨rfl,by walk_at "blk_vis",rfl,rfl⟩ ak) | exact ae ⟨rfl,by walk_at "blk_vis",rfl,rfl⟩ (ae ⟨rfl,by walk_at "blk_vis",rfl,rfl⟩ (ae ⟨rfl,by walk_at "blk_vis",rfl,rfl⟩ ak)) | exact ae ⟨rfl,by walk_at "blk_vis",rfl,rfl⟩ (ae ⟨rfl,by walk_at "blk_vis",rfl,rfl⟩ (ae ⟨rfl,by walk_at "blk_vis",rfl,rfl⟩ (ae ⟨rfl,by walk_at "blk_vis",rfl,rfl⟩ ak)))),
 by (first | exact ae rfl (ae rfl (ae rfl (ae rfl ak))) | exact ak | exact ae rfl ak | exact ae rfl (ae rfl ak) | exact ae rfl (ae rfl (ae rfl ak)))⟩)
local macro_rules | `(tactic| walk_at "blk_ok1")=>`(tactic| exact ⟨rfl,fun _=>rfl,fun _=>rfl,by decide +kernel,rfl,by (first | exact trivial | exact ⟨rfl,trivial⟩ | exact ⟨rfl,rfl,trivial⟩ | exact ⟨rfl,rfl,rfl,trivial⟩ | exact ⟨rfl,rfl,rfl,rfl,trivial⟩),rfl,
 by (first | exact ak | exact ae ⟨rfl,by walk_at "blk_vis",⟨rfl,rfl⟩,rfl⟩ ak | exact ae ⟨rfl,by walk_at "blk_vis",⟨rfl,rfl⟩,rfl⟩ (ae ⟨rfl,by walk_at "blk_vis",⟨rfl,rfl⟩,rfl⟩ ak) | exact ae ⟨rfl,by walk_at "blk_vis",⟨rfl,rfl⟩,rfl⟩ (ae ⟨rfl,by walk_at "blk_vis",⟨rfl,rfl⟩,rfl⟩ (ae ⟨rfl,by walk_at "blk_vis",⟨rfl,rfl⟩,rfl⟩ ak))),
 by (first | exact ak | exact ae rfl ak | exact ae rfl (ae rfl ak) | exact ae rfl (ae rfl (ae rfl ak)))⟩)
local macro_rules | `(tactic| walk_at "side")=>`(tactic| first | assumption | exact (show (0:Int) < _ by decide) | exact gP (by decide) (by decide) | exact gQ (by decide) (by decide) | exact mulL (by decide) (by decide))
local macro_rules | `(tactic| walk_at "seq")=>`(tactic| first | assumption | exact SqT.of (by assumption))
theorem all_mk {l:PySem.W.OpenLaw} {w:World} {K:PySem.W.Frag} {h:Heap} {mg:Str→Option Value} {fa:Addr} (X:K.In h) (G:h.Ns mainGlobals mg) (Bm:mg "law" = some (.ref fa))
  {aO ck dR dQ cG cI cY cJ cE eO b4 cX cW aw cF cV:Addr}
  (e_MapError:PySem.W.nsIn K mainGlobals "MapError" = some (some (.ref aO)))
  (e_NoNumber:PySem.W.nsIn K mainGlobals "NoNumber" = some (some (.ref ck)))
  (e_NoOne:PySem.W.nsIn K mainGlobals "NoOne" = some (some (.ref dR)))
  (e_NoTie:PySem.W.nsIn K mainGlobals "NoTie" = some (some (.ref dQ)))
  (e_NoOther:PySem.W.nsIn K mainGlobals "NoOther" = some (some (.ref cG)))
  (e_NoNames:PySem.W.nsIn K mainGlobals "NoNames" = some (some (.ref cI)))
  (e_NoLand:PySem.W.nsIn K mainGlobals "NoLand" = some (some (.ref cY)))
  (e_NoFrame:PySem.W.nsIn K mainGlobals "NoFrame" = some (some (.ref cJ)))
  (e_NoThree:PySem.W.nsIn K mainGlobals "NoThree" = some (some (.ref cE)))
  (e_Flat:PySem.W.nsIn K mainGlobals "Flat" = some (some (.ref eO)))
  (e_NotInside:PySem.W.nsIn K mainGlobals "NotInside" = some (some (.ref b4)))
  (e_NoStep:PySem.W.nsIn K mainGlobals "NoStep" = some (some (.ref cX)))
  (e_NoText:PySem.W.nsIn K mainGlobals "NoText" = some (some (.ref cW)))
  (e_NoMap:PySem.W.nsIn K mainGlobals "NoMap" = some (some (.ref aw)))
  (e_NoSheet:PySem.W.nsIn K mainGlobals "NoSheet" = some (some (.ref cF)))
  (e_Parted:PySem.W.nsIn K mainGlobals "Parted" = some (some (.ref cV)))
  {f0:Addr} {Ai Ce:Option Addr} {zh:Array (Option Value)} {Au AQ BM zT yl BZ:Value}
  (a0:PySem.W.nsIn K mainGlobals "is_wrong" = some (some (.ref f0))) (l0:K.lookup f0 = some ⟨Au,Ai,.func (PySem.W.fnOf "is_wrong" "is_wrong" (aR bx) (aC bx) (ai bx) .none AQ BM zT Ce yl BZ),zh⟩) (c0:PySem.W.codeIn K yl "is_wrong" = true) (k0:PySem.W.keepIn K (.ref f0) = true)
  {f1:Addr} {Ah Cd:Option Addr} {zg:Array (Option Value)} {As AO BL zS yk BY:Value}
  (a1:PySem.W.nsIn K mainGlobals "looked" = some (some (.ref f1))) (l1:K.lookup f1 = some ⟨As,Ah,.func (PySem.W.fnOf "looked" "looked" (aR bS) (aC bS) (ai bS) .none AO BL zS Cd yk BY),zg⟩) (c1:PySem.W.codeIn K yk "looked" = true) (k1:PySem.W.keepIn K (.ref f1) = true)
  {f2:Addr} {Ag Cc:Option Addr} {oQ:Array (Option Value)} {Ar AN BK zR yj BX:Value}
  (a2:PySem.W.nsIn K mainGlobals "_law_cell_at" = some (some (.ref f2))) (l2:K.lookup f2 = some ⟨Ar,Ag,.func (PySem.W.fnOf "_law_cell_at" "_law_cell_at" (aR aG) (aC aG) (ai aG) .none AN BK zR Cc yj BX),oQ⟩) (c2:PySem.W.codeIn K yj "_law_cell_at" = true) (k2:PySem.W.keepIn K (.ref f2) = true)
  {f3:Addr} {Af Cb:Option Addr} {rJ:Array (Option Value)} {Aq AM BJ zQ yi BW:Value}
  (a3:PySem.W.nsIn K mainGlobals "_law_whole" = some (some (.ref f3))) (l3:K.lookup f3 = some ⟨Aq,Af,.func (PySem.W.fnOf "_law_whole" "_law_whole" (aR aT) (aC aT) (ai aT) .none AM BJ zQ Cb yi BW),rJ⟩) (c3:PySem.W.codeIn K yi "_law_whole" = true) (k3:PySem.W.keepIn K (.ref f3) = true)
  {f4:Addr} {Ae Ca:Option Addr} {zf:Array (Option Value)} {Ap AL wj zP yh BV:Value}
  (a4:PySem.W.nsIn K mainGlobals "_law_block" = some (some (.ref f4))) (l4:K.lookup f4 = some ⟨Ap,Ae,.func (PySem.W.fnOf "_law_block" "_law_block" (aR aV) (aC aV) (ai aV) .none AL wj zP Ca yh BV),zf⟩) (c4:PySem.W.codeIn K yh "_law_block" = true) (k4:PySem.W.keepIn K (.ref f4) = true)
  {f5:Addr} {Ad B9:Option Addr} {ze:Array (Option Value)} {Ao AK wg zO yg BU:Value}
  (a5:PySem.W.nsIn K mainGlobals "_law_mixed" = some (some (.ref f5))) (l5:K.lookup f5 = some ⟨Ao,Ad,.func (PySem.W.fnOf "_law_mixed" "_law_mixed" (aR aU) (aC aU) (ai aU) .none AK wg zO B9 yg BU),ze⟩) (c5:PySem.W.codeIn K yg "_law_mixed" = true) (k5:PySem.W.keepIn K (.ref f5) = true)
  {f6:Addr} {Ac B8:Option Addr} {zd:Array (Option Value)} {An AJ we zN yf BS:Value}
  (a6:PySem.W.nsIn K mainGlobals "_law_any" = some (some (.ref f6))) (l6:K.lookup f6 = some ⟨An,Ac,.func (PySem.W.fnOf "_law_any" "_law_any" (aR bA) (aC bA) (ai bA) .none AJ we zN B8 yf BS),zd⟩) (c6:PySem.W.codeIn K yf "_law_any" = true) (k6:PySem.W.keepIn K (.ref f6) = true)
  {f7:Addr} {Ab B7:Option Addr} {zc:Array (Option Value)} {Am AI BI zM ye BR:Value}
  (a7:PySem.W.nsIn K mainGlobals "_law_strange" = some (some (.ref f7))) (l7:K.lookup f7 = some ⟨Am,Ab,.func (PySem.W.fnOf "_law_strange" "_law_strange" (aR aE) (aC aE) (ai aE) .none AI BI zM B7 ye BR),zc⟩) (c7:PySem.W.codeIn K ye "_law_strange" = true) (k7:PySem.W.keepIn K (.ref f7) = true)
  {f8:Addr} {Aa B6:Option Addr} {zb:Array (Option Value)} {Al AH BH zL yd BQ:Value}
  (a8:PySem.W.nsIn K mainGlobals "_law_spoiled" = some (some (.ref f8))) (l8:K.lookup f8 = some ⟨Al,Aa,.func (PySem.W.fnOf "_law_spoiled" "_law_spoiled" (aR aF) (aC aF) (ai aF) .none AH BH zL B6 yd BQ),zb⟩) (c8:PySem.W.codeIn K yd "_law_spoiled" = true) (k8:PySem.W.keepIn K (.ref f8) = true)
  {f9:Addr} {z9 B5:Option Addr} {za:Array (Option Value)} {Ak AG BG zK yc BP:Value}
  (a9:PySem.W.nsIn K mainGlobals "_law_due" = some (some (.ref f9))) (l9:K.lookup f9 = some ⟨Ak,z9,.func (PySem.W.fnOf "_law_due" "_law_due" (aR bz) (aC bz) (ai bz) .none AG BG zK B5 yc BP),za⟩) (c9:PySem.W.codeIn K yc "_law_due" = true) (k9:PySem.W.keepIn K (.ref f9) = true)
  {uj:Addr} {u9 wu:Option Addr} {uP:Array (Option Value)} {vb vo wm u5 sV wq:Value}
  (a10:PySem.W.nsIn K mainGlobals "_law_caught" = some (some (.ref uj))) (l10:K.lookup uj = some ⟨vb,u9,.func (PySem.W.fnOf "_law_caught" "_law_caught" (aR aN) (aC aN) (ai aN) .none vo wm u5 wu sV wq),uP⟩) (c10:PySem.W.codeIn K sV "_law_caught" = true) (k10:PySem.W.keepIn K (.ref uj) = true)
  {wa:Addr} {u7 sX:Option Addr} {uO:Array (Option Value)} {va sj sQ rX qJ sT:Value}
  (a11:PySem.W.nsIn K mainGlobals "law" = some (some (.ref wa))) (l11:K.lookup wa = some ⟨va,u7,.func (PySem.W.fnOf "law" "law" (aR dD) (aC dD) (ai dD) .none sj sQ rX sX qJ sT),uO⟩) (c11:PySem.W.codeIn K qJ "law" = true) (k11:PySem.W.keepIn K (.ref wa) = true)
  (z0:PySem.W.nsIn K mainGlobals "len" = some none)
  (z1:PySem.W.nsIn K mainGlobals "isinstance" = some none)
  (z2:PySem.W.nsIn K mainGlobals "int" = some none)
  (z3:PySem.W.nsIn K mainGlobals "bool" = some none)
  (z4:PySem.W.nsIn K mainGlobals "range" = some none)
  (z5:PySem.W.nsIn K mainGlobals "min" = some none)
  (z6:PySem.W.nsIn K mainGlobals "set" = some none)
  (z7:PySem.W.nsIn K mainGlobals "list" = some none)
  (z8:PySem.W.nsIn K mainGlobals "ValueError" = some none)
  (t1_NoMap:PySem.W.findIn K (.ref aw) "__getattribute__" = some (some (.builtin "BaseException.__getattribute__"))) (t7_NoMap:PySem.W.findIn K (.ref aw) "__getattr__" = some none) (t8_NoMap:PySem.W.mroIn K aw (.type "BaseException") = some true) {mT:ClassData} (t2_NoMap:PySem.W.clsIn K aw = some mT) (t3_NoMap:PySem.W.findIn K (.ref aw) "__class__" = some (some (.builtin "object.__class__"))) (t6_NoMap:PySem.W.mroIn K aw (.type "object") = some true)
  (t4:PySem.W.specialIn K (.builtin "object.__class__") "__get__" = some (some (.builtin "getset_descriptor.__get__"))) (t5:PySem.W.takesIn K (.builtin "object.__class__") = some true)
  (f_m1:PySem.W.exmOne K (.ref aw) (.ref aO) = some true)
  (f_m2:PySem.W.kitOne K (.ref aw) (.ref aw) = some true)
  (f_m3:PySem.W.kitAny K (.ref aw) [.ref eO,.ref cJ,.ref cY,.ref cI,.ref ck,.ref dR] = some false)
  (f_m4:PySem.W.kitAny K (.ref aw) [.ref cG,.ref cF,.ref cE,.ref dQ,.ref b4,.ref cV,.ref cX,.ref cW] = some false)
  (f_m5:PySem.W.kitOne K (.ref aw) (.type "ValueError") = some true)
  (f_n3:PySem.W.kitAny K (.type "NoneType") [.ref eO,.ref cJ,.ref cY,.ref cI,.ref ck,.ref dR] = some false)
  (f_n4:PySem.W.kitAny K (.type "NoneType") [.ref cG,.ref cF,.ref cE,.ref dQ,.ref b4,.ref cV,.ref cX,.ref cW] = some false)
  (x_MapError:PySem.W.excIn K aO [.type "ValueError",.type "Exception",.type "BaseException",.type "object"] "ValueError.__new__" = true)
  (b1:PySem.W.readsIn K aO (.type "type") = true) (b2:PySem.W.specialIn K (.ref aO) "__getattribute__" = some (some (.builtin "type.__getattribute__"))) (b3:PySem.W.findCls K (.ref aO) (.type "type") "__init__" = some (.val (.builtin "ValueError.__init__")))
  {nm_NoMap lP:Str} {dW cu:Addr} {mZ jW:List Value} {kX:List Str} {m9:Bool} {kn:Option Bool} {mO lX m8:Option Addr} {mz my mx mw mv:Option Value} {kY:Array (Option Value)} {lY mr mP lS gc mQ:Value}
  (lk_NoMap:K.lookup aw = some (excClassObj nm_NoMap lP aw dW mZ (.ref aO :: yC) true kX jW m9 kn mO mz my mx mw mv "ValueError.__new__"))
  (i1_NoMap:PySem.W.findIn K (.ref aw) "__init__" = some (some (.ref cu))) (i2_NoMap:PySem.W.typeIn K (.ref cu) = some (.type "function")) (i3_NoMap:PySem.W.keepIn K (.ref aw) = true) (i4_NoMap:PySem.W.findIn K (.ref aw) "__setattr__" = some (some (.builtin "object.__setattr__"))) (i5_NoMap:PySem.W.mroIn K aw (.type "object") = some true) (i6_NoMap:PySem.W.findIn K (.ref aw) "place" = some none) (i7_NoMap:PySem.W.hasDictIn K aw = true)
  (li_NoMap:K.lookup cu = some ⟨lY,lX,.func (PySem.W.fnOf "__init__" "NoMap.__init__" (aR bh) (aC bh) (ai bh) .none mr mP lS m8 gc mQ),kY⟩) (ci_NoMap:PySem.W.codeIn K gc "NoMap.__init__" = true) (ki_NoMap:PySem.W.keepIn K (.ref cu) = true)
  : ∃ fd:FuncData,(∀ (s:Shared) (v:Value),BindsTo s fd ⟨[v],[]⟩ [("_law_script",v)])∧∀ base:Heap,K.In base→base.Ns mainGlobals mg→dZ l.prog w K mg base (b6 l.prog w) 10 fa fd ["_law_script"] (gs K):=by
 have e:=Bm.symm.trans (PySem.W.mg_of X G a11)
 cases e
 have T:Txt K mg ⟨aO,ck,dR,dQ,cG,cI,cY,cJ,cE,eO,b4,cX,cW,aw,cF,cV⟩:=⟨PySem.W.mg_none_of X G z0,PySem.W.mg_none_of X G z1,PySem.W.mg_none_of X G z2,PySem.W.mg_none_of X G z3,PySem.W.mg_none_of X G z4,PySem.W.mg_none_of X G z5,PySem.W.mg_none_of X G z6,PySem.W.mg_none_of X G z7,PySem.W.mg_none_of X G z8,PySem.W.mg_of X G e_MapError,PySem.W.mg_of X G e_NoNumber,PySem.W.mg_of X G e_NoOne,PySem.W.mg_of X G e_NoTie,PySem.W.mg_of X G e_NoOther,PySem.W.mg_of X G e_NoNames,PySem.W.mg_of X G e_NoLand,PySem.W.mg_of X G e_NoFrame,PySem.W.mg_of X G e_NoThree,PySem.W.mg_of X G e_Flat,PySem.W.mg_of X G e_NotInside,PySem.W.mg_of X G e_NoStep,PySem.W.mg_of X G e_NoText,PySem.W.mg_of X G e_NoMap,PySem.W.mg_of X G e_NoSheet,PySem.W.mg_of X G e_Parted,⟨t1_NoMap,t7_NoMap,t8_NoMap,by rw [t2_NoMap]; rfl,t3_NoMap,t4,t5,t6_NoMap⟩,f_m1,f_m2,f_m3,f_m4,f_m5,f_n3,f_n4,i7_NoMap,i6_NoMap⟩
 have D0:Def K mg "is_wrong" bx ["orders", "place"]:=⟨⟨f0,_,aJ (st:=bx) l0 c0 k0,PySem.W.mg_of X G a0,(aJ (st:=bx) l0 c0 k0).binds (ps:=["orders", "place"]) fun _ _ _ _ _ _ us hl=>match us,hl with | [_,_],_=>rfl⟩⟩
 have D1:Def K mg "looked" bS ["orders"]:=⟨⟨f1,_,aJ (st:=bS) l1 c1 k1,PySem.W.mg_of X G a1,(aJ (st:=bS) l1 c1 k1).binds (ps:=["orders"]) fun _ _ _ _ _ _ us hl=>match us,hl with | [_],_=>rfl⟩⟩
 have D2:Def K mg "_law_cell_at" aG ["_law_script", "_law_k"]:=⟨⟨f2,_,aJ (st:=aG) l2 c2 k2,PySem.W.mg_of X G a2,(aJ (st:=aG) l2 c2 k2).binds (ps:=["_law_script", "_law_k"]) fun _ _ _ _ _ _ us hl=>match us,hl with | [_,_],_=>rfl⟩⟩
 have D3:Def K mg "_law_whole" aT ["_law_found"]:=⟨⟨f3,_,aJ (st:=aT) l3 c3 k3,PySem.W.mg_of X G a3,(aJ (st:=aT) l3 c3 k3).binds (ps:=["_law_found"]) fun _ _ _ _ _ _ us hl=>match us,hl with | [_],_=>rfl⟩⟩
 have D4:Def K mg "_law_block" aV ["_law_script", "_law_k"]:=⟨⟨f4,_,aJ (st:=aV) l4 c4 k4,PySem.W.mg_of X G a4,(aJ (st:=aV) l4 c4 k4).binds (ps:=["_law_script", "_law_k"]) fun _ _ _ _ _ _ us hl=>match us,hl with | [_,_],_=>rfl⟩⟩
 have D5:Def K mg "_law_mixed" aU ["_law_script", "_law_k"]:=⟨⟨f5,_,aJ (st:=aU) l5 c5 k5,PySem.W.mg_of X G a5,(aJ (st:=aU) l5 c5 k5).binds (ps:=["_law_script", "_law_k"]) fun _ _ _ _ _ _ us hl=>match us,hl with | [_,_],_=>rfl⟩⟩
 have D6:Def K mg "_law_any" bA ["_law_script", "_law_start", "_law_many"]:=⟨⟨f6,_,aJ (st:=bA) l6 c6 k6,PySem.W.mg_of X G a6,(aJ (st:=bA) l6 c6 k6).binds (ps:=["_law_script", "_law_start", "_law_many"]) fun _ _ _ _ _ _ us hl=>match us,hl with | [_,_,_],_=>rfl⟩⟩
 have D7:Def K mg "_law_strange" aE ["_law_caught_here"]:=⟨⟨f7,_,aJ (st:=aE) l7 c7 k7,PySem.W.mg_of X G a7,(aJ (st:=aE) l7 c7 k7).binds (ps:=["_law_caught_here"]) fun _ _ _ _ _ _ us hl=>match us,hl with | [_],_=>rfl⟩⟩
 have D8:Def K mg "_law_spoiled" aF ["_law_orders", "_law_number", "_law_far"]:=⟨⟨f8,_,aJ (st:=aF) l8 c8 k8,PySem.W.mg_of X G a8,(aJ (st:=aF) l8 c8 k8).binds (ps:=["_law_orders", "_law_number", "_law_far"]) fun _ _ _ _ _ _ us hl=>match us,hl with | [_,_,_],_=>rfl⟩⟩
 have D9:Def K mg "_law_due" bz ["_law_orders"]:=⟨⟨f9,_,aJ (st:=bz) l9 c9 k9,PySem.W.mg_of X G a9,(aJ (st:=bz) l9 c9 k9).binds (ps:=["_law_orders"]) fun _ _ _ _ _ _ us hl=>match us,hl with | [_],_=>rfl⟩⟩
 have CK:Def K mg "_law_caught" aN ["_law_orders"]:=⟨⟨uj,_,aJ (st:=aN) l10 c10 k10,PySem.W.mg_of X G a10,(aJ (st:=aN) l10 c10 k10).binds (ps:=["_law_orders"]) fun _ _ _ _ _ _ us hl=>match us,hl with | [_],_=>rfl⟩⟩
 refine ⟨PySem.W.fnOf "law" "law" (aR dD) (aC dD) (ai dD) .none sj sQ rX sX qJ sT,fun s v=>.of_eq rfl,fun base hK hG=>?_⟩
 have iF:kB K aw aO cu "place":=⟨nX lk_NoMap x_MapError,i1_NoMap,i2_NoMap,i3_NoMap,i4_NoMap,i5_NoMap,i6_NoMap,i7_NoMap,b1,b2,b3⟩
 have iJ:tm l.prog w K mg base (b6 l.prog w) 1 aw aO "place" ["self", "place"]:=⟨⟨cu,_,iF,fA (aJ (st:=bh) li_NoMap ci_NoMap ki_NoMap) iF T,(aJ (st:=bh) li_NoMap ci_NoMap ki_NoMap).binds (ps:=["self", "place"]) fun _ _ _ _ _ _ us hl=>match us,hl with | [_,_],_=>rfl⟩⟩
 have jm:=h9 (P:=l.prog) (w:=w) (base:=base) D0 T
 have iK:=j4 (P:=l.prog) (w:=w) (base:=base) D1 T jm iJ
 have fu:=eD (P:=l.prog) (w:=w) (base:=base) D2 T
 have gU:=fB (P:=l.prog) (w:=w) (base:=base) D3 T
 have gW:=fE (P:=l.prog) (w:=w) (base:=base) D4 T
 have dY:=fD (P:=l.prog) (w:=w) (base:=base) D5 T gW
 have jq:=ib (P:=l.prog) (w:=w) (base:=base) D6 T dY
 have fq:=eB (P:=l.prog) (w:=w) (base:=base) D7 T
 have ft:=eC (P:=l.prog) (w:=w) (base:=base) D8 T
 have jo:=ia (P:=l.prog) (w:=w) (base:=base) D9 T
 have fM:=e8 (P:=l.prog) (w:=w) (base:=base) CK T iK
 exact p7 (aJ (st:=dD) l11 c11 k11) T iK fu gU dY jq fq ft jo fM iJ
theorem walk {l:PySem.W.OpenLaw} {q:Program} {loose:List Str} {XP:(Str→Option Value)→Heap→Prop} {YP:World→Heap→Prop} {d:DefRec} {K:Params→PySem.W.Frag} (hn:l.most = some 63) (qy:d.params.defaults = [])
  (hY:∀ (w:World) (h:Heap),YP w h→(K w.params).In h)
  (F:∀ (w:World) (mg:Str→Option Value) (fa:Addr) (h:Heap),(K w.params).In h→h.Ns mainGlobals mg→mg d.name = some (.ref fa)→
   ∃ fd:FuncData,(∀ (s:Shared) (u:Value),BindsTo s fd ⟨[u],[]⟩ [("_law_script",u)])∧∀ base:Heap,(K w.params).In base→base.Ns mainGlobals mg→dZ l.prog w (K w.params) mg base (b6 l.prog w) 10 fa fd ["_law_script"] (gs (K w.params))) :
  PySem.W.WalkO q loose XP YP l.row.toRowW d [] (fun f vs=>PySem.call f vs):=
 L2.ny (n:=63) (k:=10) (x:= "_law_script") (CX:=fun w=>b6 l.prog w) (sp:=fun w=>gs (K w.params)) hn (by decide) qy ⟨rfl,by decide,by decide⟩ hY F (fun _ _ a ns hl _ hS=>⟨a,ns,rfl,hS,hl,fun _=>rfl⟩) fun _ _ _ _ _ z=>kh z
end qP
theorem PySem.W.Fast.tw6178628534305265773:True:=trivial
theorem PySem.W.Fast.tw16269156917700018499:True:=trivial
theorem PySem.W.Fast.tw10551594888111059428:True:=trivial
theorem PySem.W.Fast.tw17174677069969646874:True:=trivial
theorem PySem.W.Fast.tw38502544852188363:True:=trivial
theorem PySem.W.Fast.tw18248149535881111229:True:=trivial
theorem PySem.W.Fast.tw1778124430271685547:True:=trivial
theorem PySem.W.Fast.tw9056431785650823840:True:=trivial
theorem PySem.W.Fast.tw1299335871360063728:True:=trivial
theorem PySem.W.Fast.tw12100020358721077012:True:=trivial
theorem PySem.W.Fast.tw10925879864812574475:True:=trivial
theorem PySem.W.Fast.tw3930921281415727508:True:=trivial
theorem PySem.W.Fast.tw18151003477462617297:True:=trivial
theorem PySem.W.Fast.tw17352054985160981695:True:=trivial
theorem PySem.W.Fast.tw4489218409965569170:True:=trivial
theorem PySem.W.Fast.tw8919927591147692777:True:=trivial
theorem PySem.W.Fast.tw17446050974189633957:True:=trivial
theorem PySem.W.Fast.tw17695203316837442690:True:=trivial
theorem PySem.W.Fast.tw16560203583013440310:True:=trivial
theorem PySem.W.Fast.tw6541745225942289044:True:=trivial
theorem PySem.W.Fast.tw13403495556576899717:True:=trivial
theorem PySem.W.Fast.tw6215970374862338615:True:=trivial
theorem PySem.W.Fast.tw9865119201615202121:True:=trivial
theorem PySem.W.Fast.tw17543488571367944825:True:=trivial
theorem PySem.W.Fast.tw16809953020487892805:True:=trivial
theorem PySem.W.Fast.tw10704449858621180825:True:=trivial
theorem PySem.W.Fast.tw972813770091970286:True:=trivial
theorem PySem.W.Fast.tw13395816019265786661:True:=trivial
theorem PySem.W.Fast.tw11902098661815688316:True:=trivial
theorem PySem.W.Fast.tw11441984776894934902:True:=trivial
theorem PySem.W.Fast.tw1690637230513667953:True:=trivial
theorem PySem.W.Fast.tw871552683824927934:True:=trivial
theorem PySem.W.Fast.tw12665874952118793117:True:=trivial
theorem PySem.W.Fast.tw6982785916846239999:True:=trivial
theorem PySem.W.Fast.tw428261038378689928:True:=trivial
theorem PySem.W.Fast.tw15287981134899335499:True:=trivial
theorem PySem.W.Fast.tw12301371398192959593:True:=trivial
theorem PySem.W.Fast.tw2561360359035235843:True:=trivial
theorem PySem.W.Fast.tw3841320210536509006:True:=trivial
theorem PySem.W.Fast.tw3085898622156821876:True:=trivial
theorem PySem.W.Fast.tw5580367687732002834:True:=trivial
open PySem PySem.W PyProof.Rows
set_option maxRecDepth 100000 in
set_option maxHeartbeats 0 in
theorem PySem.Challenge.cw_standup_k11_what_is_no_map_holds : PySem.Challenge.rw_standup_k11_what_is_no_map.Holds := by
 w_on; o_law; k_head; (case hw=>w_witness2)
 k_fill
 refine qP.walk (l:=PySem.Challenge.rw_standup_k11_what_is_no_map) rfl rfl (fun w h Y=>PySem.W.kIn_of Y) ?F
 case F=>
  intro w mg fa h KX G sD
  refine' qP.all_mk KX G sD ?e_MapError ?e_NoNumber ?e_NoOne ?e_NoTie ?e_NoOther ?e_NoNames ?e_NoLand ?e_NoFrame ?e_NoThree ?e_Flat ?e_NotInside ?e_NoStep ?e_NoText ?e_NoMap ?e_NoSheet ?e_Parted ?a0 ?l0 ?c0 ?k0 ?a1 ?l1 ?c1 ?k1 ?a2 ?l2 ?c2 ?k2 ?a3 ?l3 ?c3 ?k3 ?a4 ?l4 ?c4 ?k4 ?a5 ?l5 ?c5 ?k5 ?a6 ?l6 ?c6 ?k6 ?a7 ?l7 ?c7 ?k7 ?a8 ?l8 ?c8 ?k8 ?a9 ?l9 ?c9 ?k9 ?a10 ?l10 ?c10 ?k10 ?a11 ?l11 ?c11 ?k11 ?z0 ?z1 ?z2 ?z3 ?z4 ?z5 ?z6 ?z7 ?z8 ?t1_NoMap ?t7_NoMap ?t8_NoMap ?t2_NoMap ?t3_NoMap ?t6_NoMap ?t4 ?t5 ?f_m1 ?f_m2 ?f_m3 ?f_m4 ?f_m5 ?f_n3 ?f_n4 ?x_MapError ?b1 ?b2 ?b3 ?lk_NoMap ?i1_NoMap ?i2_NoMap ?i3_NoMap ?i4_NoMap ?i5_NoMap ?i6_NoMap ?i7_NoMap ?li_NoMap ?ci_NoMap ?ki_NoMap
  (case e_MapError=>k_is)
  (case e_NoNumber=>k_is)
  (case e_NoOne=>k_is)
  (case e_NoTie=>k_is)
  (case e_NoOther=>k_is)
  (case e_NoNames=>k_is)
  (case e_NoLand=>k_is)
  (case e_NoFrame=>k_is)
  (case e_NoThree=>k_is)
  (case e_Flat=>k_is)
  (case e_NotInside=>k_is)
  (case e_NoStep=>k_is)
  (case e_NoText=>k_is)
  (case e_NoMap=>k_is)
  (case e_NoSheet=>k_is)
  (case e_Parted=>k_is)
  (case a0=>k_is)
  (case l0=>k_is)
  (case c0=>k_is)
  (case k0=>k_is)
  (case a1=>k_is)
  (case l1=>k_is)
  (case c1=>k_is)
  (case k1=>k_is)
  (case a2=>k_is)
  (case l2=>k_is)
  (case c2=>k_is)
  (case k2=>k_is)
  (case a3=>k_is)
  (case l3=>k_is)
  (case c3=>k_is)
  (case k3=>k_is)
  (case a4=>k_is)
  (case l4=>k_is)
  (case c4=>k_is)
  (case k4=>k_is)
  (case a5=>k_is)
  (case l5=>k_is)
  (case c5=>k_is)
  (case k5=>k_is)
  (case a6=>k_is)
  (case l6=>k_is)
  (case c6=>k_is)
  (case k6=>k_is)
  (case a7=>k_is)
  (case l7=>k_is)
  (case c7=>k_is)
  (case k7=>k_is)
  (case a8=>k_is)
  (case l8=>k_is)
  (case c8=>k_is)
  (case k8=>k_is)
  (case a9=>k_is)
  (case l9=>k_is)
  (case c9=>k_is)
  (case k9=>k_is)
  (case a10=>k_is)
  (case l10=>k_is)
  (case c10=>k_is)
  (case k10=>k_is)
  (case a11=>k_is)
  (case l11=>k_is)
  (case c11=>k_is)
  (case k11=>k_is)
  (case z0=>k_is)
  (case z1=>k_is)
  (case z2=>k_is)
  (case z3=>k_is)
  (case z4=>k_is)
  (case z5=>k_is)
  (case z6=>k_is)
  (case z7=>k_is)
  (case z8=>k_is)
  (case t1_NoMap=>k_is)
  (case t7_NoMap=>k_is)
  (case t8_NoMap=>k_is)
  (case t2_NoMap=>k_is)
  (case t3_NoMap=>k_is)
  (case t6_NoMap=>k_is)
  (case t4=>k_is)
  (case t5=>k_is)
  (case f_m1=>kts_exm)
  (case f_m2=>kit_is)
  (case f_m3=>kit_is)
  (case f_m4=>kit_is)
  (case f_m5=>kit_is)
  (case f_n3=>kit_is)
  (case f_n4=>kit_is)
  (case x_MapError=>k_exc)
  (case b1=>k_is)
  (case b2=>k_is)
  (case b3=>k_is)
  (case lk_NoMap=>k_is)
  (case i1_NoMap=>k_is)
  (case i2_NoMap=>k_is)
  (case i3_NoMap=>k_is)
  (case i4_NoMap=>k_is)
  (case i5_NoMap=>k_is)
  (case i6_NoMap=>k_is)
  (case i7_NoMap=>k_is)
  (case li_NoMap=>k_is)
  (case ci_NoMap=>k_is)
  (case ki_NoMap=>k_is)
