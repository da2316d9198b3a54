import PyProof.Rows.All
import Wide.All
import OpenK.AllK
import Wide.FinOn
import Lean
import PyProof.EqAt
import PyProof.EqKinds
import PyProof.TupleCall
import KE.KRevIter
import KE.KIntText
import KE.KDictList
import PySem.Challenge.RW_standup_k25_whole_others_of_others
set_option Elab.async false
set_option linter.all false
set_option maxRecDepth 100000
set_option maxHeartbeats 4000000
namespace L2
open PySem PySem.Spec PyProof.Rows
abbrev Key:=Sum Int Str
def ox:Key→Value→Bool
 | .inl k,v=>Value.isInt k v
 | .inr x,v=>Value.isStrOf x v
def Nj (w:World):Key→Int
 | .inl k=>hashInt k
 | .inr x=>hashStr w x
theorem cf:∀ {k:Key} {v:Value},ox k v = true→(∃ i t,k = Sum.inl i∧v = Value.int i t)∨(∃ x t,k = Sum.inr x∧v = Value.str x t)
 | .inl i,v,h=>by
  obtain ⟨t,e⟩:=Value.isInt_shape (k:=i) (v:=v) h
  exact .inl ⟨i,t,rfl,e⟩
 | .inr x,v,h=>by
  obtain ⟨t,e⟩:=Value.isStrOf_shape (x:=x) (v:=v) h
  exact .inr ⟨x,t,rfl,e⟩
theorem xg (i:Int) (t:Tok):ox (.inl i) (.int i t) = true:=by simp [ox,Value.isInt]
theorem xf (x:Str) (t:Tok):ox (.inr x) (.str x t) = true:=by simp [ox,Value.isStrOf]
theorem Ei (a b:Int):decide ((Sum.inl a:Key) = Sum.inl b) = (a == b):=by
 by_cases e:a = b
 ·subst e; simp
 ·have h:¬ (Sum.inl a:Key) = Sum.inl b:=fun q=>e (Sum.inl.inj q)
  rw [decide_eq_false h]
  exact (beq_eq_false_iff_ne.mpr e).symm
theorem Ef (a b:Str):decide ((Sum.inr a:Key) = Sum.inr b) = decide (a = b):=by
 by_cases e:a = b
 ·subst e; simp
 ·have h:¬ (Sum.inr a:Key) = Sum.inr b:=fun q=>e (Sum.inr.inj q)
  rw [decide_eq_false h,decide_eq_false e]
theorem Eh (a:Int) (b:Str):decide ((Sum.inl a:Key) = Sum.inr b) = false:=decide_eq_false (fun q=>nomatch q)
theorem Eg (a:Str) (b:Int):decide ((Sum.inr a:Key) = Sum.inl b) = false:=decide_eq_false (fun q=>nomatch q)
def cE (prog:Program) (w:World):PySem.KeyKind prog w Key where
 is:=ox
 hash:=Nj w
 inj:=fun v a b ha hb=>by
  rcases cf ha with ⟨i,t,rfl,rfl⟩ | ⟨x,t,rfl,rfl⟩
  ·rcases cf hb with ⟨j,u,rfl,e⟩ | ⟨y,u,rfl,e⟩
   ·injection e with e1 _; rw [e1]
   ·exact nomatch e
  ·rcases cf hb with ⟨j,u,rfl,e⟩ | ⟨y,u,rfl,e⟩
   ·exact nomatch e
   ·injection e with e1 _; rw [e1]
 byValue:=fun k v h=>by
  rcases cf h with ⟨i,t,rfl,rfl⟩ | ⟨x,t,rfl,rfl⟩ <;> rfl
 pyHash:=fun hv h=>by
  rcases cf hv with ⟨i,t,rfl,rfl⟩ | ⟨x,t,rfl,rfl⟩
  ·exact wpAny_pyHash_int h
  ·exact wpAny_pyHash_str h
 eqBool:=fun hu hv h=>by
  rcases cf hu with ⟨i,t,rfl,rfl⟩ | ⟨x,t,rfl,rfl⟩
  ·rcases cf hv with ⟨j,u,rfl,rfl⟩ | ⟨y,u,rfl,rfl⟩
   ·rw [Ei] at h; exact wpAny_eqBool_int h
   ·rw [Eh] at h; exact SeqAt.EqAt.int_str i t y u _ _ _ _ h
  ·rcases cf hv with ⟨j,u,rfl,rfl⟩ | ⟨y,u,rfl,rfl⟩
   ·rw [Eg] at h; exact SeqAt.EqAt.str_int x t j u _ _ _ _ h
   ·rw [Ef] at h; exact wpAny_eqBool_str h
 «strs»:=fun k x t v h=>by
  rcases cf h with ⟨i,u,rfl,e⟩ | ⟨y,u,rfl,e⟩
  ·exact nomatch e
  ·injection e with e1 _
   subst e1
   cases v <;> rfl
theorem sq (prog:Program) (w:World) (i:Int) (t:Tok):(cE prog w).is (.inl i) (.int i t) = true:=xg i t
theorem sk (prog:Program) (w:World) (x:Str) (t:Tok):(cE prog w).is (.inr x) (.str x t) = true:=xf x t
end L2
namespace L2
open PySem PySem.Spec PyProof.Rows
inductive V where
 | cV | bl (b:Bool) | int (i:Int) | str (x:Str) | tI (b:Array UInt8) | AB (b:UInt64) | ref (a:Addr) | ty (n:String)
 deriving DecidableEq
def RelV:V→Value→Prop
 | .cV,u=>u = Value.none
 | .bl b,u=>u = Value.bool b
 | .int i,u=>∃ t,u = Value.int i t
 | .str x,u=>∃ t,u = Value.str x t
 | .tI b,u=>∃ t,u = Value.bytes b t
 | .AB b,u=>∃ t,u = Value.float b t
 | .ref a,u=>u = Value.ref a
 | .ty n,u=>u = Value.type n
abbrev Vals:List V→List Value→Prop:=Paired RelV
theorem Vals.length {xs:List V} {us:List Value} (r:Vals xs us):xs.length = us.length:=Paired.length r
theorem Vals.get:∀ {xs:List V} {us:List Value} {i:Nat} {x:V},Vals xs us→xs[i]? = some x→∃ u,us[i]? = some u∧RelV x u
 | _,_,_,_,.nil,e=>by simp at e
 | _,_,0,_,.cons r _,e=>by simp at e; subst e; exact ⟨_,rfl,r⟩
 | _,_,i + 1,x,.cons _ t,e=>by
  obtain ⟨u,h1,h2⟩:=Vals.get (i:=i) (x:=x) t (by simpa using e)
  exact ⟨u,by simpa using h1,h2⟩
theorem Vals.set {x:V} {u:Value} (r:RelV x u):∀ {xs:List V} {us:List Value} (i:Nat),Vals xs us→Vals (xs.set i x) (us.set i u)
 | _,_,_,.nil=>.nil
 | _,_,0,.cons _ t=>.cons r t
 | _,_,i + 1,.cons q t=>.cons q (Vals.set r i t)
theorem Vals.append:∀ {xs ys:List V} {us ws:List Value},Vals xs us→Vals ys ws→Vals (xs ++ ys) (us ++ ws)
 | _,_,_,_,.nil,s=>s
 | _,_,_,_,.cons r t,s=>.cons r (Vals.append t s)
theorem Vals.take:∀ {xs:List V} {us:List Value} (n:Nat),Vals xs us→Vals (xs.take n) (us.take n)
 | _,_,0,_=>.nil
 | _,_,_ + 1,.nil=>.nil
 | _,_,n + 1,.cons r t=>.cons r (Vals.take n t)
theorem Vals.drop:∀ {xs:List V} {us:List Value} (n:Nat),Vals xs us→Vals (xs.drop n) (us.drop n)
 | _,_,0,r=>r
 | _,_,_ + 1,.nil=>.nil
 | _,_,n + 1,.cons _ t=>Vals.drop n t
def nH:Option V→Option Value→Prop
 | some v,some u=>RelV v u
 | none,none=>True
 | _,_=>False
def KV {κ : Type}:List (κ×V)→List (κ×Value)→Prop:=Paired fun (p : κ×V) (q : κ×Value)=>p.1 = q.1∧RelV p.2 q.2
def kV:Key→V
 | .inl i=>.int i
 | .inr x=>.str x
inductive HO where
 /-- a list -/
 | lst (xs:List V)
 /-- a tuple (never changes) -/
 | tup (xs:List V)
 /-- a dict FP keys are ints and texts; one FP keys are tuples of ints and texts (qT empty one is both) -/
 | dK (aI:List (Key×V)) | dT (aI:List (List Key×V))
 /-- a set of ints: aL members,aL size -/
 | set (S:Int→Bool) (n:Nat)
 /-- an instance of qT class at C,aL dict at dx,aL attributes -/
 | ins (C dx:Addr) (fs:List (Str×V))
 /-- qT dict of qT instance at x -/
 | own (x:Addr)
 /-- qT dict of an exception -/
 | xd (fs:List (Str×V))
 /-- a bound method,f of x -/
 | met (f x:Addr)
 /-- a range object lo,lo + 1,.. below hi -/
 | Jp (lo hi:Int)
 /-- a FX K0 is known to qT object (qT yg; a dict while a loop walks it): read,never written while it is so -/
 | tG (o:Obj) (u:HO)
 /-- a code object's table -/
 | Cv (ps:Array Value)
 /-- any other FX,by KQ is true of aL one object (a def of one's own: Ye a S n:=HO.ext fun h=>..) -/
 | ext (φ : Heap→Prop)
abbrev Hp:=Addr→Option HO
def upd (H:Hp) (a:Addr) (o:HO):Hp:=fun b=>if b = a then some o else H b
theorem ae {H:Hp} {a:Addr} {o:HO}:upd H a o a = some o:=by unfold upd; rw [if_pos rfl]
theorem ax {H:Hp} {a b:Addr} {o:HO} (h:b≠a):upd H a o b = H b:=by unfold upd; rw [if_neg h]
theorem GP {H:Hp} {a b:Addr} {o u:HO} (h:H a = some o) (h':H b = some u) (d:o≠u):a≠b:=by
 intro e; subst e; rw [h] at h'; exact d (Option.some.inj h')
theorem aA {H:Hp} {a b:Addr} {o:HO} (h:H a = some o) (h':H b = none):a≠b:=by
 intro e; subst e; rw [h] at h'; cases h'
section
variable (P:Program) (w:World)
def bP (H:Hp) (h:Heap) (a:Addr):HO→Prop
 | .lst xs=>xs.length≤sizeLine∧∃ (aL:List Value) (n:Nat),Vals xs aL∧h.get? a = some { cls:=.type "list",data:=.seq aL.toArray n }
 | .tup xs=>xs.length≤sizeLine∧∃ aL:List Value,Vals xs aL∧IsTup h a aL.toArray
 | .dK aI=>aI.length≤sizeLine∧(a == sysModules) = false∧∃ vs,KV aI vs∧h.DictOf (cE P w) a vs
 | .dT aI=>aI.length≤sizeLine∧(a == sysModules) = false∧∃ xs:List (List Key×Addr×Value),
   Paired (fun (p:List Key×V) (q:List Key×Addr×Value)=>p.1 = q.1∧H q.2.1 = some (.tup (p.1.map kV))∧RelV p.2 q.2.2) aI xs∧
   ∃ o es ep,h.get? a = some o∧o.ExactDict∧o.data = .dict es ep∧es.toList = xs.map (entryOfKey (tupleKind (cE P w)))∧(xs.map (·.1)).Nodup
 | .set S n=>h.SetOf (intKind P w) a S n
 | .ins C dx fs=>H dx = some (.own a)∧fs.length≤1000∧dx≠a∧h.get? a = some (PySem.W.instObj C dx)∧
   ∃ mA,h.Ns1 dx mA∧(∀ f,nH (fs.lookup f) (mA f))∧PySem.Within mA (fs.map (·.1))
 | .own _=>∃ o,h.get? a = some o
 | .xd fs=>∃ mA,h.Ns1 a mA∧∀ f,nH (fs.lookup f) (mA f)
 | .Jp lo hi=>∃ t u v,h.get? a = some { cls:=.type "range",data:=.fields #[.int lo t,.int hi u,.int 1 v] }
 | .tG o u=>h.get? a = some o∧bP H h a u
 | .Cv ps=>h.get? a = some { cls:=.none,data:=.fields ps }
 | .met f x=>h.get? a = some (PySem.W.methodObj (.ref f) (.ref x))
 | .ext φ=>φ h∧(∃ o,h.get? a = some o)∧∀ h1 h2:Heap,φ h1→(∀ o,h1.get? a = some o→h2.get? a = some o)→φ h2
def iG (H:Hp) (h:Heap):Prop:=∀ a o,H a = some o→bP P w H h a o
end
section
variable {P:Program} {w:World} {H H':Hp} {h h':Heap} {a:Addr} {o:HO}
theorem bP.lt (x:bP P w H h a o):a < h.objs.size:=by
 cases o with
 | lst xs=>obtain ⟨_,_,_,_,e⟩:=x; exact Heap.lt_size e
 | tup xs=>obtain ⟨_,_,_,p⟩:=x; exact p.lt
 | dK aI=>obtain ⟨_,_,_,_,o,_,_,e,_⟩:=x; exact Heap.lt_size e
 | dT aI=>obtain ⟨_,_,_,_,o,_,_,e,_⟩:=x; exact Heap.lt_size e
 | set S n=>obtain ⟨o,_,_,_,e,_⟩:=x; exact Heap.lt_size e
 | ins C dx fs=>obtain ⟨_,_,_,e,_⟩:=x; exact Heap.lt_size e
 | own y=>obtain ⟨_,e⟩:=x; exact Heap.lt_size e
 | xd fs=>obtain ⟨_,⟨_,_,_,e,_⟩,_⟩:=x; exact Heap.lt_size e
 | Jp lo hi=>obtain ⟨_,_,_,e⟩:=x; exact Heap.lt_size e
 | tG ob u=>obtain ⟨e,_⟩:=x; exact Heap.lt_size e
 | Cv ps=>exact Heap.lt_size (show h.get? a = some _ from x)
 | met f y=>exact Heap.lt_size (show h.get? a = some _ from x)
 | ext φ=>obtain ⟨_,⟨_,e⟩,_⟩:=x; exact Heap.lt_size e
theorem Paired.ki {α β : Type} {F G : α→β→Prop}:∀ {l₁ : List α} {l₂ : List β},Paired F l₁ l₂→(∀ a b,F a b→G a b)→Paired G l₁ l₂
 | _,_,.nil,_=>.nil
 | _,_,.cons r t,f=>.cons (f _ _ r) (Paired.ki t f)
theorem bP.iu (x:bP P w H h a o) (k:∀ b u,(b = a∨H b = some (.own a))→h.get? b = some u→h'.get? b = some u)
  (ho:∀ b,H b = some (.own a)→H' b = some (.own a)) (ht:∀ b xs,H b = some (.tup xs)→H' b = some (.tup xs)):bP P w H' h' a o:=by
 induction o with
 | lst xs=>obtain ⟨z,aL,n,r,e⟩:=x; exact ⟨z,aL,n,r,k _ _ (.inl rfl) e⟩
 | tup xs=>obtain ⟨z,aL,r,ob,e,c⟩:=x; exact ⟨z,aL,r,ob,k _ _ (.inl rfl) e,c⟩
 | dK aI=>obtain ⟨z,y,vs,r,ob,es,ep,e,c⟩:=x; exact ⟨z,y,vs,r,ob,es,ep,k _ _ (.inl rfl) e,c⟩
 | dT aI=>
  obtain ⟨z,y,xs,r,ob,es,ep,e,c⟩:=x
  exact ⟨z,y,xs,Paired.ki r fun p q z=>⟨z.1,ht _ _ z.2.1,z.2.2⟩,ob,es,ep,k _ _ (.inl rfl) e,c⟩
 | set S n=>obtain ⟨ob,es,ep,t,e,c⟩:=x; exact ⟨ob,es,ep,t,k _ _ (.inl rfl) e,c⟩
 | ins C dx fs=>
  obtain ⟨d,z,ne,e,mA,⟨od,es,ep,e2,c⟩,r⟩:=x
  exact ⟨ho _ d,z,ne,k _ _ (.inl rfl) e,mA,⟨od,es,ep,k _ _ (.inr d) e2,c⟩,r⟩
 | own y=>obtain ⟨ob,e⟩:=x; exact ⟨ob,k _ _ (.inl rfl) e⟩
 | xd fs=>obtain ⟨mA,⟨od,es,ep,e,c⟩,r⟩:=x; exact ⟨mA,⟨od,es,ep,k _ _ (.inl rfl) e,c⟩,r⟩
 | Jp lo hi=>obtain ⟨t,u,v,e⟩:=x; exact ⟨t,u,v,k _ _ (.inl rfl) e⟩
 | tG ob u ih=>obtain ⟨e,q⟩:=x; exact ⟨k _ _ (.inl rfl) e,ih q⟩
 | Cv ps=>
  have e:h.get? a = some { cls:=.none,data:=.fields ps }:=x
  show h'.get? a = some { cls:=.none,data:=.fields ps }
  exact k a _ (.inl rfl) e
 | met f y=>
  have e:h.get? a = some (PySem.W.methodObj (.ref f) (.ref y)):=x
  show h'.get? a = some (PySem.W.methodObj (.ref f) (.ref y))
  exact k a _ (.inl rfl) e
 | ext φ=>obtain ⟨p,⟨o,e⟩,st⟩:=x; exact ⟨st _ _ p fun o q=>k _ _ (.inl rfl) q,⟨o,k _ _ (.inl rfl) e⟩,st⟩
theorem iG.lt (x:iG P w H h) (e:H a = some o):a < h.objs.size:=(x a o e).lt
theorem iG.fresh (x:iG P w H h) (e:h.objs.size≤a):H a = none:=by
 cases q:H a with
 | none=>rfl
 | some u=>exact absurd (Nat.lt_of_lt_of_le (x.lt q) e) (Nat.lt_irrefl _)
theorem iG.kept (x:iG P w H h) (k:∀ b u,h.get? b = some u→h'.get? b = some u):iG P w H h':=fun a o e=>
 (x a o e).iu (fun b u _ q=>k b u q) (fun _ q=>q) fun _ _ q=>q
theorem iG.laid (x:iG P w H h) (k:∀ b u,h.get? b = some u→h'.get? b = some u) (hp:h.objs.size≤a) (new:bP P w (upd H a o) h' a o):iG P w (upd H a o) h':=fun b u e=>by
 have hn:=x.fresh hp
 by_cases hb:b = a
 ·subst hb; rw [ae] at e; cases e; exact new
 ·rw [ax hb] at e
  exact (x b u e).iu (fun c v _ q=>k c v q) (fun c q=>by rw [ax (aA q hn)]; exact q) fun c xs q=>by rw [ax (aA q hn)]; exact q
end
def Rd (H:Hp) (a:Addr) (u:HO):Prop:=H a = some u∨∃ o,H a = some (.tG o u)
theorem Rd.ok {P:Program} {w:World} {H:Hp} {h:Heap} {a:Addr} {u:HO} (r:Rd H a u) (x:iG P w H h):bP P w H h a u:=by
 rcases r with r | ⟨o,r⟩
 ·exact x a u r
 ·obtain ⟨_,q⟩:=x a _ r
  exact q
def IX:Option HO→Prop
 | some (.lst _)=>True
 | some (.dK _)=>True
 | some (.dT _)=>True
 | some (.set _ _)=>True
 | some (.ins _ _ _)=>True
 | some (.ext _)=>True
 | _=>False
section
variable {P:Program} {w:World} {H:Hp} {h h':Heap} {x e:Addr} {o':HO}
theorem iG.write (ok:iG P w H h) (mu:IX (H x)) (he:e = x∨H e = some (.own x)) (k:∀ b u,b≠e→h.get? b = some u→h'.get? b = some u) (FD:∃ u,h'.get? e = some u)
  (new:bP P w (upd H x o') h' x o'):iG P w (upd H x o') h':=fun b u q=>by
 have GL:∀ c y,H c = some (.own y)→c≠x:=fun c y r z=>by subst z; rw [r] at mu; exact mu
 have MX:∀ c xs,H c = some (.tup xs)→c≠x:=fun c xs r z=>by subst z; rw [r] at mu; exact mu
 by_cases hb:b = x
 ·subst hb; rw [ae] at q; cases q; exact new
 ·rw [ax hb] at q
  by_cases EH:b = e
  ·have q':H b = some (.own x):=by
    rcases he with z | z
    ·exact absurd (EH.trans z) hb
    ·rw [EH]; exact z
   rw [q] at q'; cases q'
   obtain ⟨v,hv⟩:=FD
   exact ⟨v,by rw [EH]; exact hv⟩
  ·refine (ok b u q).iu (fun c v hc r=>k c v ?_ r) (fun c r=>by rw [ax (GL c b r)]; exact r) fun c xs r=>by rw [ax (MX c xs r)]; exact r
   rcases hc with rfl | hc
   ·exact EH
   ·rintro rfl
    rcases he with z | z
    ·exact GL c b hc z
    ·rw [hc] at z; cases z; exact hb rfl
end
structure Un (fs ex:List Addr) (H H':Hp) (h h':Heap):Prop where
 keep:∀ b o,h.get? b = some o→H b = none→b∉fs→b∉ex→h'.get? b = some o
 slot:∀ b o,h.get? b = some o→H b = none→b∈fs→b∉ex→∃ sl,h'.get? b = some { o with slots:=sl }
 free:∀ b o,h.get? b = some o→H b = none→b∉ex→H' b = none
 there:∀ b o,h.get? b = some o→b∉ex→∃ o',h'.get? b = some o'
 oQ:∀ b xs,H b = some (.tup xs)→H' b = some (.tup xs)
 nC:∀ b o u,H b = some (.tG o u)→H' b = some (.tG o u)
 oR:∀ b ps,H b = some (.Cv ps)→∃ more,H' b = some (.Cv (ps ++ more))
section
variable {fs J3 ex ZD:List Addr} {H H1 H2:Hp} {h h1 h2 h':Heap} {a x e:Addr} {o:HO}
theorem Un.any (u:Un fs ex H H1 h h1) {b:Addr} {ob:Obj} (q:h.get? b = some ob) (n:H b = none) (hx:b∉ex):∃ sl,h1.get? b = some { ob with slots:=sl }:=by
 by_cases hb:b∈fs
 ·exact u.slot b ob q n hb hx
 ·exact ⟨ob.slots,u.keep b ob q n hb hx⟩
theorem Un.kept (k:∀ b u,h.get? b = some u→h'.get? b = some u):Un fs ex H H h h':=
 ⟨fun b ob q _ _ _=>k b ob q,fun b ob q _ _ _=>⟨ob.slots,k b ob q⟩,fun _ _ _ n _=>n,fun b ob q _=>⟨ob,k b ob q⟩,fun _ _ q=>q,fun _ _ _ q=>q,fun _ ps q=>⟨#[],by rw [q]; simp⟩⟩
theorem Un.refl:Un fs ex H H h h:=Un.kept fun _ _ q=>q
theorem Un.laid (k:∀ b u,h.get? b = some u→h'.get? b = some u) (hp:h.objs.size≤a) (hn:H a = none):Un fs ex H (upd H a o) h h' where
 keep:=fun b u q _ _ _=>k b u q
 slot:=fun b u q _ _ _=>⟨u.slots,k b u q⟩
 free:=fun b u q n _=>by rw [ax (Nat.ne_of_lt (Nat.lt_of_lt_of_le (Heap.lt_size q) hp))]; exact n
 there:=fun b u q _=>⟨u,k b u q⟩
 oQ:=fun b xs q=>by rw [ax (aA q hn)]; exact q
 nC:=fun b u xs q=>by rw [ax (aA q hn)]; exact q
 oR:=fun b ps q=>⟨#[],by rw [ax (aA q hn),q]; simp⟩
theorem Un.write (mu:IX (H x)) (he:e = x∨H e = some (.own x)) (k:∀ b u,b≠e→h.get? b = some u→h'.get? b = some u) (FD:∃ u,h'.get? e = some u):Un fs ex H (upd H x o) h h':=by
 have hx:∀ b,H b = none→b≠x:=fun b n z=>by subst z; rw [n] at mu; exact mu
 have hb:∀ b,H b = none→b≠e:=fun b n z=>by
  subst z
  rcases he with r | r
  ·exact hx b n r
  ·rw [n] at r; cases r
 have hm:∀ b u,H b = some u→¬ IX (some u)→b≠x:=fun b u q nm z=>by subst z; rw [q] at mu; exact nm mu
 refine ⟨fun b u q n _ _=>k b u (hb b n) q,fun b u q n _ _=>⟨u.slots,k b u (hb b n) q⟩,fun b u q n _=>by rw [ax (hx b n)]; exact n,fun b u q _=>?_,
  fun b xs q=>by rw [ax (hm b _ q fun z=>z)]; exact q,fun b u xs q=>by rw [ax (hm b _ q fun z=>z)]; exact q,fun b ps q=>⟨#[],by rw [ax (hm b _ q fun z=>z),q]; simp⟩⟩
 by_cases EH:b = e
 ·subst EH; exact FD
 ·exact ⟨u,k b u EH q⟩
end
def Jg (h:Heap) (H:Hp):List Addr:=(List.range h.objs.size).filter fun a=>(H a).isSome
def qg (h:Heap) (H:Hp):Heap:=PySem.W.hideAll h (Jg h H)
theorem xl (h:Heap) (H:Hp):(qg h H).objs.size = h.objs.size:=PySem.W.hideAll_size _ _
theorem zD {h:Heap} {H:Hp} {b:Addr} {o:Obj} (e:h.get? b = some o) (n:H b = none):(qg h H).get? b = some o:=
 PySem.W.hideAll_get _ e fun hm=>by
  have q:(H b).isSome = true:=(List.mem_filter.mp hm).2
  rw [n] at q; simp at q
theorem Br {h:Heap} {H:Hp} {b:Addr} {o:Obj} (e:(qg h H).get? b = some o):h.get? b = some o∧H b = none:=by
 have e':h.get? b = some o:=PySem.W.of_hideAll (Jg h H) e
 refine ⟨e',?_⟩
 cases q:H b with
 | none=>rfl
 | some x=>
  have hm:b∈Jg h H:=List.mem_filter.mpr ⟨List.mem_range.mpr (Heap.lt_size e'),by simp [q]⟩
  have z:(qg h H).get? b = none:=PySem.W.hideAll_none (Jg h H) hm
  rw [z] at e; cases e
def Cf (g h:Heap) (L:Addr):List (Addr×Obj):=(List.range h.objs.size).filterMap fun a=>if a = L∨(g.get? a).isSome = true then none else (h.get? a).map fun o=>(a,o)
def rest (g h:Heap) (L d:Addr):List (Addr×Obj):=(Cf g h L).filter fun p=>decide (p.1≠d)
end L2
namespace L2
open PySem PySem.Spec PyProof.Rows
structure Mod (K:PySem.W.Frag) (mg:Str→Option Value) (base:Heap):Prop where
 JK:K.In base
 glob:base.Ns mainGlobals mg
 blt:∃ mb,base.Ns builtinsNs mb∧∀ x:Str,x≠ "__name__"→mb x = bootBuiltins x
 nolimit:base.NoLimit
structure Cx where
 prog:Program
 w:World
 K:PySem.W.Frag
 mg:Str→Option Value
 base:Heap
 A:Around
 N:List Str
 s₀ : Shared
 H₀ : Hp
 env:Env
 outer:List Env
 stack:List Env
 ex:List Addr
 fn:Str→Bool
 calm:Bool
 pn:List (Addr×Obj)
 xe:Value→Shared→Prop
def iN (l:List Env):List Addr:=l.filterMap (·.frame)
abbrev Cx.fs (X:Cx):List Addr:=iN X.outer
def KD (sc:Scope) (x:Str):Prop:=sc.names.lookup x = some .local∨sc.names.lookup x = some .cell∨sc.names.lookup x = some .free
def Loc (sc:Scope) (x:Str):Prop:=sc.names.lookup x = some .local∨sc.names.lookup x = some .cell
def Look (env:Env) (h:Heap) (m:Str→Option Value) (x:Str) (u:Value):Prop:=
 (env.kindOf x = some .local∧m x = some u)∨((env.kindOf x = some .cell∨env.kindOf x = some .free)∧∃ c,env.cells.lookup x = some c∧h.IsCell c (some u))
structure Cx.Ok (X:Cx):Prop where
 mod:Mod X.K X.mg X.base
 kind:X.env.scope.kind = .function
 glob:X.env.globals = mainGlobals
 blt:X.env.builtins = builtinsNs
 above:X.s₀.heap.objs.size≤X.env.locals
 inj:∀ x y c,X.env.cells.lookup x = some c→X.env.cells.lookup y = some c→x = y
 has:∀ x,(X.env.kindOf x = some .cell∨X.env.kindOf x = some .free)→∃ c,X.env.cells.lookup x = some c
 II:∀ x c,X.fn x = true→X.env.cells.lookup x = some c→X.s₀.heap.objs.size≤c
 hd:X.calm = true→X.A.handled = none
 frames:X.A.frames = some X.stack
 AZ:X.stack = X.outer∨(X.stack = X.env :: X.outer∧X.env.frame = some X.env.locals)
 R8:∀ b∈X.ex,b≠X.env.locals∧∀ x c,X.env.cells.lookup x = some c→c≠b
 bs:∀ b o,X.base.get? b = some o→X.s₀.heap.get? b = some o∧X.H₀ b = none
 E2:X.base.objs.size≤X.s₀.heap.objs.size
 yX:∀ b o,X.base.get? b = some o→b∉X.ex
 B3:∀ b∈X.ex,b∉X.fs
 km:X.s₀.heap.FunFrames X.base X.outer
 FF:∀ b∈X.fs,X.H₀ b = none
structure Inv (X:Cx) (pins:List (Addr×Obj)) (σ : List (Option V)) (H:Hp) (s:Shared):Prop where
 ok:X.Ok
 os:s.os = X.s₀.os
 bare:AllBare s.gens
 base:Un X.fs X.ex X.H₀ H X.s₀.heap s.heap
 loc:∃ m,s.heap.Ns X.env.locals m∧∀ (i:Nat) (x:Str) (v:V),X.N[i]? = some x→σ[i]? = some (some v)→KD X.env.scope x→∃ u,RelV v u∧Look X.env s.heap m x u
 cell:∀ x c,X.env.cells.lookup x = some c→∃ v,s.heap.IsCell c v
 free:H X.env.locals = none
 hX:∀ x c,X.env.cells.lookup x = some c→H c = none
 pin:∀ p∈X.pn ++ pins,s.heap.get? p.1 = some p.2∧H p.1 = none∧p.1≠X.env.locals∧p.1∉X.fs∧∀ v,p.2.data≠.cell v
 bS:iG X.prog X.w H s.heap
 len : σ.length = X.N.length
section
variable {X:Cx} {pins:List (Addr×Obj)} {σ : List (Option V)} {H H':Hp} {s:Shared} {h':Heap}
theorem Cx.Ok.MZ (ok:X.Ok) {b:Addr} {o:Obj} (e:X.base.get? b = some o):b∉X.fs:=fun hb=>by
 have:=(ok.km.mem hb).1
 rw [e] at this; cases this
theorem Inv.bs (I:Inv X pins σ H s):∀ b o,X.base.get? b = some o→s.heap.get? b = some o∧H b = none:=fun b o e=>
 ⟨I.base.keep b o (I.ok.bs b o e).1 (I.ok.bs b o e).2 (I.ok.MZ e) (I.ok.yX b o e),I.base.free b o (I.ok.bs b o e).1 (I.ok.bs b o e).2 (I.ok.yX b o e)⟩
theorem Inv.bk (I:Inv X pins σ H s):∀ b o,X.base.get? b = some o→s.heap.get? b = some o:=fun b o e=>(I.bs b o e).1
theorem Inv.mod (I:Inv X pins σ H s):Mod X.K X.mg X.base:=I.ok.mod
theorem Inv.Ft (I:Inv X pins σ H s):X.K.In s.heap:=I.ok.mod.JK.keeps I.bk
theorem Inv.lt (I:Inv X pins σ H s):X.env.locals < s.heap.objs.size:=let ⟨_,hn,_⟩:=I.loc; hn.lt
theorem Inv.sz (I:Inv X pins σ H s):X.s₀.heap.objs.size≤s.heap.objs.size:=Nat.le_trans I.ok.above (Nat.le_of_lt I.lt)
theorem Inv.MY (I:Inv X pins σ H s) {a:Addr} (h:s.heap.objs.size≤a):a∉X.fs:=fun hb=>by
 obtain ⟨_,o,ho,_⟩:=I.ok.km.mem hb
 exact absurd (Nat.lt_of_lt_of_le (Heap.lt_size ho) (Nat.le_trans I.sz h)) (Nat.lt_irrefl _)
theorem Inv.EV (I:Inv X pins σ H s):∀ x c,X.env.cells.lookup x = some c→c≠X.env.locals:=fun x c e z=>by
 obtain ⟨v,o,ho,hd⟩:=I.cell x c e
 obtain ⟨m,⟨o',es,ep,EC,WK,_⟩,_⟩:=I.loc
 rw [z,EC] at ho; cases ho; rw [WK] at hd; cases hd
theorem Inv.km (I:Inv X pins σ H s):s.heap.FunFrames X.base X.outer:=by
 have all:∀ (l:List Env),(∀ b∈iN l,b∈X.fs)→X.s₀.heap.FunFrames X.base l→s.heap.FunFrames X.base l:=by
  intro l
  induction l with
  | nil=>intro _ _; trivial
  | cons env r ih=>
   intro hs hl
   obtain ⟨hk,⟨L,o,hf,hn,ho,hd⟩,hr⟩:=hl
   have hL:L∈X.fs:=hs L (by unfold iN; rw [List.filterMap_cons,hf]; exact List.mem_cons_self)
   obtain ⟨sl,e⟩:=I.base.slot L o ho (I.ok.FF L hL) hL fun z=>I.ok.B3 L z hL
   exact ⟨hk,⟨L,_,hf,hn,e,hd⟩,ih (fun b hb=>hs b (by unfold iN; rw [List.filterMap_cons,hf]; exact List.mem_cons_of_mem _ hb)) hr⟩
 exact all X.outer (fun _ hb=>hb) I.ok.km
theorem Inv.stack (I:Inv X pins σ H s):s.heap.FunFrames X.base X.stack:=by
 rcases I.ok.AZ with e | ⟨e,hf⟩
 ·rw [e]; exact I.km
 ·rw [e]
  obtain ⟨m,hn,_⟩:=I.loc
  refine .cons (by rw [I.ok.kind]; decide) hf hn ?_ I.km
  exact Heap.get?_none_of_le (Nat.le_trans I.ok.E2 I.ok.above)
theorem Inv.jC (I:Inv X pins σ H s):∀ b∈iN X.stack,b∈X.env.locals :: X.fs:=fun b hb=>by
 rcases I.ok.AZ with e | ⟨e,hf⟩
 ·rw [e] at hb; exact List.mem_cons_of_mem _ hb
 ·rw [e] at hb
  unfold iN at hb
  rw [List.filterMap_cons,hf] at hb
  exact hb
theorem Inv.oU (I:Inv X pins σ H s):∀ b∈iN X.stack,H b = none:=fun b hb=>by
 rcases List.mem_cons.mp (I.jC b hb) with e | hb
 ·rw [e]; exact I.free
 ·obtain ⟨_,o,ho,_⟩:=I.ok.km.mem hb
  exact I.base.free b o ho (I.ok.FF b hb) fun z=>I.ok.B3 b z hb
theorem Inv.step {g':Array GenState} {t':Nat} {d':Drawn} {ch:List Addr} (I:Inv X pins σ H s)
  (Az:∀ b∈ch,(b∈X.ex∨X.s₀.heap.objs.size≤b)∧b≠X.env.locals∧(∀ x c,X.env.cells.lookup x = some c→c≠b)∧∀ p∈X.pn ++ pins,p.1≠b)
  (keep:∀ b o,b≠X.env.locals→b∉X.fs→b∉ch→s.heap.get? b = some o→H b = none→h'.get? b = some o)
  (slot:∀ b o,b≠X.env.locals→b∈X.fs→b∉ch→s.heap.get? b = some o→H b = none→∃ sl,h'.get? b = some { o with slots:=sl }) (free:∀ b o,b∉ch→s.heap.get? b = some o→H b = none→H' b = none)
  (there:∀ b o,b∉ch→s.heap.get? b = some o→∃ o',h'.get? b = some o')
  (oQ:∀ b xs,H b = some (.tup xs)→H' b = some (.tup xs)) (nC:∀ b o u,H b = some (.tG o u)→H' b = some (.tG o u)) (oR:∀ b ps,H b = some (.Cv ps)→∃ more,H' b = some (.Cv (ps ++ more)))
  (ns:∀ m,s.heap.Ns X.env.locals m→h'.Ns X.env.locals m) (bS:iG X.prog X.w H' h') (hg:AllBare g') :
  Inv X pins σ H' { s with heap:=h',gens:=g',drawn:=d',toks:=t' }:=by
 have Rf:∀ b o,X.s₀.heap.get? b = some o→b≠X.env.locals:=fun b o e=>Nat.ne_of_lt (Nat.lt_of_lt_of_le (Heap.lt_size e) I.ok.above)
 have JE:∀ b o,X.s₀.heap.get? b = some o→b∉X.ex→b∉ch:=fun b o e hx hb=>by
  rcases (Az b hb).1 with z | z
  ·exact hx z
  ·exact absurd (Nat.lt_of_lt_of_le (Heap.lt_size e) z) (Nat.lt_irrefl _)
 have cellK:∀ x c,X.env.cells.lookup x = some c→∀ v,s.heap.IsCell c v→h'.IsCell c v:=fun x c e v ⟨o,ho,hd⟩=>by
  have vJ:c∉ch:=fun z=>(Az c z).2.2.1 x c e rfl
  by_cases hc:c∈X.fs
  ·obtain ⟨sl,q⟩:=slot c o (I.EV x c e) hc vJ ho (I.hX x c e)
   exact ⟨_,q,hd⟩
  ·exact ⟨o,keep c o (I.EV x c e) hc vJ ho (I.hX x c e),hd⟩
 refine ⟨I.ok,I.os,hg,⟨fun b o e n hb hx=>?_,fun b o e n hb hx=>?_,fun b o e n hx=>?_,fun b o e hx=>?_,fun b xs e=>oQ b xs (I.base.oQ b xs e),fun b o xs e=>nC b o xs (I.base.nC b o xs e),fun b ps e=>?_⟩,?_,fun x c e=>?_,?_,fun x c e=>?_,fun p hp=>?_,bS,I.len⟩
 ·exact keep b o (Rf b o e) hb (JE b o e hx) (I.base.keep b o e n hb hx) (I.base.free b o e n hx)
 ·obtain ⟨sl,e1⟩:=I.base.slot b o e n hb hx
  obtain ⟨TM,e2⟩:=slot b _ (Rf b o e) hb (JE b o e hx) e1 (I.base.free b o e n hx)
  exact ⟨TM,e2⟩
 ·obtain ⟨o',e1⟩:=I.base.there b o e hx
  exact free b o' (JE b o e hx) e1 (I.base.free b o e n hx)
 ·obtain ⟨o',e1⟩:=I.base.there b o e hx
  exact there b o' (JE b o e hx) e1
 ·obtain ⟨m1,e1⟩:=I.base.oR b ps e
  obtain ⟨m2,e2⟩:=oR b _ e1
  exact ⟨m1 ++ m2,by rw [e2,Array.append_assoc]⟩
 ·obtain ⟨m,hn,hl⟩:=I.loc
  refine ⟨m,ns m hn,fun i x v e1 e2 e3=>?_⟩
  obtain ⟨u,r,l⟩:=hl i x v e1 e2 e3
  refine ⟨u,r,?_⟩
  rcases l with l | ⟨k,c,e,z⟩
  ·exact .inl l
  ·exact .inr ⟨k,c,e,cellK x c e _ z⟩
 ·obtain ⟨v,z⟩:=I.cell x c e
  exact ⟨v,cellK x c e v z⟩
 ·obtain ⟨m,⟨o,_,_,ho,_⟩,_⟩:=I.loc
  exact free _ o (fun z=>(Az _ z).2.1 rfl) ho I.free
 ·obtain ⟨v,o,ho,hd⟩:=I.cell x c e
  exact free c o (fun z=>(Az c z).2.2.1 x c e rfl) ho (I.hX x c e)
 ·obtain ⟨e,n,ne,nf,d⟩:=I.pin p hp
  have vJ:p.1∉ch:=fun z=>(Az p.1 z).2.2.2 p hp rfl
  exact ⟨keep p.1 p.2 ne nf vJ e n,free p.1 p.2 vJ e n,ne,nf,d⟩
theorem Inv.un {t':Nat} (I:Inv X pins σ H s) (u:Un X.fs [] H H' s.heap h') (bS:iG X.prog X.w H' h'):Inv X pins σ H' { s with heap:=h',toks:=t' }:=by
 obtain ⟨m,⟨o,es,ep,ho,r⟩,_⟩:=id I.loc
 obtain ⟨sl,hL⟩:=u.any ho I.free (by simp)
 exact I.step (g':=s.gens) (d':=s.drawn) (ch:=[]) (fun _ z=>nomatch z) (fun b o _ hb _ e n=>u.keep b o e n hb (by simp)) (fun b o _ hb _ e n=>u.slot b o e n hb (by simp)) (fun b o _ e n=>u.free b o e n (by simp)) (fun b o _ e=>u.there b o e (by simp)) u.oQ u.nC u.oR (fun m' hm=>by
  obtain ⟨o',OH,OI,EC,r'⟩:=hm
  rw [ho] at EC; cases EC
  exact ⟨_,OH,OI,hL,r'⟩) bS I.bare
theorem Inv.call {g':Array GenState} {t':Nat} {d':Drawn} {ch:List Addr} (I:Inv X pins σ H s) (u:Un (iN X.stack) ch H H' s.heap h') (bS:iG X.prog X.w H' h') (hg:AllBare g')
  (Az:∀ b∈ch,(b∈X.ex∨X.s₀.heap.objs.size≤b)∧b≠X.env.locals∧(∀ x c,X.env.cells.lookup x = some c→c≠b)∧∀ p∈X.pn ++ pins,p.1≠b) :
  Inv X pins σ H' { s with heap:=h',gens:=g',drawn:=d',toks:=t' }:=by
 obtain ⟨m,⟨o,es,ep,ho,r⟩,_⟩:=id I.loc
 obtain ⟨sl,hL⟩:=u.any ho I.free fun z=>(Az _ z).2.1 rfl
 exact I.step (ch:=ch) Az (fun b o hL hb hc e n=>u.keep b o e n (fun z=>(List.mem_cons.mp (I.jC b z)).elim hL hb) hc) (fun b o _ _ hc e n=>u.any e n hc) (fun b o hc e n=>u.free b o e n hc) (fun b o hc e=>u.there b o e hc) u.oQ u.nC u.oR (fun m' hm=>by
  obtain ⟨o',OH,OI,EC,r'⟩:=hm
  rw [ho] at EC; cases EC
  exact ⟨_,OH,OI,hL,r'⟩) bS hg
theorem Inv.turned {t':Nat} {it:Addr} (I:Inv X pins σ H s) (k:∀ b o,b≠it→s.heap.get? b = some o→h'.get? b = some o) (hn:H it = none) (hL:it≠X.env.locals)
  (h1:it∈X.ex∨X.s₀.heap.objs.size≤it) (h2:∀ x c,X.env.cells.lookup x = some c→c≠it) (h3:∀ p∈X.pn ++ pins,p.1≠it):Inv X pins σ H { s with heap:=h',toks:=t' }:=by
 have Rb:∀ b u,H b = some u→b≠it:=fun b u e z=>by rw [z,hn] at e; cases e
 refine I.step (g':=s.gens) (d':=s.drawn) (ch:=[it]) (fun b hb=>?_) (fun b o _ _ hc e _=>k b o (fun z=>hc (by simp [z])) e) (fun b o _ _ hc e _=>⟨o.slots,k b o (fun z=>hc (by simp [z])) e⟩) (fun _ _ _ _ n=>n)
  (fun b o hc e=>⟨o,k b o (fun z=>hc (by simp [z])) e⟩) (fun _ _ e=>e) (fun _ _ _ e=>e) (fun b ps e=>⟨#[],by rw [e]; simp⟩) (fun m hm=>?_) (fun b u e=>?_) I.bare
 ·have e:b = it:=by simpa using hb
  subst e
  exact ⟨h1,hL,h2,h3⟩
 ·obtain ⟨o,es,ep,ho,r⟩:=hm
  exact ⟨o,es,ep,k _ o (Ne.symm hL) ho,r⟩
 ·refine (I.bS b u e).iu (fun c v hc q=>k c v ?_ q) (fun _ q=>q) fun _ _ q=>q
  rcases hc with z | z
  ·rw [z]; exact Rb b u e
  ·exact Rb c _ z
theorem Inv.tok (I:Inv X pins σ H s) (t:Nat):Inv X pins σ H { s with toks:=t }:=I.un (h':=s.heap) (t':=t) Un.refl I.bS
theorem Inv.kept {t':Nat} (I:Inv X pins σ H s) (k:∀ b u,s.heap.get? b = some u→h'.get? b = some u):Inv X pins σ H { s with heap:=h',toks:=t' }:=I.un (Un.kept k) (I.bS.kept k)
theorem Inv.laid {a:Addr} {o:HO} {t':Nat} (I:Inv X pins σ H s) (k:∀ b u,s.heap.get? b = some u→h'.get? b = some u) (hp:s.heap.objs.size≤a) (new:bP X.prog X.w (upd H a o) h' a o) :
  Inv X pins σ (upd H a o) { s with heap:=h',toks:=t' }:=I.un (Un.laid k hp (I.bS.fresh hp)) (I.bS.laid k hp new)
theorem Inv.write {x e:Addr} {o:HO} {t':Nat} (I:Inv X pins σ H s) (mu:IX (H x)) (he:e = x∨H e = some (.own x)) (k:∀ b u,b≠e→s.heap.get? b = some u→h'.get? b = some u) (FD:∃ u,h'.get? e = some u)
  (new:bP X.prog X.w (upd H x o) h' x o):Inv X pins σ (upd H x o) { s with heap:=h',toks:=t' }:=I.un (Un.write mu he k FD) (I.bS.write mu he k FD new)
theorem Inv.pB {CL:List (Addr×Obj)} (I:Inv X pins σ H s) (h:∀ p∈CL,s.heap.get? p.1 = some p.2∧H p.1 = none∧p.1≠X.env.locals∧p.1∉X.fs∧∀ v,p.2.data≠.cell v):Inv X CL σ H s:=
 ⟨I.ok,I.os,I.bare,I.base,I.loc,I.cell,I.free,I.hX,fun p hp=>(List.mem_append.mp hp).elim (fun z=>I.pin p (List.mem_append_left _ z)) (h p),I.bS,I.len⟩
theorem sg {N:List Str} (hN:N.Nodup) {i j:Nat} {x:Str} (a:N[i]? = some x) (b:N[j]? = some x):i = j:=by
 obtain ⟨h1,e1⟩:=List.getElem?_eq_some_iff.mp a
 obtain ⟨h2,e2⟩:=List.getElem?_eq_some_iff.mp b
 exact (List.getElem_inj hN).mp (e1.trans e2.symm)
theorem nR {M:Model} {A:Around} {E:Value→Shared→Prop} {i:Nat} {x:Str} {v:V} {u:Value} {Q:Unit→Shared→Prop} (I:Inv X pins σ H s) (hN:X.N.Nodup) (hi:X.N[i]? = some x) (hx:Loc X.env.scope x) (r:RelV v u)
  (h:∀ s',Inv X pins (σ.set i (some v)) H s'→(∃ a,Heap.SameBut a s.heap s'.heap∧(a = X.env.locals∨X.env.cells.lookup x = some a))→Q () s') (hf:X.fn x = true∨X.env.scope.names.lookup x = some .local:=by first | exact .inl rfl | exact .inr rfl | assumption):wpAny M A (storeName X.env x u) Q E s:=by
 obtain ⟨m,hn,hl⟩:=id I.loc
 have Of:(X.env.scope.kind == .class || (X.env.scope.kind == .module && X.env.locals != X.env.globals)) = false:=by rw [I.ok.kind]; rfl
 have hiσ : i < σ.length:=by rw [I.len]; exact (List.getElem?_eq_some_iff.mp hi).1
 have EV:=I.EV
 have tracked:∀ {a:Addr} {h':Heap},(∃ o,s.heap.get? a = some o∧H a = none)→Heap.SameBut a s.heap h'→iG X.prog X.w H h':=fun {a h'} ha hs b ob e=>by
  obtain ⟨_,_,vV⟩:=ha
  refine (I.bS b ob e).iu (fun c w' hc q=>(hs.2 c ?_).trans q) (fun _ q=>q) fun _ _ q=>q
  rintro rfl
  rcases hc with rfl | hc
  ·rw [vV] at e; cases e
  ·rw [vV] at hc; cases hc
 rcases hx with hk | hk
 ·refine wpAny_storeName_local hk hn (fun h' JR hs=>?_) Of
  obtain ⟨oL,_,_,Wo,_⟩:=id hn
  refine h _ ⟨I.ok,I.os,I.bare,⟨fun b o e n hb hx=>?_,fun b o e n hb hx=>?_,I.base.free,fun b o e hx=>?_,I.base.oQ,I.base.nC,I.base.oR⟩,⟨_,JR,fun j y v' e1 e2 e3=>?_⟩,fun y c e=>?_,I.free,I.hX,fun p hp=>?_,tracked ⟨oL,Wo,I.free⟩ hs,by simpa using I.len⟩ ⟨_,hs,.inl rfl⟩
  ·exact (hs.2 b (Nat.ne_of_lt (Nat.lt_of_lt_of_le (Heap.lt_size e) I.ok.above))).trans (I.base.keep b o e n hb hx)
  ·obtain ⟨sl,e1⟩:=I.base.slot b o e n hb hx
   exact ⟨sl,(hs.2 b (Nat.ne_of_lt (Nat.lt_of_lt_of_le (Heap.lt_size e) I.ok.above))).trans e1⟩
  ·obtain ⟨o',e1⟩:=I.base.there b o e hx
   exact ⟨o',(hs.2 b (Nat.ne_of_lt (Nat.lt_of_lt_of_le (Heap.lt_size e) I.ok.above))).trans e1⟩
  ·by_cases hj:j = i
   ·subst hj
    rw [hi] at e1; cases e1
    rw [List.getElem?_set_self hiσ] at e2
    cases e2
    exact ⟨u,r,.inl ⟨hk,by simp⟩⟩
   ·rw [List.getElem?_set_ne (Ne.symm hj)] at e2
    obtain ⟨u',r',q⟩:=hl j y v' e1 e2 e3
    refine ⟨u',r',?_⟩
    rcases q with ⟨k,e⟩ | ⟨k,c,e,z⟩
    ·refine .inl ⟨k,?_⟩
     have:y≠x:=fun e=>hj (sg hN e1 (e▸hi))
     simp [this,e]
    ·exact .inr ⟨k,c,e,z.sameBut hs (EV y c e)⟩
  ·obtain ⟨w',z⟩:=I.cell y c e
   exact ⟨w',z.sameBut hs (EV y c e)⟩
  ·obtain ⟨e,n,ne,nf,d⟩:=I.pin p hp
   exact ⟨(hs.2 p.1 ne).trans e,n,ne,nf,d⟩
 ·have Ob:X.fn x = true:=by
   rcases hf with z | z
   ·exact z
   ·rw [z] at hk; cases hk
  obtain ⟨c,hc⟩:=I.ok.has x (.inl hk)
  obtain ⟨w',z⟩:=I.cell x c hc
  refine wpAny_storeName_cell I.ok.kind hk hc z (fun h' qh hs=>?_)
  obtain ⟨oc,RD,NV⟩:=id z
  refine h { s with heap:=h' } ⟨I.ok,I.os,I.bare,⟨fun b o e n hb hx=>?_,fun b o e n hb hx=>?_,I.base.free,fun b o e hx=>?_,I.base.oQ,I.base.nC,I.base.oR⟩,⟨m,hn.sameBut hs (Ne.symm (EV x c hc)),fun j y v' e1 e2 e3=>?_⟩,fun y c' e=>?_,I.free,I.hX,fun p hp=>?_,tracked ⟨oc,RD,I.hX x c hc⟩ hs,by simpa using I.len⟩ ⟨c,hs,.inr hc⟩
  ·exact (hs.2 b (Nat.ne_of_lt (Nat.lt_of_lt_of_le (Heap.lt_size e) (I.ok.II x c Ob hc)))).trans (I.base.keep b o e n hb hx)
  ·obtain ⟨sl,e1⟩:=I.base.slot b o e n hb hx
   exact ⟨sl,(hs.2 b (Nat.ne_of_lt (Nat.lt_of_lt_of_le (Heap.lt_size e) (I.ok.II x c Ob hc)))).trans e1⟩
  ·obtain ⟨o',e1⟩:=I.base.there b o e hx
   exact ⟨o',(hs.2 b (Nat.ne_of_lt (Nat.lt_of_lt_of_le (Heap.lt_size e) (I.ok.II x c Ob hc)))).trans e1⟩
  ·by_cases hj:j = i
   ·subst hj
    rw [hi] at e1; cases e1
    rw [List.getElem?_set_self hiσ] at e2
    cases e2
    exact ⟨u,r,.inr ⟨.inl hk,c,hc,qh⟩⟩
   ·rw [List.getElem?_set_ne (Ne.symm hj)] at e2
    obtain ⟨u',r',q⟩:=hl j y v' e1 e2 e3
    refine ⟨u',r',?_⟩
    rcases q with q | ⟨k,c',e,z'⟩
    ·exact .inl q
    ·refine .inr ⟨k,c',e,z'.sameBut hs ?_⟩
     rintro rfl
     exact hj (sg hN e1 (I.ok.inj _ _ _ e hc▸hi))
  ·by_cases Hu:c' = c
   ·subst Hu; exact ⟨_,qh⟩
   ·obtain ⟨w2,z2⟩:=I.cell y c' e
    exact ⟨w2,z2.sameBut hs Hu⟩
  ·obtain ⟨e,n,ne,nf,d⟩:=I.pin p hp
   refine ⟨(hs.2 p.1 ?_).trans e,n,ne,nf,d⟩
   intro q
   rw [q,RD] at e
   have q':oc = p.2:=Option.some.inj e
   exact d w' (by rw [← q']; exact NV)
theorem iX {M:Model} {A:Around} {E:Value→Shared→Prop} {i:Nat} {x:Str} {v:V} {u:Value} {Q:Unit→Shared→Prop} (I:Inv X pins σ H s) (hN:X.N.Nodup) (hi:X.N[i]? = some x) (hx:Loc X.env.scope x) (r:RelV v u)
  (h:∀ s',Inv X pins (σ.set i (some v)) H s'→Q () s') (hf:X.fn x = true∨X.env.scope.names.lookup x = some .local:=by first | exact .inl rfl | exact .inr rfl | assumption):wpAny M A (storeName X.env x u) Q E s:=
 nR I hN hi hx r (fun s' I' _=>h s' I') hf
theorem Inv.IH {s':Shared} {ch:List Addr} (I:Inv X pins σ H s) (ho:s'.os = s.os) (u:Un (iN X.stack) ch H H' s.heap s'.heap) (bS:iG X.prog X.w H' s'.heap) (hg:AllBare s'.gens)
  (Az:∀ b∈ch,(b∈X.ex∨X.s₀.heap.objs.size≤b)∧b≠X.env.locals∧(∀ x c,X.env.cells.lookup x = some c→c≠b)∧∀ p∈X.pn ++ pins,p.1≠b):Inv X pins σ H' s':=by
 obtain ⟨h',g',d',t',o'⟩:=s'
 have e:o' = s.os:=ho
 subst e
 exact I.call (g':=g') (t':=t') (d':=d') u bS hg Az
end
abbrev XK:=Value→Option Addr→Hp→Prop
abbrev St:=List (Option V)
abbrev VK:=V→Hp→Prop
abbrev TE:=St→Hp→VK→Prop
abbrev TT:=St→Hp→(Bool→Hp→Prop)→Prop
abbrev TA:=St→Hp→(List V→Hp→Prop)→Prop
structure Ends where
 nx:St→Hp→Prop
 rt:VK
 bk:St→Hp→Prop:=fun _ _=>False
 ct:St→Hp→Prop:=fun _ _=>False
abbrev TS:=Ends→St→Hp→Prop
def EP (X:Cx) (pins:List (Addr×Obj)) (σ : St) (Q:VK) (u:Value) (s':Shared):Prop:=∃ v H',Inv X pins σ H' s'∧RelV v u∧Q v H'
def TP (X:Cx) (pins:List (Addr×Obj)) (σ : St) (Q:Bool→Hp→Prop) (b:Bool) (s':Shared):Prop:=∃ H',Inv X pins σ H' s'∧Q b H'
def AP (X:Cx) (pins:List (Addr×Obj)) (σ : St) (Q:List V→Hp→Prop) (us:List Value) (s':Shared):Prop:=∃ vs H',Inv X pins σ H' s'∧Vals vs us∧Q vs H'
def SP (X:Cx) (pins:List (Addr×Obj)) (D:Ends) (f:Flow) (s':Shared):Prop:=
 match f with
 | .next=>∃ σ' H',Inv X pins σ' H' s'∧D.nx σ' H'
 | .brk=>∃ σ' H',Inv X pins σ' H' s'∧D.bk σ' H'
 | .cont=>∃ σ' H',Inv X pins σ' H' s'∧D.ct σ' H'
 | .ret u=>∃ v σ' H',Inv X pins σ' H' s'∧RelV v u∧D.rt v H'
def PE (X:Cx) (e:Expr) (t:TE):Prop:=
 ∀ (pins:List (Addr×Obj)) (s:Shared) (σ : St) (H:Hp) (Q:VK),Inv X pins σ H s→t σ H Q→wpAny (model X.prog X.w) X.A (eval e X.env) (EP X pins σ Q) X.xe s
def PT (X:Cx) (e:Expr) (t:TT):Prop:=
 ∀ (pins:List (Addr×Obj)) (s:Shared) (σ : St) (H:Hp) (Q:Bool→Hp→Prop),Inv X pins σ H s→t σ H Q→wpAny (model X.prog X.w) X.A (isTrue e X.env (eval e X.env)) (TP X pins σ Q) X.xe s
def PW (X:Cx) (e:Expr) (t:TT):Prop:=
 ∀ (whole:Sem Value) (pins:List (Addr×Obj)) (s:Shared) (σ : St) (H:Hp) (Q:Bool→Hp→Prop),Inv X pins σ H s→t σ H Q→wpAny (model X.prog X.w) X.A (isTrue e X.env whole) (TP X pins σ Q) X.xe s
theorem PW.pt {X:Cx} {e:Expr} {t:TT} (h:PW X e t):PT X e t:=h _
def PA (X:Cx) (es:List Expr) (t:TA):Prop:=
 ∀ (pos:Pos) (pins:List (Addr×Obj)) (s:Shared) (σ : St) (H:Hp) (Q:List V→Hp→Prop),Inv X pins σ H s→t σ H Q→wpAny (model X.prog X.w) X.A (spliced (backTo pos (starEach es X.env))) (AP X pins σ Q) X.xe s
def PS (X:Cx) (st:Stmt) (t:TS):Prop:=
 ∀ (pins:List (Addr×Obj)) (s:Shared) (σ : St) (H:Hp) (D:Ends),Inv X pins σ H s→t D σ H→wpAny (model X.prog X.w) X.A (exec st X.env) (SP X pins D) X.xe s
def uM (X:Cx) (st:List Stmt) (t:TS):Prop:=
 ∀ (pins:List (Addr×Obj)) (s:Shared) (σ : St) (H:Hp) (D:Ends),Inv X pins σ H s→t D σ H→wpAny (model X.prog X.w) X.A (execs st X.env) (SP X pins D) X.xe s
theorem dc {α : Type} {t:Sem α} {Q Q' : α→Shared→Prop} {M:Model} {A:Around} {E:Value→Shared→Prop} {s:Shared} (h:wpAny M A t Q E s) (hQ:∀ a s,Q a s→Q' a s):wpAny M A t Q' E s:=wpAny_mono h hQ fun _ _ x=>x
end L2
namespace L2
open PySem PySem.Spec PyProof.Rows
section
variable {X:Cx}
theorem bin {a b:Expr} {ta tb:TE} (ha:PE X a ta) (hb:PE X b tb) {pins:List (Addr×Obj)} {s:Shared} {σ : St} {H:Hp} {R:V→V→Hp→Prop} (I:Inv X pins σ H s) (h:ta σ H fun x H1=>tb σ H1 fun y H2=>R x y H2)
  {α : Type} {Q : α→Shared→Prop} {f:Value→Value→Sem α}
  (hf:∀ v u s2 x y H2,Inv X pins σ H2 s2→RelV x v→RelV y u→R x y H2→wpAny (model X.prog X.w) X.A (f v u) Q X.xe s2) :
  wpAny (model X.prog X.w) X.A (eval a X.env) (fun v s₁=>wpAny (model X.prog X.w) X.A (eval b X.env) (fun u s₂=>wpAny (model X.prog X.w) X.A (f v u) Q X.xe s₂) X.xe s₁) X.xe s:=by
 refine dc (ha pins s σ H _ I h) fun v s1 ⟨x,H1,I1,r1,q1⟩=>?_
 refine dc (hb pins s1 σ H1 _ I1 q1) fun u s2 ⟨y,H2,I2,r2,q2⟩=>?_
 exact hf v u s2 x y H2 I2 r1 r2 q2
def oS (i:Nat):TE:=fun σ H Q=>∃ v,σ[i]? = some (some v)∧Q v H
def tC (v:V):TE:=fun _ H Q=>Q v H
theorem DQ {i:Nat} {x:Str} {pos:Pos} (hN:X.N[i]? = some x) (hv:KD X.env.scope x) (hd:(x == ("__debug__" : Str)) = false:=by decide) (uA:(x == ("__classdict__" : Str)) = false:=by decide):PE X (.Name x pos) (oS i):=by
 intro pins s σ H Q I h
 obtain ⟨v,e,h⟩:=h
 obtain ⟨m,hn,hl⟩:=I.loc
 obtain ⟨u,r,l⟩:=hl i x v hN e hv
 have fin:EP X pins σ Q u s:=⟨v,H,I,r,h⟩
 rcases l with ⟨hk,hm⟩ | ⟨hk,c,hc,CZ⟩
 ·exact wpAny_Name (wpAny_loadName_local I.ok.kind hk hn hm fin) hd
 ·rcases hk with hk | hk
  ·exact wpAny_Name (wpAny_loadName_cell I.ok.kind hk hc CZ fin) hd
  ·exact wpAny_Name (wpAny_loadName_free I.ok.kind hk hc CZ fin uA) hd
theorem ay {i j pos}:PE X (.Constant (.int i) j pos) (tC (.int i)):=fun _ _ _ H _ I h=>wpAny_Constant_int ⟨.int i,H,I.tok _,⟨_,rfl⟩,h⟩
theorem fe {b j pos}:PE X (.Constant (.bool b) j pos) (tC (.bl b)):=fun _ _ _ H _ I h=>Constant_bool ⟨.bl b,H,I,rfl,h⟩
theorem pE {j pos}:PE X (.Constant .none j pos) (tC .cV):=fun _ _ _ H _ I h=>Constant_none ⟨.cV,H,I,rfl,h⟩
theorem yM {x j pos}:PE X (.Constant (.str x) j pos) (tC (.str x)):=fun _ _ _ H _ I h=>Calls.Constant_str ⟨.str x,H,I.tok _,⟨_,rfl⟩,h⟩
def Gl (X:Cx) (x:Str):Prop:=X.env.kindOf x = some .globalImplicit
theorem vN {E:Value→Shared→Prop} {pins:List (Addr×Obj)} {s:Shared} {σ : St} {H:Hp} {x:Str} {u:Value} {pos:Pos} {Q:Value→Shared→Prop} (I:Inv X pins σ H s) (hg:Gl X x) (hm:X.mg x = some u) (h:Q u s)
  (hd:(x == ("__debug__" : Str)) = false:=by decide):wpAny (model X.prog X.w) X.A (eval (.Name x pos) X.env) Q E s:=
 Calls.Name_function_global I.ok.kind hg (Calls.loadGlobal_global (by rw [I.ok.glob]; exact I.mod.glob.keeps I.bk) hm h) hd
theorem gk {E:Value→Shared→Prop} {pins:List (Addr×Obj)} {s:Shared} {σ : St} {H:Hp} {x:Str} {u:Value} {pos:Pos} {Q:Value→Shared→Prop} (I:Inv X pins σ H s) (hg:Gl X x) (hm:X.mg x = none) (hv:bootBuiltins x = some u) (h:Q u s)
  (hn:x≠ "__name__":=by decide) (hd:(x == ("__debug__" : Str)) = false:=by decide):wpAny (model X.prog X.w) X.A (eval (.Name x pos) X.env) Q E s:=by
 obtain ⟨mb,h1,h2⟩:=I.mod.blt
 exact Calls.Name_function_global I.ok.kind hg (Calls.loadGlobal_builtin (by rw [I.ok.glob]; exact I.mod.glob.keeps I.bk) hm (by rw [I.ok.blt]; exact h1.keeps I.bk) ((h2 x hn).trans hv) h) hd
def Jj (ta tb:TE) (k:Int→Int→Hp→Prop):St→Hp→Prop:=fun σ H=>ta σ H fun x H1=>tb σ H1 fun y H2=>∃ i j,x = .int i∧y = .int j∧k i j H2
def Tj (ta tb:TE):TE:=fun σ H Q=>Jj ta tb (fun i j H2=>Q (.int (i + j)) H2) σ H
def S7 (ta tb:TE):TE:=fun σ H Q=>Jj ta tb (fun i j H2=>Q (.int (i - j)) H2) σ H
def Tb (ta tb:TE):TE:=fun σ H Q=>Jj ta tb (fun i j H2=>(-(2 ^ 64) < i∧i < 2 ^ 64)∧Q (.int (i * j)) H2) σ H
variable {a b:Expr} {ta tb:TE} {pos:Pos}
def PC (X:Cx) (op:CmpOp) (a b:Expr) (t:TE):Prop:=
 ∀ (pins:List (Addr×Obj)) (s:Shared) (σ : St) (H:Hp) (Q:VK),Inv X pins σ H s→t σ H Q→
  wpAny (model X.prog X.w) X.A (eval a X.env) (fun v s₁=>wpAny (model X.prog X.w) X.A (eval b X.env) (fun u s₂=>wpAny (model X.prog X.w) X.A (compareOp op v u) (EP X pins σ Q) X.xe s₂) X.xe s₁) X.xe s
theorem sj (b:Expr) {op:CmpOp} (h:op≠.In) (h2:op≠.NotIn):behindInMarks op b = false:=by
 have e1:(op == CmpOp.In) = false:=by cases op <;> first | rfl | exact absurd rfl h
 have e2:(op == CmpOp.NotIn) = false:=by cases op <;> first | rfl | exact absurd rfl h2
 cases b <;> simp [behindInMarks,e1,e2]
def wH (p:Int→Int→Bool) (ta tb:TE):TE:=fun σ H Q=>Jj ta tb (fun i j H2=>Q (.bl (p i j)) H2) σ H
abbrev YU:TE→TE→TE:=wH fun i j=>decide (i < j)
abbrev YV:TE→TE→TE:=wH fun i j=>decide (i≤j)
abbrev YX:TE→TE→TE:=wH fun i j=>decide (j < i)
abbrev YY:TE→TE→TE:=wH fun i j=>decide (j≤i)
abbrev Tf:TE→TE→TE:=wH fun i j=>decide (i = j)
abbrev Ta:TE→TE→TE:=wH fun i j=>!decide (i = j)
def Tc (ta:TE):TE:=fun σ H Q=>ta σ H fun x H1=>Q (.bl (decide (x = .cV))) H1
def Cz (ta:TE):TE:=fun σ H Q=>ta σ H fun x H1=>Q (.bl (!decide (x = .cV))) H1
theorem RelV.yW {x:V} {v:Value} (r:RelV x v):(v == Value.none) = decide (x = .cV):=by
 cases x with
 | cV=>cases r; rfl
 | bl _=>cases r; rfl
 | int _=>obtain ⟨t,rfl⟩:=r; rfl
 | str _=>obtain ⟨t,rfl⟩:=r; rfl
 | tI _=>obtain ⟨t,rfl⟩:=r; rfl
 | AB _=>obtain ⟨t,rfl⟩:=r; rfl
 | ref _=>cases r; rfl
 | ty _=>cases r; rfl
theorem pH {j pos'} (ha:PE X a ta):PC X .IsNot a (.Constant .none j pos') (Cz ta):=by
 intro pins s σ H Q I h
 refine dc (ha pins s σ H _ I h) fun v s1 ⟨x,H1,I1,r1,q1⟩=>?_
 exact Constant_none (isnot_none_gen ⟨.bl _,H1,I1,by rw [r1.yW]; rfl,q1⟩)
def tB (t:TE):TT:=fun σ H Q=>t σ H fun x H1=>∃ c,x = .bl c∧Q c H1
theorem DR {op:CmpOp} {t:TE} (h:PC X op a b t) (h1:behindInMarks op b = false:=by first | exact sj _ (by decide) (by decide) | rfl):PE X (.Compare a [op] [b] pos) t:=fun pins s σ H Q I hw=>wpAny_Compare1 (h pins s σ H Q I hw) h1
theorem iK {op:CmpOp} {t:TE} (h:PC X op a b t) (h1:behindInMarks op b = false:=by first | exact sj _ (by decide) (by decide) | rfl):PT X (.Compare a [op] [b] pos) (tB t):=by
 intro pins s σ H Q I hw
 refine wpAny_isTrue_Compare1 (dc (h pins s σ H _ I hw) fun v s1 h1=>dc h1 fun u s2 h2=>dc h2 fun c s3 ⟨x,H1,I1,r1,q1⟩=>?_) h1
 obtain ⟨d,rfl,q⟩:=q1
 cases r1
 exact wpAny_truthy_bool ⟨H1,I1,q⟩
theorem tW {e:Expr} {t:TE} (h:PE X e t) (he:∀ whole,isTrue e X.env whole = (do let v ← whole; standAt e.pos; holding [v] (truthy v)):=by intro _; rfl):PT X e (tB t):=by
 intro pins s σ H Q I hw
 refine isTrue_plain (dc (h pins s σ H _ I hw) fun v s1 ⟨x,H1,I1,r1,q1⟩=>?_) (he _)
 obtain ⟨d,rfl,q⟩:=q1
 cases r1
 exact wpAny_truthy_bool ⟨H1,I1,q⟩
variable {tA Ji:TT} {rest:List Expr}
def F8 (t u:TT):TT:=fun σ H Q=>t σ H fun c H1=>if c = true then u σ H1 Q else Q false H1
def QC (t u:TT):TT:=fun σ H Q=>t σ H fun c H1=>if c = true then Q true H1 else u σ H1 Q
def F2 (t:TT):TT:=fun σ H Q=>t σ H fun c H1=>Q (!c) H1
theorem pw_and1 (ha:PT X a tA):PW X (.BoolOp .And [a] pos) tA:=by
 intro wh pins s σ H Q I h
 refine isTrue_and (dc (ha pins s σ H Q I h) fun c s1 e=>?_)
 cases c with
 | true=>exact isTrue_and_nil e
 | false=>exact e
theorem pw_or1 (ha:PT X a tA):PW X (.BoolOp .Or [a] pos) tA:=by
 intro wh pins s σ H Q I h
 refine isTrue_or (dc (ha pins s σ H Q I h) fun c s1 e=>?_)
 cases c with
 | false=>exact isTrue_or_nil e
 | true=>exact e
theorem pw_and (ha:PT X a tA) (hb:PW X (.BoolOp .And (b :: rest) pos) Ji):PW X (.BoolOp .And (a :: b :: rest) pos) (F8 tA Ji):=by
 intro wh pins s σ H Q I h
 refine isTrue_and (dc (ha pins s σ H _ I h) fun c s1 ⟨H1,I1,q1⟩=>?_)
 cases c with
 | true=>exact hb wh pins s1 σ H1 Q I1 q1
 | false=>exact ⟨H1,I1,q1⟩
theorem pw_or (ha:PT X a tA) (hb:PW X (.BoolOp .Or (b :: rest) pos) Ji):PW X (.BoolOp .Or (a :: b :: rest) pos) (QC tA Ji):=by
 intro wh pins s σ H Q I h
 refine isTrue_or (dc (ha pins s σ H _ I h) fun c s1 ⟨H1,I1,q1⟩=>?_)
 cases c with
 | true=>exact ⟨H1,I1,q1⟩
 | false=>exact hb wh pins s1 σ H1 Q I1 q1
theorem yI (ha:PT X a tA):PT X (.UnaryOp .Not a pos) (F2 tA):=by
 intro pins s σ H Q I h
 exact isTrue_not (ha pins s σ H (fun c H1=>Q (!c) H1) I h)
def CD (ta tb:TE):TE:=fun σ H Q=>ta σ H fun x H1=>∃ c,x = .bl c∧if c = true then tb σ H1 Q else Q (.bl false) H1
def S9 (ta tb:TE):TE:=fun σ H Q=>ta σ H fun x H1=>∃ c,x = .bl c∧if c = true then Q (.bl true) H1 else tb σ H1 Q
def QD (ta:TE):TE:=fun σ H Q=>ta σ H fun x H1=>∃ c,x = .bl c∧Q (.bl (!c)) H1
theorem tY {op} {t:TE} (h:PE X a t):PE X (.BoolOp op [a] pos) t:=fun pins s σ H Q I hw=>BoolOp_one (h pins s σ H Q I hw)
theorem pG (ha:PE X a ta) (hb:PE X (.BoolOp .And (b :: rest) pos) tb):PE X (.BoolOp .And (a :: b :: rest) pos) (CD ta tb):=by
 intro pins s σ H Q I h
 refine BoolOp_and (dc (ha pins s σ H _ I h) fun v s1 ⟨x,H1,I1,r1,q1⟩=>?_)
 obtain ⟨c,rfl,q1⟩:=q1
 cases r1
 refine wpAny_truthy_bool ?_
 cases c with
 | true=>exact hb pins s1 σ H1 Q I1 q1
 | false=>exact ⟨.bl false,H1,I1,rfl,q1⟩
def YW (t:TT) (ta tb:TE):TE:=fun σ H Q=>t σ H fun c H1=>if c = true then ta σ H1 Q else tb σ H1 Q
end
end L2
namespace L2
open PySem PySem.Spec PyProof.Rows
def aD (K:PySem.W.Frag) (H:Hp) (a:Addr) (xs:List V):Prop:=
 Rd H a (.lst xs)∨
  ∃ (o:Obj) (aL:Array Value) (n:Nat),K.lookup a = some o∧o.cls = .type "list"∧o.dict = none∧o.data = .seq aL n∧aL.size≤sizeLine∧Vals xs aL.toList
def SqT (K:PySem.W.Frag) (H:Hp) (a:Addr) (xs:List V):Prop:=
 Rd H a (.tup xs)∨
  ∃ (o:Obj) (aL:Array Value) (n:Nat),K.lookup a = some o∧o.cls = .type "tuple"∧o.data = .seq aL n∧aL.size≤sizeLine∧Vals xs aL.toList
def Qg:Value→Option V
 | .none=>some .cV
 | .bool b=>some (.bl b)
 | .int i _=>some (.int i)
 | .str x _=>some (.str x)
 | .bytes b _=>some (.tI b)
 | .float b _=>some (.AB b)
 | .ref a=>some (.ref a)
 | .type n=>some (.ty n)
 | _=>none
theorem RelV.abs {x:V} {u:Value} (r:RelV x u):Qg u = some x:=by
 cases x with
 | cV=>cases r; rfl
 | bl _=>cases r; rfl
 | int _=>obtain ⟨t,rfl⟩:=r; rfl
 | str _=>obtain ⟨t,rfl⟩:=r; rfl
 | tI _=>obtain ⟨t,rfl⟩:=r; rfl
 | AB _=>obtain ⟨t,rfl⟩:=r; rfl
 | ref _=>cases r; rfl
 | ty _=>cases r; rfl
theorem RelV.inj {x y:V} {u:Value} (r:RelV x u) (q:RelV y u):x = y:=Option.some.inj (r.abs.symm.trans q.abs)
theorem Vals.inj:∀ {xs ys:List V} {us:List Value},Vals xs us→Vals ys us→xs = ys
 | _,_,_,.nil,.nil=>rfl
 | _,_,_,.cons r t,.cons r' t'=>by rw [r.inj r',Vals.inj t t']
section
variable {X:Cx} {pins:List (Addr×Obj)} {σ : St} {H:Hp} {s:Shared} {a:Addr} {xs ys:List V}
theorem aD.of {K:PySem.W.Frag} (h:H a = some (.lst xs)):aD K H a xs:=.inl (.inl h)
theorem SqT.of {K:PySem.W.Frag} (h:H a = some (.tup xs)):SqT K H a xs:=.inl (.inl h)
theorem Inv.list (I:Inv X pins σ H s) (h:aD X.K H a xs):∃ aL:List Value,Vals xs aL∧PlainL s.heap a aL.toArray∧xs.length≤sizeLine:=by
 rcases h with h | ⟨o,aL,n,hk,hc,hd,hs,hz,r⟩
 ·obtain ⟨z,aL,n,r,e⟩:=h.ok I.bS
  exact ⟨aL,r,⟨_,n,e,rfl,rfl,rfl⟩,z⟩
 ·refine ⟨aL.toList,r,⟨o,n,I.Ft a o hk,hc,hd,by simpa using hs⟩,?_⟩
  have e:=r.length
  simp only [Array.length_toList] at e
  omega
theorem Inv.tuple (I:Inv X pins σ H s) (h:SqT X.K H a xs):∃ aL:List Value,Vals xs aL∧IsTup s.heap a aL.toArray∧xs.length≤sizeLine:=by
 rcases h with h | ⟨o,aL,n,hk,hc,hs,hz,r⟩
 ·obtain ⟨z,aL,r,p⟩:=h.ok I.bS
  exact ⟨aL,r,p,z⟩
 ·refine ⟨aL.toList,r,⟨o,I.Ft a o hk,hc,n,by simpa using hs⟩,?_⟩
  have e:=r.length
  simp only [Array.length_toList] at e
  omega
theorem Inv.jq (I:Inv X pins σ H s) (h:aD X.K H a xs) (h':aD X.K H a ys):xs = ys:=by
 obtain ⟨aL,r,⟨o,n,e,_,_,d⟩,_⟩:=I.list h
 obtain ⟨its',r',⟨o',n',e',_,_,d'⟩,_⟩:=I.list h'
 rw [e] at e'; cases e'
 rw [d] at d'
 injection d' with d1 _
 have:aL = its':=by simpa using congrArg Array.toList d1
 subst this
 exact r.inj r'
end
abbrev Cx.mV (X:Cx) (E:Value→Shared→Prop):Cx:={ X with xe:=E }
abbrev Cx.Fp (X:Cx):Cx:=X.mV fun _ _=>False
theorem Cx.Ok.mV {X:Cx} (ok:X.Ok) (E:Value→Shared→Prop):(X.mV E).Ok:=
 ⟨ok.mod,ok.kind,ok.glob,ok.blt,ok.above,ok.inj,ok.has,ok.II,ok.hd,ok.frames,ok.AZ,ok.R8,ok.bs,ok.E2,ok.yX,ok.B3,ok.km,ok.FF⟩
theorem Cx.Ok.gG {X:Cx} {E:Value→Shared→Prop} (ok:(X.mV E).Ok):X.Ok:=
 ⟨ok.mod,ok.kind,ok.glob,ok.blt,ok.above,ok.inj,ok.has,ok.II,ok.hd,ok.frames,ok.AZ,ok.R8,ok.bs,ok.E2,ok.yX,ok.B3,ok.km,ok.FF⟩
section
variable {X:Cx} {pins:List (Addr×Obj)} {σ : St} {H:Hp} {s:Shared} {E:Value→Shared→Prop}
theorem Inv.mV (I:Inv X pins σ H s) (E:Value→Shared→Prop):Inv (X.mV E) pins σ H s:=⟨I.ok.mV E,I.os,I.bare,I.base,I.loc,I.cell,I.free,I.hX,I.pin,I.bS,I.len⟩
theorem Inv.gG (I:Inv (X.mV E) pins σ H s):Inv X pins σ H s:=⟨I.ok.gG,I.os,I.bare,I.base,I.loc,I.cell,I.free,I.hX,I.pin,I.bS,I.len⟩
theorem SP.gG {D:Ends} {f:Flow} {s':Shared} (h:SP (X.mV E) pins D f s'):SP X pins D f s':=by
 cases f with
 | next=>obtain ⟨σ',H',I,q⟩:=h; exact ⟨σ',H',I.gG,q⟩
 | brk=>obtain ⟨σ',H',I,q⟩:=h; exact ⟨σ',H',I.gG,q⟩
 | cont=>obtain ⟨σ',H',I,q⟩:=h; exact ⟨σ',H',I.gG,q⟩
 | ret u=>obtain ⟨v,σ',H',I,r,q⟩:=h; exact ⟨v,σ',H',I.gG,r,q⟩
theorem uM.Fp {st:List Stmt} {t:TS} (h:uM X.Fp st t):uM X st t:=fun pins s σ H D I hw=>
 wpAny_mono (h pins s σ H D (I.mV _) hw) (fun _ _ q=>q.gG) fun _ _ z=>False.elim z
end
section
variable {X:Cx} {st:Stmt} {rest:List Stmt} {t u:TS} {e:Expr} {te:TE} {pos:Pos}
def CA:TS:=fun D σ H=>D.nx σ H
def Dj (t u:TS):TS:=fun D σ H=>t { D with nx:=u D } σ H
theorem aX:uM X [] CA:=fun _ _ σ H _ I h=>wpAny_execs_nil ⟨σ,H,I,h⟩
theorem ag (h1:PS X st t) (h2:uM X rest u):uM X (st :: rest) (Dj t u):=by
 intro pins s σ H D I h
 refine wpAny_execs_cons (dc (h1 pins s σ H { D with nx:=u D } I h) fun f s1 q=>?_)
 cases f with
 | next=>
  obtain ⟨σ',H',I',q⟩:=q
  exact h2 pins s1 σ' H' D I' q
 | ret v=>exact q
 | brk=>exact q
 | cont=>exact q
theorem ao (h1:PS X st t):uM X [st] t:=by
 intro pins s σ H D I h
 refine wpAny_execs_cons (dc (h1 pins s σ H D I h) fun f s1 q=>?_)
 cases f with
 | next=>exact wpAny_execs_nil q
 | ret v=>exact q
 | brk=>exact q
 | cont=>exact q
def Lb:TS:=fun D σ H=>D.bk σ H
def QG:TS:=fun D σ H=>D.ct σ H
theorem Inv.quiet {pins:List (Addr×Obj)} {σ : St} {H:Hp} {s:Shared} (I:Inv X pins σ H s):interactive X.env = false:=by simp [interactive,I.ok.kind]
def CB (te:TE):TS:=fun D σ H=>te σ H fun _ H1=>D.nx σ H1
theorem b9 (he:PE X e te) (hs:swapsWith e none pos.line X.env = pure false:=by rfl):PS X (.Expr e pos) (CB te):=by
 intro pins s σ H D I h
 exact wpAny_Expr_any (dc (he pins s σ H _ I h) fun v s1 ⟨x,H1,I1,r1,q1⟩=>⟨σ,H1,I1,q1⟩) I.quiet hs
def FZ (te:TE):TS:=fun D σ H=>te σ H D.rt
theorem aS (he:PE X e te):PS X (.Return (some e) pos) (FZ te):=by
 intro pins s σ H D I h
 exact wpAny_Return_some (dc (he pins s σ H _ I h) fun v s1 ⟨x,H1,I1,r1,q1⟩=>⟨x,σ,H1,I1,r1,q1⟩)
def QB:TS:=fun D _ H=>D.rt .cV H
def F4 (c:TT) (t u:TS):TS:=fun D σ H=>c σ H fun b H1=>if b = true then t D σ H1 else u D σ H1
theorem b8 {c:Expr} {a b:List Stmt} {tc:TT} (hc:PT X c tc) (ha:uM X a t) (hb:uM X b u):PS X (.If c a b pos) (F4 tc t u):=by
 intro pins s σ H D I h
 refine wpAny_If (dc (hc pins s σ H _ I h) fun d s1 ⟨H1,I1,q1⟩=>?_)
 cases d with
 | true=>exact ha pins s1 σ H1 D I1 q1
 | false=>exact hb pins s1 σ H1 D I1 q1
def Dl:TS:=fun _ _ _=>False
theorem yJ:PS X st Dl:=fun _ _ _ _ _ _ h=>h.elim
end
abbrev TG:=V→St→Hp→(St→Hp→Prop)→Prop
abbrev AH:=List V→St→Hp→(St→Hp→Prop)→Prop
def PG (X:Cx) (target:Expr) (t:TG):Prop:=
 ∀ (pins:List (Addr×Obj)) (s:Shared) (σ : St) (H:Hp) (v:V) (u:Value) (Q:St→Hp→Prop),Inv X pins σ H s→RelV v u→t v σ H Q→
  wpAny (model X.prog X.w) X.A (assign target X.env u) (fun _ s'=>∃ σ' H',Inv X pins σ' H' s'∧Q σ' H') X.xe s
def IU (X:Cx) (ts:List Expr) (t:AH):Prop:=
 ∀ (pins:List (Addr×Obj)) (s:Shared) (σ : St) (H:Hp) (vs:List V) (us:List Value) (Q:St→Hp→Prop),Inv X pins σ H s→Vals vs us→t vs σ H Q→
  wpAny (model X.prog X.w) X.A (assignInOrder ((assignEach ts X.env).map (·.2)) us) (fun _ s'=>∃ σ' H',Inv X pins σ' H' s'∧Q σ' H') X.xe s
abbrev Ck:=V→V→V→Hp→(Hp→Prop)→Prop
def IT (X:Cx) (t:Ck):Prop:=
 ∀ (pins:List (Addr×Obj)) (s:Shared) (σ : St) (H:Hp) (o i v:V) (ov iv u:Value) (Q:Hp→Prop),Inv X pins σ H s→RelV o ov→RelV i iv→RelV v u→t o i v H Q→
  wpAny (model X.prog X.w) X.A (setItem ov iv u) (fun _ s'=>∃ H',Inv X pins σ H' s'∧Q H') X.xe s
abbrev KH:=V→V→Hp→VK→Prop
def ZN (X:Cx) (op:Operator) (t:KH):Prop:=
 ∀ (pins:List (Addr×Obj)) (s:Shared) (σ : St) (H:Hp) (x y:V) (v u:Value) (Q:VK),Inv X pins σ H s→RelV x v→RelV y u→t x y H Q→
  wpAny (model X.prog X.w) X.A (inplaceOp op v u) (EP X pins σ Q) X.xe s
section
variable {X:Cx} {pos:Pos}
def vX (i:Nat):TG:=fun v σ H Q=>Q (σ.set i (some v)) H
theorem aJ {i:Nat} {x:Str} (hN:X.N.Nodup) (hi:X.N[i]? = some x) (hx:Loc X.env.scope x) (hf:X.fn x = true∨X.env.scope.names.lookup x = some .local:=by first | exact .inl rfl | exact .inr rfl | assumption):PG X (.Name x pos) (vX i):=by
 intro pins s σ H v u Q I r h
 exact wpAny_assign_Name (iX I hN hi hx r (fun s' I'=>⟨_,H,I',h⟩) hf)
def HF:AH:=fun vs σ H Q=>vs = []∧Q σ H
def C3 (t:TG) (u:AH):AH:=fun vs σ H Q=>∃ v r,vs = v :: r∧t v σ H fun σ' H'=>u r σ' H' Q
theorem eP:IU X [] HF:=by
 intro pins s σ H vs us Q I r h
 obtain ⟨e,h⟩:=h
 subst e
 cases r
 exact assignInOrder_nil ⟨σ,H,I,h⟩
theorem bD {e:Expr} {es:List Expr} {t:TG} {u:AH} (h1:PG X e t) (h2:IU X es u)
  (hs:(assignEach (e :: es) X.env).map (·.2) = assign e X.env :: (assignEach es X.env).map (·.2):=by rfl):IU X (e :: es) (C3 t u):=by
 intro pins s σ H vs us Q I r h
 obtain ⟨v,vr,e1,h⟩:=h
 subst e1
 cases r with
 | cons r rr=>
  rw [hs]
  refine assignInOrder_cons (dc (h1 pins s σ H _ _ _ I r h) fun _ s1 ⟨σ1,H1,I1,q1⟩=>?_)
  exact h2 pins s1 σ1 H1 _ _ Q I1 rr q1
def EL (K:PySem.W.Frag) (n:Nat) (t:AH):TG:=fun v σ H Q=>∃ a xs,v = .ref a∧SqT K H a xs∧xs.length = n∧t xs σ H Q
theorem gS {es:List Expr} {k:Nat} {t:AH} {n:Nat} (hc:X.calm = true) (h:IU X es t)
  (hn:(assignEach es X.env).length = n:=by rfl) (Eu:(assignEach es X.env).findIdx? (·.1) = none:=by rfl):PG X (.Tuple es k pos) (EL X.K n t):=by
 intro pins s σ H v u Q I r hw
 obtain ⟨a,xs,e1,hq,hl,hw⟩:=hw
 subst e1
 cases r
 obtain ⟨aL,rv,ht,hz⟩:=I.tuple hq
 refine assign_Tuple_tuple (I.ok.hd hc) ht (by simp [hn,← hl,rv.length]) Eu fun h' hx=>?_
 have I1:Inv X pins σ H { s with heap:=h' }:=I.kept (t':=s.toks) fun b o e=>hx b o (Nat.ne_of_lt (Heap.lt_size e)) e
 exact h pins _ σ H xs _ Q I1 (by simpa using rv) hw
def Ou (to ti:TE) (t:Ck):TG:=fun v σ H Q=>to σ H fun o H1=>ti σ H1 fun i H2=>t o i v H2 fun H3=>Q σ H3
theorem DP {o i:Expr} {to ti:TE} {t:Ck} (ho:PE X o to) (hi:PE X i ti) (hs:IT X t)
  (ha:∀ v,assign (.Subscript o i pos) X.env v = (do
   let ov ← holding [v] (eval o X.env)
   let iv ← holding [v,ov] (eval i X.env)
   standAt pos
   holding [v,ov,iv] (setItem ov iv v)
   release [v,ov,iv] []):=by intro _; rfl):PG X (.Subscript o i pos) (Ou to ti t):=by
 intro pins s σ H v u Q I r h
 rw [ha]
 refine wpAny_bind (wpAny_holding (dc (ho pins s σ H _ I h) fun ov s1 ⟨x,H1,I1,r1,q1⟩=>?_))
 refine wpAny_bind (wpAny_holding (dc (hi pins s1 σ H1 _ I1 q1) fun iv s2 ⟨y,H2,I2,r2,q2⟩=>?_))
 refine wpAny_bind (wpAny_standAt (wpAny_bind (wpAny_holding (dc (hs pins s2 σ H2 x y v ov iv u _ I2 r1 r2 r q2) fun _ s3 ⟨H3,I3,q3⟩=>?_))))
 exact wpAny_release ⟨σ,H3,I3,q3⟩
def AW (te:TE) (g:TG):TS:=fun D σ H=>te σ H fun x H1=>g x σ H1 D.nx
theorem DM {tg e:Expr} {te:TE} {g:TG} (he:PE X e te) (hg:PG X tg g) (hs:swapsWithSole [tg] e pos.line X.env = pure false:=by rfl) (hw:swappedStores [tg] e X.env = pure none:=by rfl)
  (h1:(assignEach [tg] X.env).map (·.2) = [assign tg X.env]:=by rfl):PS X (.Assign [tg] e pos) (AW te g):=by
 intro pins s σ H D I h
 refine wpAny_Assign_stores (dc (he pins s σ H _ I h) fun v s1 ⟨x,H1,I1,r1,q1⟩=>?_) hs hw
 rw [h1]
 exact dc (hg pins s1 σ H1 x v _ I1 r1 q1) fun _ s2 q=>q
theorem aG {i:Nat} {x:Str} {e:Expr} {te:TE} {pos':Pos} (hN:X.N.Nodup) (hi:X.N[i]? = some x) (hx:Loc X.env.scope x) (he:PE X e te) (hs:swapsWith e (some (.Name x pos')) pos.line X.env = pure false:=by rfl) (hf:X.fn x = true∨X.env.scope.names.lookup x = some .local:=by first | exact .inl rfl | exact .inr rfl | assumption) :
  PS X (.Assign [.Name x pos'] e pos) (AW te (vX i)):=by
 intro pins s σ H D I h
 refine wpAny_Assign_Name (dc (he pins s σ H _ I h) fun v s1 ⟨y,H1,I1,r1,q1⟩=>?_) hs
 exact iX I1 hN hi hx r1 (fun s2 I2=>⟨_,H1,I2,q1⟩) hf
def F0 (i j:Nat) (ta:TA):TS:=fun D σ H=>ta σ H fun vs H1=>∃ v w,vs = [v,w]∧D.nx ((σ.set i (some v)).set j (some w)) H1
theorem DK {i j:Nat} {x y:Str} {a b:Expr} {ta:TA} {px py pt:Pos} {kt k2 LS} (hc:X.calm = true) (hN:X.N.Nodup) (hi:X.N[i]? = some x) (hj:X.N[j]? = some y) (Ay:i≠j)
  (hx:X.env.scope.names.lookup x = some .local) (hy:X.env.scope.names.lookup y = some .local) (ha:PA X [a,b] ta)
  (hw:swappedStores [.Tuple [.Name x px,.Name y py] kt pt] (.Tuple [a,b] k2 LS) X.env = pure (some [x,y]))
  (hs:swapsWithSole [.Tuple [.Name x px,.Name y py] kt pt] (.Tuple [a,b] k2 LS) pos.line X.env = pure false:=by rfl) :
  PS X (.Assign [.Tuple [.Name x px,.Name y py] kt pt] (.Tuple [a,b] k2 LS) pos) (F0 i j ta):=by
 intro pins s σ H D I h
 rw [exec_Assign_arm]
 refine wpAny_bind (wpAny_standAt ?_)
 rw [hs]
 refine wpAny_bind (wpAny_pure ?_)
 rw [if_neg (by decide)]
 refine wpAny_bind (Tuple_ (dc (ha _ pins s σ H _ I h) fun us s1 ⟨vs,H1,I1,r1,q1⟩=>?_))
 obtain ⟨v,w,e1,q1⟩:=q1
 subst e1
 obtain ⟨u1,u2,rfl,rv,uZ⟩:∃ u1 u2,us = [u1,u2]∧RelV v u1∧RelV w u2:=by
  cases r1 with
  | cons p q=>
   cases q with
   | cons p' q'=>
    cases q'
    exact ⟨_,_,rfl,p,p'⟩
 refine wpAny_newObj_type ?_ (by show 2≤sizeLine; decide)
 have I2:Inv X pins σ H1 { s1 with heap:=s1.heap.push { cls:=.type "tuple",data:=.seq [u1,u2].toArray } }:=I1.kept (t':=s1.toks) fun b o e=>Heap.get?_push_of_some _ e
 rw [hw]
 refine wpAny_bind (wpAny_pure ?_)
 show wpAny (model X.prog X.w) X.A (do rule "assign.swapped-stores"; let items ← unpackItems (.ref s1.heap.objs.size) 2 none; assignInOrder [fun v=>bindName X.env y v,fun v=>bindName X.env x v] items.reverse; pure Flow.next) _ _ _
 refine wpAny_bind (wpAny_rule (wpAny_bind (unpackItems_tuple (items:=#[u1,u2]) (I.ok.hd hc) (IsTup.new s1.heap _) fun h' sH=>?_)))
 have I3:=I2.kept (h':=h') (t':=s1.toks) fun b o e=>sH b o (Nat.ne_of_lt (Heap.lt_size e)) e
 show wpAny _ _ (assignInOrder [fun v=>bindName X.env y v,fun v=>bindName X.env x v] [u2,u1] >>= fun _=>pure Flow.next) _ _ _
 refine wpAny_bind (assignInOrder_cons (wpAny_bindName (iX I3 hN hj (.inl hy) uZ (fun s2 I4=>?_) (.inr hy))))
 refine assignInOrder_cons (wpAny_bindName (iX I4 hN hi (.inl hx) rv (fun s3 I5=>assignInOrder_nil (wpAny_pure ?_)) (.inr hx)))
 rw [List.set_comm _ _ (Ne.symm Ay)] at I5
 exact ⟨_,H1,I5,q1⟩
def Ti (i:Nat) (te:TE) (ti:KH):TS:=fun D σ H=>∃ x,σ[i]? = some (some x)∧te σ H fun y H1=>ti x y H1 fun z H2=>D.nx (σ.set i (some z)) H2
def QI (to ti te:TE) (K1:V→V→Hp→VK→Prop) (S6:KH) (KR:Ck):TS:=fun D σ H=>to σ H fun o H1=>ti σ H1 fun i H2=>K1 o i H2 fun x H3=>te σ H3 fun y H4=>S6 x y H4 fun z H5=>KR o i z H5 fun H6=>D.nx σ H6
def Yf (X:Cx) (t:V→V→Hp→VK→Prop):Prop:=
 ∀ (pins:List (Addr×Obj)) (s:Shared) (σ : St) (H:Hp) (o i:V) (ov iv:Value) (Q:VK),Inv X pins σ H s→RelV o ov→RelV i iv→t o i H Q→
  wpAny (model X.prog X.w) X.A (getItem ov iv) (EP X pins σ Q) X.xe s
def Zt (f:Int→Int→Int):KH:=fun x y H Q=>∃ i j,x = .int i∧y = .int j∧Q (.int (f i j)) H
end
section
variable {X:Cx} {pos:Pos}
def x8 (c:TT) (tb:TS):TS:=fun D σ H=>∃ W:Nat→St→Hp→Prop,(∃ m,W m σ H)∧∀ m σ H,W m σ H→
 c σ H fun b H1=>if b = true then ∃ N:St→Hp→Prop,(∀ σ' H',N σ' H'→∃ m',m' < m∧W m' σ' H')∧tb { D with nx:=N,ct:=N,bk:=D.nx } σ H1 else D.nx σ H1
theorem ja {c:Expr} {body:List Stmt} {tc:TT} {tb:TS} (hp:PassesOwn (model X.prog X.w) X.A X.env X.xe) (hc:PT X c tc) (hb:uM X body tb):PS X (.While c body [] pos) (x8 tc tb):=by
 intro pins s σ H D I h
 obtain ⟨W,⟨m0,w0⟩,turn⟩:=h
 refine wpAny_While (codeAny_whileLoop (fun n s'=>∃ σ' H',Inv X pins σ' H' s'∧W n σ' H') ?_ m0 ⟨σ,H,I,w0⟩)
 rintro n s1 ⟨σ1,H1,I1,w1⟩
 refine wpAny_passesOwn hp (dc (hc pins s1 σ1 H1 _ I1 (turn n σ1 H1 w1)) fun b s2 ⟨H2,I2,q2⟩=>?_)
 cases b with
 | true=>
  obtain ⟨N,hN,q2⟩:=q2
  rw [if_pos rfl]
  refine wpAny_passesOwn hp (dc (hb pins s2 σ1 H2 _ I2 q2) fun f s3 q3=>?_)
  cases f with
  | next=>
   obtain ⟨σ3,H3,I3,n3⟩:=q3
   obtain ⟨m',hm,w3⟩:=hN σ3 H3 n3
   exact ⟨m',hm,σ3,H3,I3,w3⟩
  | cont=>
   obtain ⟨σ3,H3,I3,n3⟩:=q3
   obtain ⟨m',hm,w3⟩:=hN σ3 H3 n3
   exact ⟨m',hm,σ3,H3,I3,w3⟩
  | brk=>exact q3
  | ret v=>exact q3
 | false=>
  rw [if_neg Bool.false_ne_true]
  exact wpAny_execs_nil ⟨σ1,H2,I2,q2⟩
end
structure It where
 go:Nat→Hp→Prop
 xM:Nat→Hp→V→Hp→Prop
 stop:Nat→Hp→Prop
def mT (X:Cx) (pins:List (Addr×Obj)) (H:Hp) (b:Addr):Prop:=
 H b = none∧b≠X.env.locals∧b∉X.fs∧(b∈X.ex∨X.s₀.heap.objs.size≤b)∧(∀ x c,X.env.cells.lookup x = some c→c≠b)∧∀ p∈X.pn ++ pins,p.1≠b
theorem Inv.xq {X:Cx} {pins:List (Addr×Obj)} {σ : St} {H H':Hp} {s:Shared} {b:Addr} (I:Inv X pins σ H s) (hb:s.heap.objs.size≤b) (hn:H' b = none):mT X pins H' b:=by
 refine ⟨hn,Nat.ne_of_gt (Nat.lt_of_lt_of_le I.lt hb),I.MY hb,.inr (Nat.le_trans I.sz hb),fun x c e z=>?_,fun p hp z=>?_⟩
 ·obtain ⟨v,q⟩:=I.cell x c e
  exact absurd (Nat.lt_of_lt_of_le q.lt (by rw [z]; exact hb)) (Nat.lt_irrefl _)
 ·exact absurd (Nat.lt_of_lt_of_le (Heap.lt_size (I.pin p hp).1) (by rw [z]; exact hb)) (Nat.lt_irrefl _)
structure Turn (P:Program) (w:World) (K:PySem.W.Frag) (tg:Expr) (J:It) (fp:List Addr) (it:Addr) (tn:Nat→Heap→Prop):Prop where
 mem:it∈fp
 obj:∀ i h,tn i h→∀ b∈fp,∃ o,h.get? b = some o∧∀ v,o.data≠.cell v
 keep:∀ i h h',tn i h→(∀ b∈fp,∀ o,h.get? b = some o→h'.get? b = some o)→tn i h'
 item:∀ (X:Cx),X.prog = P→X.w = w→X.K = K→X.calm = true→∀ (i:Nat) (pins:List (Addr×Obj)) (s:Shared) (σ : St) (H:Hp) (E:Value→Shared→Prop),Inv X pins σ H s→(∀ b∈fp,mT X pins H b)→tn i s.heap→J.go i H→
  wpAny (model P w) X.A (pyNext (.ref it)) (fun r s1=>∃ u,r = some u∧
   wpAny (model P w) X.A (letOwnedTupleGo tg (.ref it) u) (fun _ s2=>∃ x H',Inv X pins σ H' s2∧RelV x u∧J.xM i H x H'∧tn (i + 1) s2.heap∧∀ b∈fp,H' b = none) E s1) E s
 done:∀ (X:Cx),X.prog = P→X.w = w→X.K = K→X.calm = true→∀ (i:Nat) (pins:List (Addr×Obj)) (s:Shared) (σ : St) (H:Hp) (E:Value→Shared→Prop),Inv X pins σ H s→(∀ b∈fp,mT X pins H b)→tn i s.heap→J.stop i H→
  wpAny (model P w) X.A (pyNext (.ref it)) (fun r s1=>r = none∧Inv X pins σ H s1) E s
 self:∀ (A:Around) (i:Nat) (s:Shared) (Q:Value→Shared→Prop) (E:Value→Shared→Prop),tn i s.heap→Q (.ref it) s→wpAny (model P w) A (pyIter (.ref it)) Q E s
abbrev TI:=St→Hp→(It→Hp→Prop)→Prop
def SJ (X:Cx) (pins:List (Addr×Obj)) (σ : St) (tg:Expr) (R:It→Hp→Prop) (NF:Value) (s2:Shared):Prop:=
 ∃ (it:Addr) (fp:List Addr) (tn:Nat→Heap→Prop) (J:It) (H':Hp),NF = .ref it∧Inv X pins σ H' s2∧Turn X.prog X.w X.K tg J fp it tn∧tn 0 s2.heap∧(∀ b∈fp,mT X pins H' b)∧R J H'
def PI (X:Cx) (tg iter:Expr) (wi:TI):Prop:=
 ∀ (pins:List (Addr×Obj)) (s:Shared) (σ : St) (H:Hp) (R:It→Hp→Prop),Inv X pins σ H s→wi σ H R→
  wpAny (model X.prog X.w) X.A (eval iter X.env) (fun v s1=>wpAny (model X.prog X.w) X.A (pyIter v) (SJ X pins σ tg R) X.xe s1) X.xe s
theorem C2 {M:Model} {A:Around} {E:Value→Shared→Prop} {s:Shared} {tg:Expr} {it:Addr} {u:Value} {o:Obj} {n:String} {vs:Array Value} {Q:Unit→Shared→Prop} (ho:s.heap.get? it = some o) (hc:o.cls = .type n) (hd:o.data = .fields vs)
  (hn:["enumerate", "zip", "dict_itemiterator", "dict_reverseitemiterator", "odict_iterator", "itertools.zip_longest", "itertools.pairwise"].contains n = false) (hQ:Q () s):wpAny M A (letOwnedTupleGo tg (.ref it) u) Q E s:=by
 unfold letOwnedTupleGo
 cases tg <;> first
  | exact wpAny_pure hQ
  | (cases u <;> first
    | exact wpAny_pure hQ
    | (
       refine wpAny_bind (wpAny_load ho ?_)
       rw [hc,hd]
       show wpAny M A (if (["enumerate", "zip", "dict_itemiterator", "dict_reverseitemiterator", "odict_iterator", "itertools.zip_longest", "itertools.pairwise"].contains n && vs[0]? == some (rawInt _)) = true then _ else _) Q E s
       rw [if_neg (by intro h; rw [hn,Bool.false_and] at h; cases h)]
       exact wpAny_pure hQ))
def Cn (K:PySem.W.Frag) (a:Addr):It:=
 ⟨fun i H=>∃ xs x,aD K H a xs∧xs[i]? = some x,fun i H x H'=>H' = H∧∀ xs,aD K H a xs→xs[i]? = some x,fun i H=>∃ xs,aD K H a xs∧xs.length≤i⟩
def Yl (K:PySem.W.Frag) (a:Addr):It:=
 ⟨fun i H=>∃ xs x,SqT K H a xs∧xs[i]? = some x,fun i H x H'=>H' = H∧∀ xs,SqT K H a xs→xs[i]? = some x,fun i H=>∃ xs,SqT K H a xs∧xs.length≤i⟩
def AJ (lo:Int) (n:Nat):It:=⟨fun i _=>i < n,fun i H x H'=>H' = H∧x = .int (lo + i),fun i _=>n≤i⟩
theorem wD {P:Program} {w:World} {K:PySem.W.Frag} {tg:Expr} (a it:Addr):Turn P w K tg (Cn K a) [it] it (fun i h=>h.IsListIter it a i) where
 mem:=by simp
 obj:=fun i h st b hb=>by
  have e:b = it:=by simpa using hb
  subst e
  obtain ⟨o,e,c,d⟩:=st
  exact ⟨o,e,fun v z=>by rw [d] at z; cases z⟩
 keep:=fun i h h' st k=>st.at fun o e=>k it (by simp) o e
 item:=by
  intro X hP hw hK hc i pins s σ H E I hf st hg
  subst hP hw hK
  obtain ⟨xs,x,hq,hx⟩:=hg
  obtain ⟨aL,rv,p,hz⟩:=I.list hq
  obtain ⟨u,hu,ru⟩:=rv.get hx
  obtain ⟨f0,f1,f2,f3,f4,f5⟩:=hf it (by simp)
  refine wpAny_pyNext_list_item st p.isList (x:=u) (by simpa using hu) fun h' yd sb=>?_
  have I1:Inv X pins σ H { s with heap:=h' }:=I.turned (t':=s.toks) (fun b o hb e=>(sb.2 b hb).trans e) f0 f1 f3 f4 f5
  obtain ⟨o,e,c,d⟩:=id yd
  exact ⟨u,rfl,C2 (s:={ s with heap:=h' }) e c d (by decide) ⟨x,H,I1,ru,⟨rfl,fun ys hy=>by rw [I.jq hy hq]; exact hx⟩,yd,fun b hb=>(hf b hb).1⟩⟩
 done:=by
  intro X hP hw hK hc i pins s σ H E I hf st hg
  subst hP hw hK
  obtain ⟨xs,hq,hx⟩:=hg
  obtain ⟨aL,rv,p,hz⟩:=I.list hq
  obtain ⟨f0,f1,f2,f3,f4,f5⟩:=hf it (by simp)
  have hl:=rv.length
  exact wpAny_pyNext_list_end (I.ok.hd hc) st p.isList (by simp; omega) fun h' eb=>⟨rfl,I.turned (t':=s.toks) (fun b o hb e=>eb b o hb e) f0 f1 f3 f4 f5⟩
 self:=fun _ _ _ _ _ st h=>wpAny_pyIter_listiter st h
theorem tM {P:Program} {w:World} {K:PySem.W.Frag} {tg:Expr} (it:Addr) (lo:Int) (n:Nat):Turn P w K tg (AJ lo n) [it] it (fun i h=>IsRangeIter h it (lo + (i:Nat) * 1) ((n:Int) - (i:Nat)) 1) where
 mem:=by simp
 obj:=fun i h st b hb=>by
  have e:b = it:=by simpa using hb
  subst e
  exact ⟨_,st,fun v z=>by
   have z':Data.fields _ = Data.cell v:=z
   cases z'⟩
 keep:=fun i h h' st k=>k it (by simp) _ st
 item:=by
  intro X hP hw hK hc i pins s σ H E I hf st hg
  subst hP hw hK
  obtain ⟨f0,f1,f2,f3,f4,f5⟩:=hf it (by simp)
  have W:=Walks.range (prog:=X.prog) (w:=X.w) (I.ok.hd hc) it lo 1 n
  refine W.item i s _ _ hg st fun v h' tk hv yd kk=>?_
  obtain ⟨t,rfl⟩:=hv
  have I1:Inv X pins σ H { s with heap:=h',toks:=tk }:=I.turned (fun b o hb e=>kk b o (by simpa using hb) e) f0 f1 f3 f4 f5
  refine ⟨_,rfl,C2 (s:={ s with heap:=h',toks:=tk }) (n:= "range_iterator") yd rfl rfl (by decide) ⟨.int (lo + i),H,I1,⟨t,?_⟩,⟨rfl,rfl⟩,yd,fun b hb=>(hf b hb).1⟩⟩
  rw [Int.mul_one]
 done:=by
  intro X hP hw hK hc i pins s σ H E I hf st hg
  subst hP hw hK
  obtain ⟨f0,f1,f2,f3,f4,f5⟩:=hf it (by simp)
  exact wpAny_pyNext_range_end (I.ok.hd hc) st (by have:n≤i:=hg; omega) fun h' eb=>⟨rfl,I.turned (t':=s.toks) (fun b o hb e=>eb b o hb e) f0 f1 f3 f4 f5⟩
 self:=fun _ _ _ _ _ st h=>wpAny_pyIter_rangeiter st h
end L2
namespace L2
open PySem PySem.Spec PyProof.Rows
section
variable {X:Cx} {tg:Expr}
def CT (K:PySem.W.Frag) (tl:TE):TI:=fun σ H R=>tl σ H fun x H1=>∃ a,x = .ref a∧(∃ xs,aD K H1 a xs)∧R (Cn K a) H1
def V1 (K:PySem.W.Frag) (tl:TE):TI:=fun σ H R=>tl σ H fun x H1=>∃ a,x = .ref a∧(∃ xs,SqT K H1 a xs)∧R (Yl K a) H1
theorem cD {l:Expr} {tl:TE} (hl:PE X l tl):PI X tg l (CT X.K tl):=by
 intro pins s σ H R I h
 refine dc (hl pins s σ H _ I h) fun v s1 ⟨x,H1,I1,r1,q1⟩=>?_
 obtain ⟨a,e,⟨xs,hq⟩,q⟩:=q1
 subst e
 cases r1
 obtain ⟨aL,rv,p,hz⟩:=I1.list hq
 refine wpAny_pyIter_list p.isList ?_
 refine ⟨s1.heap.objs.size,[s1.heap.objs.size],_,_,H1,rfl,I1.kept (t':=s1.toks) fun b o e=>Heap.get?_push_of_some _ e,wD a _,⟨_,Heap.get?_push_size _ rfl,rfl,rfl⟩,fun b hb=>?_,q⟩
 have e:b = s1.heap.objs.size:=by simpa using hb
 subst e
 exact I1.xq (Nat.le_refl _) (I1.bS.fresh (Nat.le_refl _))
theorem yv {pins:List (Addr×Obj)} {σ : St} {H:Hp} {s:Shared} {R:It→Hp→Prop} {E:Value→Shared→Prop} {lo hi:Int} {t u v:Tok} {tk:Nat} (I:Inv X pins σ H s) (h1 : -(2 ^ 62)≤lo) (h2:lo < 2 ^ 62) (h3 : -(2 ^ 62)≤hi) (h4:hi < 2 ^ 62)
  (q:R (AJ lo (hi - lo).toNat) H):wpAny (model X.prog X.w) X.A (pyIter (.ref s.heap.objs.size)) (SJ X pins σ tg R) E { s with heap:=s.heap.push { cls:=.type "range",data:=.fields #[.int lo t,.int hi u,.int 1 v] },toks:=tk }:=by
 refine wpAny_pyIter_range (IsRange.new ..) (small_one h1 h2 h3 h4) ?_
 have I1:Inv X pins σ H { s with heap:=s.heap.push { cls:=.type "range",data:=.fields #[.int lo t,.int hi u,.int 1 v] },toks:=tk }:=I.kept fun b o e=>Heap.get?_push_of_some _ e
 refine ⟨(s.heap.push { cls:=.type "range",data:=.fields #[.int lo t,.int hi u,.int 1 v] }).objs.size,[(s.heap.push { cls:=.type "range",data:=.fields #[.int lo t,.int hi u,.int 1 v] }).objs.size],_,_,H,rfl,
  I1.kept (t':=tk) fun b o e=>Heap.get?_push_of_some _ e,tM _ lo (hi - lo).toNat,?_,fun b hb=>?_,q⟩
 ·have e1:lo + ((0:Nat):Int) * 1 = lo:=by simp
  have e2:(((hi - lo).toNat:Nat):Int) - ((0:Nat):Int) = Builtin.Range.rangeSize lo hi 1:=by rw [rangeSize_one]; split <;> omega
  show IsRangeIter _ _ (lo + ((0:Nat):Int) * 1) ((((hi - lo).toNat:Nat):Int) - ((0:Nat):Int)) 1
  rw [e1,e2]
  exact Heap.get?_push_size _ rfl
 ·have e:b = (s.heap.push { cls:=.type "range",data:=.fields #[.int lo t,.int hi u,.int 1 v] }).objs.size:=by simpa using hb
  subst e
  exact I1.xq (Nat.le_refl _) (I1.bS.fresh (Nat.le_refl _))
def G0 (ta:TA):TI:=fun σ H R=>ta σ H fun vs H1=>∃ j:Int,vs = [.int j]∧-(2 ^ 62)≤j∧j < 2 ^ 62∧R (AJ 0 j.toNat) H1
def Rt (ta:TA):TI:=fun σ H R=>ta σ H fun vs H1=>∃ i j:Int,vs = [.int i,.int j]∧(-(2 ^ 62)≤i∧i < 2 ^ 62∧-(2 ^ 62)≤j∧j < 2 ^ 62)∧R (AJ i (j - i).toNat) H1
theorem cQ {a:Expr} {ta:TA} {p pos:Pos} (hg:Gl X "range") (hm:X.mg "range" = none) (ha:PA X [a] ta) (hs:starEach [a] X.env = [(false,eval a X.env)]:=by rfl):PI X tg (.Call (.Name "range" p) [a] [] pos) (G0 ta):=by
 intro pins s σ H R I h
 refine Call_ (gk I hg hm boot_range (PyProof.Rows.callWith_type1 (dc (ha pos pins s σ H _ I h) fun us s1 ⟨vs,H1,I1,r1,q1⟩=>?_) hs rfl))
 obtain ⟨j,e,q1,q2,q⟩:=q1
 subst e
 cases r1 with
 | cons r rr=>
  cases rr
  obtain ⟨t,rfl⟩:=r
  exact call_range_1 (yv I1 (by omega) (by omega) q1 q2 (by simpa using q))
def F5 (wi:TI) (g:TG) (tb:TS):TS:=fun D σ H=>wi σ H fun J H1=>∃ W:Nat→Nat→St→Hp→Prop,(∃ m,W 0 m σ H1)∧∀ i m σ H,W i m σ H→
 (J.stop i H∧D.nx σ H)∨(J.go i H∧∃ N:St→Hp→Prop,(∀ σ' H',N σ' H'→∃ m',m' < m∧W (i + 1) m' σ' H')∧∀ x H',J.xM i H x H'→g x σ H' fun σ2 H2=>tb { D with nx:=N,ct:=N,bk:=D.nx } σ2 H2)
def lF (fp:List Addr) (h:Heap):List (Addr×Obj):=fp.filterMap fun b=>(h.get? b).map fun o=>(b,o)
theorem gh {fp:List Addr} {h:Heap} {b:Addr} {o:Obj} (hb:b∈fp) (e:h.get? b = some o):(b,o)∈lF fp h:=List.mem_filterMap.mpr ⟨b,hb,by rw [e]; rfl⟩
theorem wV {fp:List Addr} {h:Heap} {p:Addr×Obj} (hp:p∈lF fp h):p.1∈fp∧h.get? p.1 = some p.2:=by
 obtain ⟨b,hb,e⟩:=List.mem_filterMap.mp hp
 cases q:h.get? b with
 | none=>rw [q] at e; cases e
 | some o=>
  rw [q] at e
  have e':(b,o) = p:=Option.some.inj e
  subst e'
  exact ⟨hb,q⟩
theorem Inv.pinned {pins:List (Addr×Obj)} {σ : St} {H:Hp} {s:Shared} {fp:List Addr} (I:Inv X pins σ H s) (hf:∀ b∈fp,mT X pins H b) (ho:∀ b∈fp,∃ o,s.heap.get? b = some o∧∀ v,o.data≠.cell v):Inv X (pins ++ lF fp s.heap) σ H s:=
 I.pB fun p hp=>(List.mem_append.mp hp).elim (fun z=>I.pin p (List.mem_append_right _ z)) fun z=>by
  obtain ⟨hb,e⟩:=wV z
  obtain ⟨f0,f1,f2,_⟩:=hf p.1 hb
  obtain ⟨o,e',d⟩:=ho p.1 hb
  rw [e] at e'; cases e'
  exact ⟨e,f0,f1,f2,d⟩
theorem Inv.iU {pins pl:List (Addr×Obj)} {σ : St} {H:Hp} {s:Shared} (I:Inv X (pins ++ pl) σ H s):Inv X pins σ H s:=I.pB fun p hp=>I.pin p (List.mem_append_right _ (List.mem_append_left _ hp))
theorem cg {iter:Expr} {body:List Stmt} {wi:TI} {g:TG} {tb:TS} {pos:Pos} (hp:PassesOwn (model X.prog X.w) X.A X.env X.xe) (hc:X.calm = true) (hi:PI X tg iter wi) (hg:PG X tg g) (hb:uM X body tb)
  (hs:∀ x,foldedSetIterable iter X.env x = pure x:=by intro _; rfl):PS X (.For tg iter body [] pos) (F5 wi g tb):=by
 intro pins s σ H D I h
 refine wpAny_For (dc (hi pins s σ H _ I h) fun v s1 h1=>dc h1 fun NF s2 h2=>?_) hs
 obtain ⟨it,fp,tn,J,H2,e,I2,T,Fg,f2,W,⟨m0,w0⟩,turn⟩:=h2
 subst e
 -- KQ stays true of qT iterator's objects through qT loop
 have Dr:∀ {H':Hp},(∀ b∈fp,H' b = none)→∀ b∈fp,mT X pins H' b:=fun hn b hb=>⟨hn b hb,(f2 b hb).2⟩
 refine codeAny_forLoop_any (fun n s'=>∃ i σ' H',Inv X pins σ' H' s'∧tn i s'.heap∧(∀ b∈fp,H' b = none)∧W i n σ' H') ?_ m0 ⟨0,σ,H2,I2,Fg,fun b hb=>(f2 b hb).1,w0⟩
 rintro n s3 ⟨i,σ3,H3,I3,QJ,xR,w3⟩
 rcases turn i n σ3 H3 w3 with ⟨stop,qn⟩ | ⟨go,N,hN,step⟩
 ·refine wpAny_passesOwn hp (dc (T.done X rfl rfl rfl hc i pins s3 σ3 H3 X.xe I3 (Dr xR) QJ stop) fun r s4 ⟨hr,I4⟩=>?_)
  subst hr
  exact wpAny_execs_nil ⟨σ3,H3,I4,qn⟩
 ·refine wpAny_passesOwn hp (dc (T.item X rfl rfl rfl hc i pins s3 σ3 H3 X.xe I3 (Dr xR) QJ go) fun r s4 ⟨u,hr,h4⟩=>?_)
  subst hr
  refine wpAny_passesOwn hp (dc h4 fun _ s5 ⟨x,H5,I5,r5,y5,Lf,Xd⟩=>?_)
  have Yp:=I5.pinned (Dr Xd) (T.obj _ _ Lf)
  refine wpAny_passesOwn hp (dc (hg _ s5 σ3 H5 x u _ Yp r5 (step x H5 y5)) fun _ s6 ⟨σ6,H6,I6,q6⟩=>?_)
  refine wpAny_passesOwn hp (dc (hb _ s6 σ6 H6 _ I6 q6) fun f s7 q7=>?_)
  have again:∀ {σ7:St} {H7:Hp},Inv X (pins ++ lF fp s5.heap) σ7 H7 s7→N σ7 H7→∃ m,m < n∧∃ i σ' H',Inv X pins σ' H' s7∧tn i s7.heap∧(∀ b∈fp,H' b = none)∧W i m σ' H':=fun {σ7 H7} I7 n7=>by
   obtain ⟨m',hm,w7⟩:=hN σ7 H7 n7
   refine ⟨m',hm,i + 1,σ7,H7,I7.iU,T.keep _ _ _ Lf fun b hb o e=>(I7.pin (b,o) (List.mem_append_right _ (List.mem_append_right _ (gh hb e)))).1,fun b hb=>?_,w7⟩
   obtain ⟨o,e,d⟩:=T.obj _ _ Lf b hb
   exact (I7.pin (b,o) (List.mem_append_right _ (List.mem_append_right _ (gh hb e)))).2.1
  cases f with
  | next=>obtain ⟨σ7,H7,I7,n7⟩:=q7; exact again I7 n7
  | cont=>obtain ⟨σ7,H7,I7,n7⟩:=q7; exact again I7 n7
  | brk=>obtain ⟨σ7,H7,I7,q7⟩:=q7; exact ⟨σ7,H7,I7.iU,q7⟩
  | ret v=>obtain ⟨x7,σ7,H7,I7,r7,q7⟩:=q7; exact ⟨x7,σ7,H7,I7.iU,r7,q7⟩
end
theorem eg {K:PySem.W.Frag} {a:Addr} {xs:List V} {g:TG} {tb:TS} {D:Ends} {σ : St} {H:Hp} (Pv:Nat→St→Hp→Prop) (h0:Pv 0 σ H) (hl:∀ i σ H,i≤xs.length→Pv i σ H→aD K H a xs)
  (hs:∀ i x σ H,xs[i]? = some x→Pv i σ H→g x σ H fun σ2 H2=>tb { D with nx:=Pv (i + 1),ct:=Pv (i + 1),bk:=D.nx } σ2 H2) (hd:∀ σ H,Pv xs.length σ H→D.nx σ H) :
  ∃ W:Nat→Nat→St→Hp→Prop,(∃ m,W 0 m σ H)∧∀ i m σ H,W i m σ H→
   ((Cn K a).stop i H∧D.nx σ H)∨((Cn K a).go i H∧∃ N:St→Hp→Prop,(∀ σ' H',N σ' H'→∃ m',m' < m∧W (i + 1) m' σ' H')∧∀ x H',(Cn K a).xM i H x H'→g x σ H' fun σ2 H2=>tb { D with nx:=N,ct:=N,bk:=D.nx } σ2 H2):=by
 refine ⟨fun i m σ H=>m = xs.length - i∧i≤xs.length∧Pv i σ H,⟨xs.length,by simp,Nat.zero_le _,h0⟩,?_⟩
 rintro i m σ H ⟨rfl,hi,p⟩
 have q:=hl i σ H hi p
 by_cases eG:i < xs.length
 ·refine .inr ⟨⟨xs,xs[i],q,by simp [eG]⟩,Pv (i + 1),fun σ' H' p'=>⟨xs.length - (i + 1),by omega,rfl,eG,p'⟩,fun x H' y=>?_⟩
  obtain ⟨e,y⟩:=y
  subst e
  exact hs i x σ _ (y xs q) p
 ·have e:i = xs.length:=by omega
  subst e
  exact .inl ⟨⟨xs,q,Nat.le_refl _⟩,hd σ H p⟩
theorem dU {lo:Int} {n:Nat} {g:TG} {tb:TS} {D:Ends} {σ : St} {H:Hp} (Pv:Nat→St→Hp→Prop) (h0:Pv 0 σ H)
  (hs:∀ i σ H,i < n→Pv i σ H→g (.int (lo + i)) σ H fun σ2 H2=>tb { D with nx:=Pv (i + 1),ct:=Pv (i + 1),bk:=D.nx } σ2 H2) (hd:∀ σ H,Pv n σ H→D.nx σ H) :
  ∃ W:Nat→Nat→St→Hp→Prop,(∃ m,W 0 m σ H)∧∀ i m σ H,W i m σ H→
   ((AJ lo n).stop i H∧D.nx σ H)∨((AJ lo n).go i H∧∃ N:St→Hp→Prop,(∀ σ' H',N σ' H'→∃ m',m' < m∧W (i + 1) m' σ' H')∧∀ x H',(AJ lo n).xM i H x H'→g x σ H' fun σ2 H2=>tb { D with nx:=N,ct:=N,bk:=D.nx } σ2 H2):=by
 refine ⟨fun i m σ H=>m = n - i∧i≤n∧Pv i σ H,⟨n,by simp,Nat.zero_le _,h0⟩,?_⟩
 rintro i m σ H ⟨rfl,hi,p⟩
 by_cases eG:i < n
 ·refine .inr ⟨eG,Pv (i + 1),fun σ' H' p'=>⟨n - (i + 1),by omega,rfl,eG,p'⟩,fun x H' y=>?_⟩
  obtain ⟨e,y⟩:=y
  subst e y
  exact hs i σ _ eG p
 ·have e:i = n:=by omega
  subst e
  exact .inl ⟨Nat.le_refl _,hd σ H p⟩
end L2
namespace L2
open PySem PySem.Spec PyProof.Rows
abbrev R2:=V→V→Hp→VK→Prop
def jT (X:Cx) (f:Value→Value→Sem Value) (r:R2):Prop:=
 ∀ (pins:List (Addr×Obj)) (s:Shared) (σ : St) (H:Hp) (x y:V) (v u:Value) (Q:VK),Inv X pins σ H s→RelV x v→RelV y u→r x y H Q→
  wpAny (model X.prog X.w) X.A (f v u) (EP X pins σ Q) X.xe s
def ZK (X:Cx) (f:Value→Sem Value) (r:V→Hp→VK→Prop):Prop:=
 ∀ (pins:List (Addr×Obj)) (s:Shared) (σ : St) (H:Hp) (x:V) (v:Value) (Q:VK),Inv X pins σ H s→RelV x v→r x H Q→
  wpAny (model X.prog X.w) X.A (f v) (EP X pins σ Q) X.xe s
def fH (X:Cx) (f:Value) (r:List V→Hp→VK→Prop):Prop:=
 ∀ (pins:List (Addr×Obj)) (s:Shared) (σ : St) (H:Hp) (xs:List V) (us:List Value) (Q:VK),Inv X pins σ H s→Vals xs us→r xs H Q→
  wpAny (model X.prog X.w) X.A (call f us) (EP X pins σ Q) X.xe s
def Qk (X:Cx) (r:V→Hp→(Bool→Hp→Prop)→Prop):Prop:=
 ∀ (pins:List (Addr×Obj)) (s:Shared) (σ : St) (H:Hp) (x:V) (v:Value) (Q:Bool→Hp→Prop),Inv X pins σ H s→RelV x v→r x H Q→
  wpAny (model X.prog X.w) X.A (truthy v) (TP X pins σ Q) X.xe s
def F1 (r:R2) (ta tb:TE):TE:=fun σ H Q=>ta σ H fun x H1=>tb σ H1 fun y H2=>r x y H2 Q
def YT (r:V→Hp→VK→Prop) (ta:TE):TE:=fun σ H Q=>ta σ H fun x H1=>r x H1 Q
def rI (C:Int→Int→Prop) (g:Int→Int→V):R2:=fun x y H Q=>∃ i j,x = .int i∧y = .int j∧C i j∧Q (g i j) H
def CJ (g:Int→Int→V):R2:=fun x y H Q=>∃ i j,x = .int i∧y = .int j∧Q (g i j) H
def rU (g:Int→V):V→Hp→VK→Prop:=fun x H Q=>∃ i,x = .int i∧Q (g i) H
section
variable {X:Cx} {a b c:Expr} {ta tb tc:TE} {pos:Pos}
theorem E3 (ha:PE X a ta) (hb:PE X b tb) {pins:List (Addr×Obj)} {s:Shared} {σ : St} {H:Hp} {R:V→V→Hp→Prop} (I:Inv X pins σ H s)
  (h:ta σ H fun x H1=>tb σ H1 fun y H2=>R x y H2) {Q:Value→Shared→Prop} {f:Value→Value→Sem Value}
  (hf:∀ v u s2 x y H2,Inv X pins σ H2 s2→RelV x v→RelV y u→R x y H2→wpAny (model X.prog X.w) X.A (f v u) Q X.xe s2) :
  wpAny (model X.prog X.w) X.A (eval a X.env) (fun v s₁=>wpAny (model X.prog X.w) X.A (eval b X.env) (fun u s₂=>wpAny (model X.prog X.w) X.A (f v u) Q X.xe s₂) X.xe s₁) X.xe s:=by
 refine dc (ha pins s σ H _ I h) fun v s1 ⟨x,H1,I1,r1,q1⟩=>?_
 refine dc (hb pins s1 σ H1 _ I1 q1) fun u s2 ⟨y,H2,I2,r2,q2⟩=>?_
 exact hf v u s2 x y H2 I2 r1 r2 q2
theorem aU {op:Operator} {r:R2} (ho:jT X (binaryOp op) r) (ha:PE X a ta) (hb:PE X b tb):PE X (.BinOp a op b pos) (F1 r ta tb):=by
 intro pins s σ H Q I h
 exact wpAny_BinOp (E3 ha hb I h fun v u s2 x y H2 I2 rx ry q=>ho pins s2 σ H2 x y v u Q I2 rx ry q)
theorem Jx {f:Value→Value→Sem Value} {C:Int→Int→Prop} {g:Int→Int→Int}
  (rule:∀ (i j:Int) (t u:Tok) (s:Shared) (Q:Value→Shared→Prop) (E:Value→Shared→Prop),C i j→Q (.int (g i j) s.toks) { s with toks:=s.toks + 1 }→wpAny (model X.prog X.w) X.A (f (.int i t) (.int j u)) Q E s) :
  jT X f (rI C fun i j=>.int (g i j)):=by
 intro pins s σ H x y v u Q I rx ry h
 obtain ⟨i,j,rfl,rfl,hc,q⟩:=h
 obtain ⟨t,rfl⟩:=rx
 obtain ⟨t',rfl⟩:=ry
 exact rule i j t t' s _ _ hc ⟨.int (g i j),H,I.tok _,⟨_,rfl⟩,q⟩
theorem GI {f:Value→Value→Sem Value} {g:Int→Int→Int}
  (rule:∀ (i j:Int) (t u:Tok) (s:Shared) (Q:Value→Shared→Prop) (E:Value→Shared→Prop),Q (.int (g i j) s.toks) { s with toks:=s.toks + 1 }→wpAny (model X.prog X.w) X.A (f (.int i t) (.int j u)) Q E s) :
  jT X f (CJ fun i j=>.int (g i j)):=by
 intro pins s σ H x y v u Q I rx ry h
 obtain ⟨i,j,rfl,rfl,q⟩:=h
 obtain ⟨t,rfl⟩:=rx
 obtain ⟨t',rfl⟩:=ry
 exact rule i j t t' s _ _ ⟨.int (g i j),H,I.tok _,⟨_,rfl⟩,q⟩
theorem DW {f:Value→Value→Sem Value} {g:Int→Int→Bool}
  (rule:∀ (i j:Int) (t u:Tok) (s:Shared) (Q:Value→Shared→Prop) (E:Value→Shared→Prop),Q (.bool (g i j)) s→wpAny (model X.prog X.w) X.A (f (.int i t) (.int j u)) Q E s) :
  jT X f (CJ fun i j=>.bl (g i j)):=by
 intro pins s σ H x y v u Q I rx ry h
 obtain ⟨i,j,rfl,rfl,q⟩:=h
 obtain ⟨t,rfl⟩:=rx
 obtain ⟨t',rfl⟩:=ry
 exact rule i j t t' s _ _ ⟨.bl (g i j),H,I,rfl,q⟩
def YL (i j:Int):Prop:=0 < j∧j < 1073741824
def SM (i j:Int):Prop:=j≠0∧j.natAbs < 1073741824
def Qp (i j:Int):Prop:=0≤j∧j≤1000000∧i.natAbs < 2 ^ 64
def YK (i j:Int):Prop:=(-(2 ^ 64) < i∧i < 2 ^ 64)∨(-(2 ^ 64) < j∧j < 2 ^ 64)
theorem fK:jT X (binaryOp .Add) (CJ fun i j=>.int (i + j)):=GI fun _ _ _ _ _ _ _ q=>add_int q
theorem jI:jT X (binaryOp .Sub) (CJ fun i j=>.int (i - j)):=GI fun _ _ _ _ _ _ _ q=>sub_int q
theorem dr:jT X (binaryOp .Mod) (rI (fun _ j=>0 < j) fun i j=>.int (i % j)):=Jx fun i j _ _ _ _ _ hc q=>by
 have h1:(0:Int) < j:=hc
 exact mod_int' (by omega) (by rw [Int.fmod_eq_emod_of_nonneg i (by omega)]; exact q)
theorem ud:jT X (binaryOp .Pow) (rI Qp fun i j=>.int (i ^ j.toNat)):=Jx fun _ _ _ _ _ _ _ hc q=>pow_int_small hc.1 hc.2.1 hc.2.2 q
end
def Gd:V→V→Bool
 | .cV,.cV=>true | .cV,.int _=>true | .int _,.cV=>true | .cV,.bl _=>true | .bl _,.cV=>true | .cV,.str _=>true | .str _,.cV=>true
 | .int _,.int _=>true | .bl _,.bl _=>true | .str _,.str _=>true | .tI _,.tI _=>true
 | .int _,.str _=>true | .str _,.int _=>true | .bl _,.str _=>true | .str _,.bl _=>true
 | _,_=>false
def QX:R2:=fun x y H Q=>Gd x y = true∧Q (.bl (decide (x = y))) H
def QV:R2:=fun x y H Q=>Gd x y = true∧Q (.bl (!decide (x = y))) H
theorem kR {i j:Int}:decide (V.int i = V.int j) = (i == j):=by
 rw [Bool.eq_iff_iff]
 simp
theorem zV {i j:Bool}:decide (V.bl i = V.bl j) = (i == j):=by
 rw [Bool.eq_iff_iff]
 simp
theorem vZ {i j:Str}:decide (V.str i = V.str j) = (i == j):=by
 rw [Bool.eq_iff_iff]
 simp
theorem wd {i j:Array UInt8}:decide (V.tI i = V.tI j) = (i.toList == j.toList):=by
 rw [Bool.eq_iff_iff]
 cases i
 cases j
 simp
section
variable {X:Cx} {a b c:Expr} {ta tb tc:TE} {pos:Pos}
theorem bc {pins:List (Addr×Obj)} {σ : St} {H:Hp} {s:Shared} {Q:VK} {k k':Bool} (I:Inv X pins σ H s) (q:Q (.bl k) H) (e:k = k'):EP X pins σ Q (.bool k') s:=by
 subst e
 exact ⟨.bl k,H,I,rfl,q⟩
theorem ji:jT X (compareOp .Eq) QX:=by
 intro pins s σ H x y v u Q I rx ry h
 obtain ⟨hs,q⟩:=h
 cases x with
 | cV=>
  cases rx
  cases y with
  | cV=>cases ry; exact PySem.EqNone.eq_none_none (bc I q (by simp))
  | bl j=>cases ry; exact PySem.EqNone.eq_none_bool (bc I q (by simp))
  | int j=>obtain ⟨t',rfl⟩:=ry; exact PySem.EqNone.eq_none_int (bc I q (by simp))
  | str j=>obtain ⟨t',rfl⟩:=ry; exact PySem.EqNone.eq_none_str (bc I q (by simp))
  | _=>exact absurd (show false = true from hs) Bool.false_ne_true
 | bl i=>
  cases rx
  cases y with
  | cV=>cases ry; exact PySem.EqNone.eq_bool_none (bc I q (by simp))
  | bl j=>cases ry; exact eq_bool (bc I q zV)
  | str j=>obtain ⟨t',rfl⟩:=ry; exact PySem.EqMixed.eq_bool_str (bc I q (by simp))
  | _=>exact absurd (show false = true from hs) Bool.false_ne_true
 | int i=>
  obtain ⟨t,rfl⟩:=rx
  cases y with
  | cV=>cases ry; exact PySem.EqNone.eq_int_none (bc I q (by simp))
  | int j=>obtain ⟨t',rfl⟩:=ry; exact eq_int (bc I q kR)
  | str j=>obtain ⟨t',rfl⟩:=ry; exact PySem.EqMixed.eq_int_str (bc I q (by simp))
  | _=>exact absurd (show false = true from hs) Bool.false_ne_true
 | str i=>
  obtain ⟨t,rfl⟩:=rx
  cases y with
  | cV=>cases ry; exact PySem.EqNone.eq_str_none (bc I q (by simp))
  | bl j=>cases ry; exact PySem.EqMixed.eq_str_bool (bc I q (by simp))
  | int j=>obtain ⟨t',rfl⟩:=ry; exact PySem.EqMixed.eq_str_int (bc I q (by simp))
  | str j=>obtain ⟨t',rfl⟩:=ry; exact eq_str (bc I q vZ)
  | _=>exact absurd (show false = true from hs) Bool.false_ne_true
 | tI i=>
  obtain ⟨t,rfl⟩:=rx
  cases y with
  | tI j=>obtain ⟨t',rfl⟩:=ry; exact PySem.W.eq_bytes (bc I q wd)
  | _=>exact absurd (show false = true from hs) Bool.false_ne_true
 | _=>cases y <;> exact absurd (show false = true from hs) Bool.false_ne_true
theorem gw:jT X (compareOp .NotEq) QV:=by
 intro pins s σ H x y v u Q I rx ry h
 obtain ⟨hs,q⟩:=h
 cases x with
 | cV=>
  cases rx
  cases y with
  | cV=>cases ry; exact PySem.EqNone.ne_none_none (bc I q (by simp))
  | bl j=>cases ry; exact PySem.EqNone.ne_none_bool (bc I q (by simp))
  | int j=>obtain ⟨t',rfl⟩:=ry; exact PySem.EqNone.ne_none_int (bc I q (by simp))
  | str j=>obtain ⟨t',rfl⟩:=ry; exact PySem.EqNone.ne_none_str (bc I q (by simp))
  | _=>exact absurd (show false = true from hs) Bool.false_ne_true
 | bl i=>
  cases rx
  cases y with
  | cV=>cases ry; exact PySem.EqNone.ne_bool_none (bc I q (by simp))
  | bl j=>cases ry; exact ne_bool (bc I q (congrArg not zV))
  | str j=>obtain ⟨t',rfl⟩:=ry; exact PySem.EqMixed.ne_bool_str (bc I q (by simp))
  | _=>exact absurd (show false = true from hs) Bool.false_ne_true
 | int i=>
  obtain ⟨t,rfl⟩:=rx
  cases y with
  | cV=>cases ry; exact PySem.EqNone.ne_int_none (bc I q (by simp))
  | int j=>obtain ⟨t',rfl⟩:=ry; exact ne_int (bc I q (congrArg not kR))
  | str j=>obtain ⟨t',rfl⟩:=ry; exact PySem.EqMixed.ne_int_str (bc I q (by simp))
  | _=>exact absurd (show false = true from hs) Bool.false_ne_true
 | str i=>
  obtain ⟨t,rfl⟩:=rx
  cases y with
  | cV=>cases ry; exact PySem.EqNone.ne_str_none (bc I q (by simp))
  | bl j=>cases ry; exact PySem.EqMixed.ne_str_bool (bc I q (by simp))
  | int j=>obtain ⟨t',rfl⟩:=ry; exact PySem.EqMixed.ne_str_int (bc I q (by simp))
  | str j=>obtain ⟨t',rfl⟩:=ry; exact ne_str (bc I q (congrArg not vZ))
  | _=>exact absurd (show false = true from hs) Bool.false_ne_true
 | tI i=>
  obtain ⟨t,rfl⟩:=rx
  cases y with
  | tI j=>obtain ⟨t',rfl⟩:=ry; exact PySem.W.ne_bytes (bc I q (congrArg not wd))
  | _=>exact absurd (show false = true from hs) Bool.false_ne_true
 | _=>cases y <;> exact absurd (show false = true from hs) Bool.false_ne_true
theorem vI:jT X (compareOp .Lt) (CJ fun i j=>.bl (decide (i < j))):=DW fun _ _ _ _ _ _ _ q=>lt_int q
theorem rZ:jT X (compareOp .Gt) (CJ fun i j=>.bl (decide (j < i))):=DW fun _ _ _ _ _ _ _ q=>gt_int q
theorem GH:jT X (compareOp .GtE) (CJ fun i j=>.bl (decide (j≤i))):=DW fun _ _ _ _ _ _ _ q=>ge_int q
def isObj:HO→Bool
 | .lst _=>true
 | .ins _ _ _=>true
 | _=>false
theorem aZ (b:Expr) {op:CmpOp} (h:op≠.In:=by decide) (h2:op≠.NotIn:=by decide):behindInMarks op b = false:=by
 have e1:(op == CmpOp.In) = false:=by cases op <;> first | rfl | exact absurd rfl h
 have e2:(op == CmpOp.NotIn) = false:=by cases op <;> first | rfl | exact absurd rfl h2
 cases b <;> simp [behindInMarks,e1,e2]
theorem jg {op:CmpOp} {r:R2} (ho:jT X (compareOp op) r) (ha:PE X a ta) (hb:PE X b tb) (hm:behindInMarks op b = false):PE X (.Compare a [op] [b] pos) (F1 r ta tb):=by
 intro pins s σ H Q I h
 exact wpAny_Compare1 (E3 ha hb I h fun v u s2 x y H2 I2 rx ry q=>ho pins s2 σ H2 x y v u Q I2 rx ry q) hm
def Cy (t:TE):TT:=fun σ H Q=>t σ H fun x H'=>∃ k,x = .bl k∧Q k H'
theorem aM {op:CmpOp} {r:R2} (ho:jT X (compareOp op) r) (ha:PE X a ta) (hb:PE X b tb) (hm:behindInMarks op b = false):PT X (.Compare a [op] [b] pos) (Cy (F1 r ta tb)):=by
 intro pins s σ H Q I h
 refine wpAny_isTrue_Compare1 (dc (ha pins s σ H _ I h) fun v s1 ⟨x,H1,I1,r1,q1⟩=>dc (hb pins s1 σ H1 _ I1 q1) fun u s2 ⟨y,H2,I2,r2,q2⟩=>
  dc (ho pins s2 σ H2 x y v u _ I2 r1 r2 q2) fun c s3 ⟨z,H3,I3,r3,k,e,q3⟩=>?_) hm
 subst e
 cases r3
 exact wpAny_truthy_bool ⟨H3,I3,q3⟩
def K8 (r r':R2) (ta tb tc:TE):TE:=fun σ H Q=>ta σ H fun x H1=>tb σ H1 fun y H2=>r x y H2 fun z H3=>∃ k,z = .bl k∧
 (if k = true then tc σ H3 fun w' H4=>r' y w' H4 Q else Q (.bl false) H3)
def Qj (K:PySem.W.Frag) (x:V) (H:Hp) (k:Bool):Prop:=
 match x with
 | .cV=>k = false
 | .bl b=>k = b
 | .int i=>k = (i != 0)
 | .str y=>y.length≤sizeLine∧k = ((y.length:Int) != 0)
 | .tI y=>y.size≤sizeLine∧k = ((y.size:Int) != 0)
 | .ref p=>(∃ xs,aD K H p xs∧k = !xs.isEmpty)∨(∃ xs,SqT K H p xs∧k = !xs.isEmpty)∨∃ aI,H p = some (.dK aI)∧k = !aI.isEmpty
 | _=>False
theorem uy {κ : Type} {aI:List (κ×V)} {vs:List (κ×Value)} (r:KV aI vs):(!vs.isEmpty) = !aI.isEmpty:=by
 cases r <;> rfl
theorem lZ {xs:List V} {aL:List Value} (r:Vals xs aL):(!aL.toArray.isEmpty) = !xs.isEmpty:=by
 cases r <;> simp
theorem gZ:(sizeLine:Nat) < 2 ^ 63:=by rw [sizeLine_eq]; decide
theorem KW:Qk X (fun x H Q=>∃ k,Qj X.K x H k∧Q k H):=by
 intro pins s σ H x v Q I rx h
 obtain ⟨k,e,q⟩:=h
 have hl:=gZ
 have hs:sizeLine = 16777216:=sizeLine_eq
 cases x with
 | cV=>
  cases rx
  have e':k = false:=e
  subst e'
  exact truthy_none ⟨H,I,q⟩
 | bl b=>
  cases rx
  have e':k = b:=e
  subst e'
  exact wpAny_truthy_bool ⟨H,I,q⟩
 | int i=>
  obtain ⟨t,rfl⟩:=rx
  have e':k = (i != 0):=e
  subst e'
  exact PySem.P.truthy_int ⟨H,I,q⟩
 | str y=>
  obtain ⟨t,rfl⟩:=rx
  obtain ⟨hy,e'⟩:y.length≤sizeLine∧k = ((y.length:Int) != 0):=e
  subst e'
  exact PySem.P.truthy_str (by omega) ⟨H,I.tok _,q⟩
 | tI y=>
  obtain ⟨t,rfl⟩:=rx
  obtain ⟨hy,e'⟩:y.size≤sizeLine∧k = ((y.size:Int) != 0):=e
  subst e'
  exact PySem.W.truthy_bytes (by omega) ⟨H,I.tok _,q⟩
 | ref p=>
  cases rx
  have e':(∃ xs,aD X.K H p xs∧k = !xs.isEmpty)∨(∃ xs,SqT X.K H p xs∧k = !xs.isEmpty)∨∃ aI,H p = some (.dK aI)∧k = !aI.isEmpty:=e
  rcases e' with ⟨xs,hx,e'⟩ | ⟨xs,hx,e'⟩ | ⟨aI,hx,e'⟩
  ·subst e'
   obtain ⟨aL,r,pl,hz⟩:=I.list hx
   have hlen:=r.length
   exact wpAny_truthy_list pl.isList (by simp only [List.size_toArray]; omega) ⟨H,I.tok _,by rw [lZ r]; exact q⟩
  ·subst e'
   obtain ⟨aL,r,pl,hz⟩:=I.tuple hx
   have hlen:=r.length
   exact truthy_tuple pl (by simp only [List.size_toArray]; omega) ⟨H,I.tok _,by rw [lZ r]; exact q⟩
  ·subst e'
   obtain ⟨hz,hS,vs,r,m⟩:aI.length≤sizeLine∧(p == sysModules) = false∧∃ vs,KV aI vs∧s.heap.DictOf (cE X.prog X.w) p vs:=I.bS p _ hx
   have hlen:aI.length = vs.length:=Paired.length r
   exact wpAny_truthy_dict hS m (by omega) ⟨H,I.tok _,by rw [uy r]; exact q⟩
 | _=>exact (show False from e).elim
def IS (b:Expr):Prop:=∀ o i,subscripted b false o i = operate [o,i] (getItem o i)
theorem vals1 {x:V} {us:List Value} (r:Vals [x] us):∃ u,us = [u]∧RelV x u:=by
 cases r with
 | cons r1 r2=>cases r2; exact ⟨_,rfl,r1⟩
theorem vals2 {x y:V} {us:List Value} (r:Vals [x,y] us):∃ u w',us = [u,w']∧RelV x u∧RelV y w':=by
 cases r with
 | cons r1 r2=>
  cases r2 with
  | cons r3 r4=>cases r4; exact ⟨_,_,rfl,r1,r3⟩
theorem xE (hc:X.calm = true):fH X (.builtin "max") (fun xs H Q=>∃ i j,xs = [.int i,.int j]∧Q (.int (if j > i then j else i)) H):=by
 intro pins s σ H xs us Q I r h
 obtain ⟨i,j,rfl,q⟩:=h
 obtain ⟨u,w',rfl,⟨t,rfl⟩,⟨t',rfl⟩⟩:=vals2 r
 refine max_two_ints (I.ok.hd hc) fun h' tk k=>⟨_,H,I.kept k,?_,q⟩
 by_cases hj:j > i
 ·rw [if_pos hj,if_pos hj]; exact ⟨_,rfl⟩
 ·rw [if_neg hj,if_neg hj]; exact ⟨_,rfl⟩
theorem xD (hc:X.calm = true):fH X (.builtin "min") (fun xs H Q=>∃ i j,xs = [.int i,.int j]∧Q (.int (if j < i then j else i)) H):=by
 intro pins s σ H xs us Q I r h
 obtain ⟨i,j,rfl,q⟩:=h
 obtain ⟨u,w',rfl,⟨t,rfl⟩,⟨t',rfl⟩⟩:=vals2 r
 refine min_two_ints (I.ok.hd hc) fun h' tk k=>⟨_,H,I.kept k,?_,q⟩
 by_cases hj:j < i
 ·rw [if_pos hj,if_pos hj]; exact ⟨_,rfl⟩
 ·rw [if_neg hj,if_neg hj]; exact ⟨_,rfl⟩
def IY (K:PySem.W.Frag) (x:V) (H:Hp) (n:Nat):Prop:=
 match x with
 | .str y=>y.length≤sizeLine∧n = y.length
 | .tI y=>y.size≤sizeLine∧n = y.size
 | .ref p=>(∃ xs,aD K H p xs∧n = xs.length)∨∃ xs,SqT K H p xs∧n = xs.length
 | _=>False
theorem az:fH X (.builtin "len") (fun xs H Q=>∃ x n,xs = [x]∧IY X.K x H n∧Q (.int n) H):=by
 intro pins s σ H xs us Q I r h
 obtain ⟨x,n,rfl,e,q⟩:=h
 obtain ⟨u,rfl,rx⟩:=vals1 r
 have hl:=gZ
 have hs:sizeLine = 16777216:=sizeLine_eq
 cases x with
 | str y=>
  obtain ⟨t,rfl⟩:=rx
  obtain ⟨hy,e'⟩:y.length≤sizeLine∧n = y.length:=e
  subst e'
  exact len_str (by omega) ⟨.int _,H,I.tok _,⟨_,rfl⟩,q⟩
 | tI y=>
  obtain ⟨t,rfl⟩:=rx
  obtain ⟨hy,e'⟩:y.size≤sizeLine∧n = y.size:=e
  subst e'
  exact PySem.W.len_bytes (by omega) ⟨.int _,H,I.tok _,⟨_,rfl⟩,q⟩
 | ref p=>
  cases rx
  have e':(∃ xs,aD X.K H p xs∧n = xs.length)∨∃ xs,SqT X.K H p xs∧n = xs.length:=e
  rcases e' with ⟨xs,hx,e'⟩ | ⟨xs,hx,e'⟩
  ·subst e'
   obtain ⟨aL,r',pl,hz⟩:=I.list hx
   have hlen:=r'.length
   exact Calls.call_len_list pl.isList (by simp only [List.size_toArray]; omega) ⟨.int xs.length,H,I.tok _,⟨_,by simp only [List.size_toArray]; rw [hlen]⟩,q⟩
  ·subst e'
   obtain ⟨aL,r',pl,hz⟩:=I.tuple hx
   have hlen:=r'.length
   exact len_tuple pl (by simp only [List.size_toArray]; omega) ⟨.int xs.length,H,I.tok _,⟨_,by simp only [List.size_toArray]; rw [hlen]⟩,q⟩
 | _=>exact (show False from e).elim
end
end L2
namespace L2
open PySem PySem.Spec PyProof.Rows
structure Yg (h:Heap) (x dx C:Addr) (mA:Str→Option Value):Prop where
 obj:h.get? x = some (PySem.W.instObj C dx)
 ns:h.Ns1 dx mA
 ne:dx≠x
def DJ (f:Str) (v:V):List (Str×V)→List (Str×V)
 | []=>[(f,v)]
 | (g,x) :: r=>if g = f then (g,v) :: r else (g,x) :: DJ f v r
theorem nH.some_of {v:V} {o:Option Value} (r:nH (some v) o):∃ u,o = some u∧RelV v u:=by
 cases o with
 | none=>exact (show False from r).elim
 | some u=>exact ⟨u,rfl,r⟩
structure Jb (K:PySem.W.Frag) (C:Addr):Prop where
 pg:PySem.W.plainGet K C Str.empty = true
 hd:PySem.W.hasDictIn K C = true
 po:PySem.W.plainOver K C = true
 sa:PySem.W.findIn K (.ref C) "__setattr__" = some (some (.builtin "object.__setattr__"))
def uN (K:PySem.W.Frag) (C:Addr) (f:Str):Prop:=PySem.W.findIn K (.ref C) f = some none
structure YJ (K:PySem.W.Frag) (C:Addr) (f:Str) (v:V) (u:Value):Prop where
 at_:PySem.W.findIn K (.ref C) f = some (some u)
 rel:RelV v u
 get:PySem.W.specialIn K u "__get__" = some none
 cp:PySem.W.copiedNames.contains f = false
structure Meth (K:PySem.W.Frag) (C:Addr) (m:Str) (f:Addr):Prop where
 at_:PySem.W.findIn K (.ref C) m = some (some (.ref f))
 fn:PySem.W.isFn K (.ref f) = true
 kp:PySem.W.keepIn K (.ref f) = true
def Te (K:PySem.W.Frag) (ta:TE) (f:Str):TE:=fun σ H Q=>ta σ H fun x H1=>∃ a C dx fs v,x = .ref a∧H1 a = some (.ins C dx fs)∧Jb K C∧uN K C f∧fs.lookup f = some v∧Q v H1
def Th (K:PySem.W.Frag) (ta:TE) (f:Str):TE:=fun σ H Q=>ta σ H fun x H1=>∃ a C dx fs v u,x = .ref a∧H1 a = some (.ins C dx fs)∧Jb K C∧YJ K C f v u∧fs.lookup f = none∧Q v H1
def TX (K:PySem.W.Frag) (ta tv:TE) (f:Str):TS:=fun D σ H=>tv σ H fun y H1=>ta σ H1 fun x H2=>∃ a C dx fs,x = .ref a∧H2 a = some (.ins C dx fs)∧Jb K C∧uN K C f∧fs.length < 1000∧
 D.nx σ (upd H2 a (.ins C dx (DJ f y fs)))
def Yo (X:Cx) (op:Operator) (rd:V→V→Hp→VK→Prop):Prop:=
 ∀ (pins:List (Addr×Obj)) (s:Shared) (σ : St) (H:Hp) (x y:V) (u v:Value) (Q:VK),Inv X pins σ H s→RelV x u→RelV y v→rd x y H Q→wpAny (model X.prog X.w) X.A (inplaceOp op u v) (EP X pins σ Q) X.xe s
def Jm (K:PySem.W.Frag) (ta tv:TE) (rd:V→V→Hp→VK→Prop) (f:Str):TS:=fun D σ H=>ta σ H fun x H1=>∃ a C dx fs v,x = .ref a∧H1 a = some (.ins C dx fs)∧Jb K C∧uN K C f∧fs.lookup f = some v∧
 tv σ H1 fun y H2=>rd v y H2 fun z H3=>∃ Sl J3,H3 a = some (.ins C Sl J3)∧J3.length < 1000∧D.nx σ (upd H3 a (.ins C Sl (DJ f z J3)))
section
variable {X:Cx} {o e value:Expr} {f:Str} {pos pos' KY:Pos} {ta tv:TE}
def Uh:V→V→Hp→VK→Prop:=fun x y H Q=>∃ i j,x = .int i∧y = .int j∧Q (.int (i + j)) H
def T8:V→V→Hp→VK→Prop:=fun x y H Q=>∃ i j,x = .int i∧y = .int j∧Q (.int (i - j)) H
end
section
variable {X:Cx} {pins:List (Addr×Obj)} {σ : St} {H:Hp} {s:Shared} {A:Around} {E:Value→Shared→Prop} {Q:Value→Shared→Prop} {c:Value} {b:Bool}
inductive kr (K:PySem.W.Frag) (H:Hp):V→Value→Prop where
 | cV:kr K H .cV (.type "NoneType")
 | bl (x:Bool):kr K H (.bl x) (.type "bool")
 | int (i:Int):kr K H (.int i) (.type "int")
 | str (x:Str):kr K H (.str x) (.type "str")
 | AB (x:UInt64):kr K H (.AB x) (.type "float")
 | lst {a:Addr} {xs:List V} (e:H a = some (.lst xs)):kr K H (.ref a) (.type "list")
 | tG {a:Addr} {o:Obj} {xs:List V} (e:H a = some (.tG o (.lst xs))):kr K H (.ref a) (.type "list")
 | tup {a:Addr} {xs:List V} (e:H a = some (.tup xs)):kr K H (.ref a) (.type "tuple")
 | dK {a:Addr} {aI:List (Key×V)} (e:H a = some (.dK aI)):kr K H (.ref a) (.type "dict")
 | dT {a:Addr} {aI:List (List Key×V)} (e:H a = some (.dT aI)):kr K H (.ref a) (.type "dict")
 | ins {a C dx:Addr} {fs:List (Str×V)} (e:H a = some (.ins C dx fs)) (cl:Jb K C) (ha:PySem.W.findIn K (.ref C) "__class__" = some (some (.builtin "object.__class__")))
   (hn:PySem.W.specialIn K (.builtin "object.__class__") "__get__" = some (some (.builtin "getset_descriptor.__get__"))) (We:PySem.W.takesIn K (.builtin "object.__class__") = some true)
   (hm:PySem.W.mroIn K C (.type "object") = some true):kr K H (.ref a) (.ref C)
end
end L2
namespace L2
open PySem PySem.Spec PyProof.Rows
structure eW (k:Nat) (A:Around):Prop where
 hd:A.handled = none
 dp:A.depth + 3 * k + 5 < recursionLimit
 un:A.units + 16 * k + 200 < cLine
theorem eW.mono {j k:Nat} {A:Around} (r:eW k A) (h:j≤k):eW j A:=⟨r.hd,by have:=r.dp; omega,by have:=r.un; omega⟩
theorem eW.deeper {k:Nat} {A:Around} (r:eW (k + 1) A) (env:Env):eW k (A.deeper env):=
 ⟨r.hd,by have:=r.dp; show A.depth + 1 + 3 * k + 5 < _; omega,by have:=r.un; show A.units + 3 + 16 * k + 200 < _; omega⟩
theorem eW.depth {k:Nat} {A:Around} (r:eW k A):A.depth < recursionLimit:=by have:=r.dp; omega
theorem eW.units {k:Nat} {A:Around} (r:eW k A):A.units + 64 < cLine:=by have:=r.un; omega
theorem eW.Dh {k:Nat} {A:Around} (r:eW k A):A.units < cLine:=by have:=r.un; omega
def Dk:TA:=fun _ H Q=>Q [] H
def nQ (ta:TE) (tr:TA):TA:=fun σ H Q=>ta σ H fun x H1=>tr σ H1 fun xs H2=>Q (x :: xs) H2
section
variable {X:Cx} {e:Expr} {es:List Expr} {te:TE} {t:TA} {pos:Pos}
theorem af:PA X [] Dk:=fun _ _ _ _ H Q I h=>Calls.spliced_nil ⟨[],H,I,.nil,h⟩
theorem aa (ha:PE X e te) (hr:PA X es t) (hs:starEach (e :: es) X.env = (false,eval e X.env) :: starEach es X.env:=by rfl):PA X (e :: es) (nQ te t):=by
 intro pos pins s σ H Q I h
 rw [hs]
 show wpAny _ _ (spliced ((false,eval e X.env) :: backTo pos (starEach es X.env))) _ _ s
 refine Calls.spliced_cons (dc (ha pins s σ H _ I h) fun u s1 ⟨x,H1,I1,r1,q1⟩=>?_)
 exact dc (hr pos pins s1 σ H1 _ I1 q1) fun us s2 ⟨xs,H2,I2,r2,q2⟩=>⟨x :: xs,H2,I2,.cons r1 r2,q2⟩
def FY (t:TA):TE:=fun σ H Q=>t σ H fun xs H1=>xs.length≤sizeLine∧∀ p,H1 p = none→Q (.ref p) (upd H1 p (.tup xs))
def Dm (t:TA):TE:=fun σ H Q=>t σ H fun xs H1=>xs.length≤sizeLine∧∀ p,H1 p = none→Q (.ref p) (upd H1 p (.lst xs))
theorem fI {x1} (h:PA X es t):PE X (.Tuple es x1 pos) (FY t):=by
 intro pins s σ H Q I hq
 refine wpAny_Tuple_spliced (dc (h pos pins s σ H _ I hq) fun us s1 ⟨xs,H1,I1,r,z,q⟩=>⟨by rw [← r.length]; exact z,?_⟩)
 have hf:H1 s1.heap.objs.size = none:=I1.bS.fresh (Nat.le_refl _)
 refine ⟨.ref s1.heap.objs.size,upd H1 s1.heap.objs.size (.tup xs),I1.laid (t':=s1.toks) (fun b u e=>Heap.get?_push_of_some _ e) (Nat.le_refl _) ?_,rfl,q _ hf⟩
 exact ⟨z,us,r,⟨_,Heap.get?_push_size _ rfl,rfl,_,rfl⟩⟩
theorem cL (h:PA X es t):PE X (.List es pos) (Dm t):=by
 intro pins s σ H Q I hq
 refine wpAny_List_spliced (dc (h pos pins s σ H _ I hq) fun us s1 ⟨xs,H1,I1,r,z,q⟩=>⟨by rw [← r.length]; exact z,?_⟩)
 have hf:H1 s1.heap.objs.size = none:=I1.bS.fresh (Nat.le_refl _)
 refine ⟨.ref s1.heap.objs.size,upd H1 s1.heap.objs.size (.lst xs),I1.laid (t':=s1.toks) (fun b u e=>Heap.get?_push_of_some _ e) (Nat.le_refl _) ?_,rfl,q _ hf⟩
 exact ⟨z,us,0,r,Heap.get?_push_size _ rfl⟩
end
abbrev Sp:=List V→Hp→VK→XK→Prop
abbrev tK:=List Env→Hp→Shared→XK→Value→Shared→Prop
structure Cs (P:Program) (w:World) (K:PySem.W.Frag) (mg:Str→Option Value) (base:Heap) (A:Around) (outer:List Env) (s:Shared) (H:Hp):Prop where
 frames:A.frames = some outer
 mod:Mod K mg base
 bs:∀ b o,base.get? b = some o→s.heap.get? b = some o∧H b = none
 E2:base.objs.size≤s.heap.objs.size
 km:s.heap.FunFrames base outer
 FF:∀ b∈iN outer,H b = none
 bS:iG P w H s.heap
 bare:AllBare s.gens
def CE (outer:List Env) (P:Program) (w:World) (H:Hp) (s:Shared) (Q:VK) (u:Value) (s':Shared):Prop:=
 ∃ v H',s'.os = s.os∧AllBare s'.gens∧Un (iN outer) [] H H' s.heap s'.heap∧iG P w H' s'.heap∧RelV v u∧Q v H'
def CR (CX:tK) (outer:List Env) (P:Program) (w:World) (H:Hp) (s:Shared) (Q:VK) (E:XK) (r:Result) (s':Shared):Prop:=
 match r with
 | .ok (.ret u)=>CE outer P w H s Q u s'
 | .ok _=>False
 | .error e=>CX outer H s E e s'
structure nK (P:Program) (w:World) (K:PySem.W.Frag) (mg:Str→Option Value) (base:Heap) (CX:tK) (k:Nat) (f:Addr) (fd:FuncData) (ps:List Str) (sp:Sp):Prop where
 len:∀ vs H Q E,sp vs H Q E→vs.length = ps.length
 run:∀ (A:Around) (outer:List Env) (s:Shared) (H:Hp) (args:Args) (us:List Value) (vs:List V) (Q:VK) (E:XK),eW k A→Cs P w K mg base A outer s H→BindsTo s fd args (ps.zip us)→Vals vs us→sp vs H Q E→
  codeAny (model P w) A (.call (.ref f) args) (CR CX outer P w H s Q E) s
section
variable {X:Cx} {pins:List (Addr×Obj)} {σ : St} {H:Hp} {s s':Shared}
theorem Inv.OJ (I:Inv X pins σ H s):Cs X.prog X.w X.K X.mg X.base X.A X.stack s H:=
 ⟨I.ok.frames,I.ok.mod,I.bs,Nat.le_trans I.ok.E2 I.sz,I.stack,I.oU,I.bS,I.bare⟩
theorem Inv.after {Q:VK} {u:Value} (I:Inv X pins σ H s) (h:CE X.stack X.prog X.w H s Q u s'):EP X pins σ Q u s':=by
 obtain ⟨v,H',os,bare,un,bS,r,q⟩:=h
 obtain ⟨hh,g,d,t,UE⟩:=s'
 obtain rfl:UE = s.os:=os
 exact ⟨v,H',I.call (h':=hh) (g':=g) (d':=d) (t':=t) (ch:=[]) un bS bare (fun b z=>absurd z (by simp)),r,q⟩
end
def yc (sp:Sp) (xV:List V) (E:XK) (t:TA):TE:=fun σ H Q=>t σ H fun vs H1=>sp (vs ++ xV) H1 Q E
def QE (C:Addr) (m:Str) (sp:Sp) (xV:List V) (E:XK) (ta:TE) (t:TA):TE:=fun σ H Q=>ta σ H fun x H1=>∃ a dx fs,x = .ref a∧H1 a = some (.ins C dx fs)∧fs.lookup m = none∧
 t σ H1 fun vs H2=>sp (x :: (vs ++ xV)) H2 Q E
def QF (C:Addr) (sp:Sp) (xV:List V) (E:XK) (t:TA):TE:=fun σ H Q=>t σ H fun vs H1=>∀ x dx,H1 x = none→H1 dx = none→dx≠x→
 sp (.ref x :: (vs ++ xV)) (upd (upd H1 dx (.own x)) x (.ins C dx [])) (fun v H2=>v = .cV∧Q (.ref x) H2) E
def Binds (K:PySem.W.Frag) (fd:FuncData) (ps:List Str) (ds:List Value):Prop:=
 ∀ (s:Shared) (us:List Value),K.In s.heap→(us ++ ds).length = ps.length→BindsTo s fd ⟨us,[]⟩ (ps.zip (us ++ ds))
theorem Binds.all {K:PySem.W.Frag} {fd:FuncData} {ps:List Str} (h:∀ us:List Value,us.length = ps.length→bindArgs fd ⟨us,[]⟩ = pure (ps.zip us)):Binds K fd ps []:=fun s us _ hl=>by
 rw [List.append_nil] at hl ⊢
 exact .of_eq (h us hl)
def Passes (CX:tK) (X:Cx) (E:XK):Prop:=∀ (pins:List (Addr×Obj)) (σ : St) (H:Hp) (s:Shared) (e:Value) (s':Shared),Inv X pins σ H s→CX X.stack H s E e s'→X.xe e s'
section
variable {X:Cx} {CX:tK} {k:Nat} {f C:Addr} {fd:FuncData} {ps:List Str} {sp:Sp} {xV:List V} {ds:List Value} {E:XK} {x m:Str} {p pos apos:Pos} {e o:Expr} {es:List Expr} {ta:TE} {t:TA}
theorem Dx {pins:List (Addr×Obj)} {σ : St} {H:Hp} {s:Shared} {Q:VK} {us:List Value} {vs:List V} (F:nK X.prog X.w X.K X.mg X.base CX k f fd ps sp) (hr:eW k X.A) (hb:Binds X.K fd ps ds) (hd:Vals xV ds) (hx:Passes CX X E)
  (I:Inv X pins σ H s) (r:Vals vs us) (h:sp (vs ++ xV) H Q E):wpAny (model X.prog X.w) X.A (call (.ref f) us) (EP X pins σ Q) X.xe s:=by
 have r2:Vals (vs ++ xV) (us ++ ds):=r.append hd
 have hl:(us ++ ds).length = ps.length:=by rw [← r2.length]; exact F.len _ _ _ _ h
 refine wpAny_call (codeAny_mono (F.run X.A X.stack s H ⟨us,[]⟩ (us ++ ds) (vs ++ xV) Q E hr I.OJ (hb s us I.Ft hl) r2 h) fun r s' hq=>?_)
 cases r with
 | error e=>exact hx pins σ H s e s' I hq
 | ok fl=>
  cases fl with
  | ret u=>exact I.after hq
  | next=>exact False.elim hq
  | brk=>exact False.elim hq
  | cont=>exact False.elim hq
theorem Bm (F:nK X.prog X.w X.K X.mg X.base CX k f fd ps sp) (hr:eW k X.A) (hg:Gl X x) (hm:X.mg x = some (.ref f)) (hk:PySem.W.keepIn X.K (.ref f) = true) (hb:Binds X.K fd ps ds) (hd:Vals xV ds) (hx:Passes CX X E)
  (ha:PA X (e :: es) t) (BS:(x == ("__debug__" : Str)) = false:=by decide) (he:starEach (e :: es) X.env = (false,eval e X.env) :: starEach es X.env:=by rfl) (tD:(backTo pos (starEach es X.env)).any (·.1) = false:=by rfl) :
  PE X (.Call (.Name x p) (e :: es) [] pos) (yc sp xV E t):=by
 intro pins s σ H Q I h
 refine wpAny_Call_Name_kw (vN I hg hm ?_ BS)
 refine PySem.W.callWith_K (h₀:=X.base) I.ok.mod.JK hk (dc (ha pos pins s σ H _ I h) fun us s1 ⟨vs,H1,I1,r,q⟩=>⟨I1.Ft,?_⟩) he tD
 exact Dx F hr hb hd hx I1 r q
structure Mk (K:PySem.W.Frag) (C f:Addr):Prop where
 makes:PySem.W.makesIn K C = true
 init:PySem.W.findIn K (.ref C) "__init__" = some (some (.ref f))
 fn:PySem.W.isFn K (.ref f) = true
 kp:PySem.W.keepIn K (.ref C) = true
end
def PK (X:Cx) (Ro:List Keyword) (t:TA):Prop:=
 ∀ (pos:Pos) (pins:List (Addr×Obj)) (s:Shared) (σ : St) (H:Hp) (Q:List V→Hp→Prop),Inv X pins σ H s→t σ H Q→wpAny (model X.prog X.w) X.A (evalAll ((backToKw pos (keywordEach Ro X.env)).map (·.2))) (AP X pins σ Q) X.xe s
section
variable {X:Cx} {CX:tK} {k:Nat} {f C:Addr} {fd:FuncData} {ps ks:List Str} {sp:Sp} {E:XK} {x m:Str} {p pos apos VG:Pos} {e o:Expr} {es:List Expr} {Ro:List Keyword} {te ta:TE} {t tk:TA} {nm:Option Str}
structure Qo (K:PySem.W.Frag) (fd:FuncData) (ps ks:List Str) (g:List Value→List Value→List Value) (gV:List V→List V→List V):Prop where
 to:∀ (s:Shared) (us ws:List Value),K.In s.heap→(g us ws).length = ps.length→BindsTo s fd ⟨us,ks.zip ws⟩ (ps.zip (g us ws))
 rel:∀ {vs:List V} {us:List Value} {zs:List V} {ws:List Value},Vals vs us→Vals zs ws→Vals (gV vs zs) (g us ws)
def K9 (sp:Sp) (gV:List V→List V→List V) (E:XK) (t tk:TA):TE:=fun σ H Q=>t σ H fun vs H1=>tk σ H1 fun zs H2=>sp (gV vs zs) H2 Q E
variable {g:List Value→List Value→List Value} {gV:List V→List V→List V}
end
structure aR (N P:List Str) (sc:Scope):Prop where
 kind:sc.kind = .function
 co:sc.isCoroutine = false
 gen:sc.isGenerator = false
 nd:N.Nodup
 pre:N.take P.length = P
 par:∀ x∈P,sc.names.lookup x = some .local∨sc.names.lookup x = some .cell
 DY:∀ y∈sc.names,y.2≠.free
theorem oK {kindOf:Str→Option NameKind} {x:Str}:∀ {binds:List (Str×Value)} {m:Str→Option Value},(∀ v,(x,v)∉binds)→bindL kindOf binds m x = m x
 | [],_,_=>rfl
 | (n,v) :: r,m,h=>by
  unfold bindL
  rw [oK fun w hw=>h w (List.mem_cons_of_mem _ hw)]
  split
  ·have:x≠n:=by rintro rfl; exact h v List.mem_cons_self
   simp [this]
  ·rfl
theorem oN {kindOf:Str→Option NameKind} {x:Str}:∀ {binds:List (Str×Value)} {m:Str→Option Value},(∀ v,(x,v)∉binds)→bindC kindOf binds m x = m x
 | [],_,_=>rfl
 | (n,v) :: r,m,h=>by
  unfold bindC
  rw [oN fun w hw=>h w (List.mem_cons_of_mem _ hw)]
  split
  ·rfl
  ·have:x≠n:=by rintro rfl; exact h v List.mem_cons_self
   simp [this]
theorem oM {kindOf:Str→Option NameKind} {x:Str} {v:Value}:∀ {P:List Str} {vs:List Value} {i:Nat} {m:Str→Option Value},P.Nodup→P[i]? = some x→vs[i]? = some v→kindOf x = some .local→
  bindL kindOf (P.zip vs) m x = some v
 | [],_,_,_,_,h,_,_=>by simp at h
 | _ :: _,[],_,_,_,_,h,_=>by simp at h
 | p :: P,w :: vs,0,m,nd,h1,h2,hk=>by
  simp at h1 h2; subst h1; subst h2
  show bindL kindOf ((p,w) :: P.zip vs) m p = _
  unfold bindL
  rw [oK fun v hv=>(List.nodup_cons.mp nd).1 (List.of_mem_zip hv).1,if_pos hk]
  simp
 | p :: P,w :: vs,i + 1,m,nd,h1,h2,hk=>by
  show bindL kindOf ((p,w) :: P.zip vs) m x = _
  unfold bindL
  exact oM (i:=i) (List.nodup_cons.mp nd).2 (by simpa using h1) (by simpa using h2) hk
theorem oO {kindOf:Str→Option NameKind} {x:Str} {v:Value}:∀ {P:List Str} {vs:List Value} {i:Nat} {m:Str→Option Value},P.Nodup→P[i]? = some x→vs[i]? = some v→kindOf x≠some .local→
  bindC kindOf (P.zip vs) m x = some v
 | [],_,_,_,_,h,_,_=>by simp at h
 | _ :: _,[],_,_,_,_,h,_=>by simp at h
 | p :: P,w :: vs,0,m,nd,h1,h2,hk=>by
  simp at h1 h2; subst h1; subst h2
  show bindC kindOf ((p,w) :: P.zip vs) m p = _
  unfold bindC
  rw [oN fun v hv=>(List.nodup_cons.mp nd).1 (List.of_mem_zip hv).1,if_neg hk]
  simp
 | p :: P,w :: vs,i + 1,m,nd,h1,h2,hk=>by
  show bindC kindOf ((p,w) :: P.zip vs) m x = _
  unfold bindC
  exact oO (i:=i) (List.nodup_cons.mp nd).2 (by simpa using h1) (by simpa using h2) hk
def start (N:List Str) (vs:List V):St:=vs.map some ++ List.replicate (N.length - vs.length) none
def ko (CX:tK) (P:Program) (w:World) (K:PySem.W.Frag) (mg:Str→Option Value) (base:Heap) (N:List Str) (qual:Str) (scope:Scope) (f:Addr) (cd:Value) (A:Around) (outer:List Env) (s:Shared) (H:Hp) (E:XK):Cx where
 prog:=P
 w:=w
 K:=K
 mg:=mg
 base:=base
 A:=A.deeper (envOfC qual scope s.heap.objs.size f cd)
 N:=N
 s₀:=s
 H₀:=H
 env:=envOfC qual scope s.heap.objs.size f cd
 outer:=outer
 stack:=envOfC qual scope s.heap.objs.size f cd :: outer
 ex:=[]
 calm:=true
 fn:=fun _=>true
 pn:=[]
 xe:=fun e s'=>wpAny (model P w) (A.deeper (envOfC qual scope s.heap.objs.size f cd)) (leaving (envOfC qual scope s.heap.objs.size f cd) e) (fun _ Ge=>CX outer H s E e Ge) (fun e' Ge=>CX outer H s E e' Ge) s'
theorem sU {sc:Scope} {n:Nat} {x:Str} (h:sc.names.lookup x = some .cell):∃ c,(cellsFrom n sc.names []).lookup x = some c:=by
 have q:=PySem.W.cellsFrom_some sc.names n [] (.inl h)
 exact Option.isSome_iff_exists.mp q
theorem xh {CX:tK} {P:Program} {w:World} {K:PySem.W.Frag} {mg:Str→Option Value} {base:Heap} {N ps:List Str} {qual:Str} {scope:Scope} {f:Addr} {cd:Value} {A:Around} {outer:List Env} {s s1:Shared} {H:Hp} {E:XK} {us:List Value} {vs:List V}
  (S:aR N ps scope) (hd:A.handled = none) (e0:Cs P w K mg base A outer s H) (hl:vs.length = ps.length) (r:Vals vs us)
  (x:InCallC s s.heap.objs.size (bindL (envOfC qual scope s.heap.objs.size f cd).kindOf (ps.zip us) fun _=>none) (cellsFrom (s.heap.objs.size + 1) scope.names []) (bindC (envOfC qual scope s.heap.objs.size f cd).kindOf (ps.zip us) fun _=>none) s1) :
  Inv (ko CX P w K mg base N qual scope f cd A outer s H E) [] (start N vs) H s1:=by
 have tD:ps.length≤N.length:=by have:=congrArg List.length S.pre; rw [List.length_take] at this; omega
 obtain ⟨h1,tk,rfl,hk⟩:=x.done
 have GN:∀ b:Addr,b∉(ko CX P w K mg base N qual scope f cd A outer s H E).ex:=fun b z=>absurd (show b∈([]:List Addr) from z) (by simp)
 refine ⟨⟨e0.mod,S.kind,rfl,rfl,Nat.le_refl _,fun y z c h1 h2=>?_,fun y hy=>?_,fun y c _ h=>?_,fun _=>hd,Around.frames_deeper e0.frames,.inr ⟨rfl,rfl⟩,fun b z=>absurd z (GN b),e0.bs,e0.E2,fun b _ _=>GN b,fun b z=>absurd z (GN b),e0.km,e0.FF⟩,
  rfl,e0.bare,Un.kept hk,⟨_,x.toInCall.ns,fun i y v h1 h2 h3=>?_⟩,fun y c h=>⟨_,x.cell y c h⟩,e0.bS.fresh (Nat.le_refl _),fun y c h=>?_,fun p hp=>absurd (show p∈([]:List (Addr×Obj)) from hp) (by simp),e0.bS.kept hk,?_⟩
 ·exact name_of_addr x.apart (PySem.mem_of_lookup h1) (PySem.mem_of_lookup h2)
 ·have hy:scope.names.lookup y = some .cell∨scope.names.lookup y = some .free:=hy
  rcases hy with hy | hy
  ·exact sU hy
  ·exact absurd rfl (S.DY _ (PySem.mem_of_lookup hy))
 ·exact Nat.le_of_lt (x.above y c (PySem.mem_of_lookup h))
 ·have hi:i < vs.length:=by
   unfold start at h2
   by_cases hi:i < vs.length
   ·exact hi
   ·rw [List.getElem?_append_right (by simpa using hi)] at h2
    rw [List.getElem?_replicate] at h2
    split at h2 <;> cases h2
  have ha:vs[i]? = some v:=by
   unfold start at h2
   rw [List.getElem?_append_left (by simpa using hi),List.getElem?_map] at h2
   cases e:vs[i]? with
   | none=>rw [e] at h2; cases h2
   | some a=>rw [e] at h2; cases h2; rfl
  obtain ⟨u,hu,rv⟩:=r.get ha
  have hp:ps[i]? = some y:=by
   rw [← S.pre,List.getElem?_take_of_lt (by omega)]; exact h1
  have GQ:ps.Nodup:=by rw [← S.pre]; exact S.nd.sublist (List.take_sublist _ _)
  refine ⟨u,rv,?_⟩
  rcases S.par y (List.mem_of_getElem? hp) with k | k
  ·exact .inl ⟨k,oM GQ hp hu k⟩
  ·obtain ⟨c,e⟩:=sU (n:=s.heap.objs.size + 1) k
   refine .inr ⟨.inl k,c,e,?_⟩
   have q:=x.cell y c e
   rw [oO GQ hp hu (by show scope.names.lookup y≠_; rw [k]; decide)] at q
   exact q
 ·exact e0.bS.fresh (Nat.le_of_lt (x.above y c (PySem.mem_of_lookup h)))
 ·unfold start
  show _ = N.length
  rw [List.length_append,List.length_map,List.length_replicate]
  omega
theorem zM {CX:tK} {P:Program} {w:World} {K:PySem.W.Frag} {mg:Str→Option Value} {base:Heap} {k:Nat} {f:Addr} {name qual:Str} {params:Arguments} {body:List Stmt} {scope:Scope} {dV kV doc pm dH ct oc:Value} {an od:Option Addr}
  {Ao:Array (Option Value)} {N ps:List Str} {sp:Sp} (lk:K.lookup f = some ⟨oc,od,.func (PySem.W.fnOf name qual params body scope dV kV doc pm an dH ct),Ao⟩) (uA:PySem.W.codeIn K dH qual = true) (S:aR N ps scope)
  (len:∀ vs H Q E,sp vs H Q E→vs.length = ps.length)
  (mq:∀ (A:Around) (outer:List Env) (s:Shared) (H:Hp) (vs:List V) (Q:VK) (E:XK),eW k (A.deeper (envOfC qual scope s.heap.objs.size f dH))→sp vs H Q E→
   ∃ t,uM (ko CX P w K mg base N qual scope f dH A outer s H E) body t∧t { nx:=fun _ H'=>Q .cV H',rt:=Q } (start N vs) H) :
  nK P w K mg base CX (k + 1) f (PySem.W.fnOf name qual params body scope dV kV doc pm an dH ct) ps sp:=by
 refine ⟨len,fun A outer s H args us vs Q E hr e0 hb r tm=>?_⟩
 have hl:=len _ _ _ _ tm
 have KX:K.In s.heap:=e0.mod.JK.keeps fun b o e=>(e0.bs b o e).1
 have lim:s.heap.NoLimit:=e0.mod.nolimit.keeps fun b o e=>(e0.bs b o e).1
 have Hj:∀ y∈ps.zip us,scope.names.lookup y.1 = some .local∨(scope.names.lookup y.1 = some .cell∧((cellsFrom (s.heap.objs.size + 1) scope.names []).lookup y.1).isSome = true):=fun ⟨n,v⟩ hy=>by
  rcases S.par n (List.of_mem_zip hy).1 with q | q
  ·exact .inl q
  ·exact .inr ⟨q,PySem.W.cellsFrom_some _ _ _ (.inl q)⟩
 refine codeAny_call_function hr.depth (KX _ _ lk) rfl S.co S.gen rfl (PySem.W.codeRec_of KX uA) (hb _ _ _ _ ?_)
 refine wpAny_newFunctionEnv_cells S.kind Hj fun env he s1 x=>?_
 subst he
 refine ⟨lim.keeps x.toInCall.keep,codeAny_func ?_⟩
 obtain ⟨t,ht,hq⟩:=mq A outer s H vs Q E (hr.deeper _) tm
 have I:Inv (ko CX P w K mg base N qual scope f dH A outer s H E) [] (start N vs) H s1:=xh S hr.hd e0 hl r x
 refine wpAny_mono (ht [] s1 (start N vs) H _ I hq) (fun fl s' hs=>?_) fun e s' hs=>hs
 have fin:∀ {σ':St} {H':Hp} {v:V} {u:Value},Inv (ko CX P w K mg base N qual scope f dH A outer s H E) [] σ' H' s'→RelV v u→Q v H'→CE outer P w H s Q u s':=
  fun {σ' H' v u} J rv q=>⟨v,H',J.os,J.bare,J.base,J.bS,rv,q⟩
 cases fl with
 | ret u=>
  obtain ⟨v,σ',H',J,rv,q⟩:=hs
  exact fin J rv q
 | next=>
  obtain ⟨σ',H',J,q⟩:=hs
  exact fin (v:=V.cV) (u:=Value.none) J rfl q
 | brk=>
  obtain ⟨_,_,_,q⟩:=hs
  exact False.elim q
 | cont=>
  obtain ⟨_,_,_,q⟩:=hs
  exact False.elim q
end L2
namespace L2
open PySem PySem.Spec PyProof.Rows
section
variable {X:Cx} {x:Str} {p pos:Pos} {e:Expr} {es:List Expr} {t:TA} {id T:String} {r:List V→Hp→VK→Prop}
def La (r:List V→Hp→VK→Prop) (t:TA):TE:=fun σ H Q=>t σ H fun vs H1=>r vs H1 Q
theorem av (hc:fH X (.builtin id) r) (hg:Gl X x) (hm:X.mg x = none) (hv:bootBuiltins x = some (.builtin id)) (ha:PA X (e :: es) t) (hn:x≠ "__name__":=by decide) (BS:(x == ("__debug__" : Str)) = false:=by decide)
  (he:starEach (e :: es) X.env = (false,eval e X.env) :: starEach es X.env:=by rfl) (tD:(backTo pos (starEach es X.env)).any (·.1) = false:=by rfl):PE X (.Call (.Name x p) (e :: es) [] pos) (La r t):=by
 intro pins s σ H Q I h
 refine wpAny_Call_Name_kw (gk I hg hm hv ?_ hn BS)
 exact PyProof.Rows.callWith_builtin1 (dc (ha pos pins s σ H _ I h) fun us s1 ⟨vs,H1,I1,r1,q1⟩=>hc pins s1 σ H1 vs us Q I1 r1 q1) he tD
theorem oq (hc:fH X (.type T) r) (hg:Gl X x) (hm:X.mg x = none) (hv:bootBuiltins x = some (.type T)) (ha:PA X (e :: es) t) (hn:x≠ "__name__":=by decide) (BS:(x == ("__debug__" : Str)) = false:=by decide)
  (he:starEach (e :: es) X.env = (false,eval e X.env) :: starEach es X.env:=by rfl) (tD:(backTo pos (starEach es X.env)).any (·.1) = false:=by rfl):PE X (.Call (.Name x p) (e :: es) [] pos) (La r t):=by
 intro pins s σ H Q I h
 refine wpAny_Call_Name_kw (gk I hg hm hv ?_ hn BS)
 exact PyProof.Rows.callWith_type1 (dc (ha pos pins s σ H _ I h) fun us s1 ⟨vs,H1,I1,r1,q1⟩=>hc pins s1 σ H1 vs us Q I1 r1 q1) he tD
end
end L2
namespace HT
open PySem PyProof.Rows
def lexLt:List Int→List Int→Bool
 | [],[]=>false
 | [],_ :: _=>true
 | _ :: _,[]=>false
 | x :: xs,y :: ys=>if x = y then lexLt xs ys else decide (x < y)
theorem dC (x y:Int) (xs ys:List Int):lexLt (x :: xs) (y :: ys) = if x = y then lexLt xs ys else decide (x < y):=rfl
theorem iB:lexLt [] [] = false:=rfl
theorem hJ (y:Int) (ys:List Int):lexLt [] (y :: ys) = true:=rfl
theorem hU (x:Int) (xs:List Int):lexLt (x :: xs) [] = false:=rfl
theorem sO (A:Around) (s:Shared) (a:Int) (t:Tok) (c:Int) (u:Tok):∃ e,SeqAt.EqAt A s (.int a t) (.int c u) e∧(e = true↔a = c):=
 ⟨(a == c),SeqAt.EqAt.int_int a t c u,by simp⟩
theorem yq (A:Around) (s:Shared) (a:Int) (t:Tok) (c:Int) (u:Tok) (prog:Program) (w:World) (E:Value→Shared→Prop) (Q:Value→Shared→Prop) (h:Q (.bool (decide (a < c))) s) :
  wpAny (model prog w) A (richCompare .Lt (.int a t) (.int c u)) Q E s:=
 (PyProof.Rows.lt_int h:wpAny (model prog w) A (compareOp .Lt (.int a t) (.int c u)) Q E s)
section
variable {prog:Program} {w:World} {A:Around} {E:Value→Shared→Prop} {s:Shared}
def o4 (n d:Nat):Option Int→Nat
 | none=>d
 | some v=>if v < 0 then (v + (n:Int)).toNat else min v.toNat n
end
end HT
namespace L2
open PySem PySem.Spec PyProof.Rows
abbrev TO:=St→Hp→(Option Int→Hp→Prop)→Prop
def PO (X:Cx) (e:Option Expr) (t:TO):Prop:=
 ∀ (pins:List (Addr×Obj)) (s:Shared) (σ : St) (H:Hp) (Q:Option Int→Hp→Prop),Inv X pins σ H s→t σ H Q→
  wpAny (model X.prog X.w) X.A (evalPart e X.env) (fun u s'=>∃ o H',Inv X pins σ H' s'∧IsPart u o∧Q o H') X.xe s
def iW:TO:=fun _ H Q=>Q none H
def qW (t:TE):TO:=fun σ H Q=>t σ H fun x H1=>∃ i,x = .int i∧Q (some i) H1
theorem intsAre_of {ns:List Int}:∀ {us:List Value},Vals (ns.map V.int) us→IntsAre us ns:=by
 induction ns with
 | nil=>intro us r; rw [List.map_nil] at r; cases r; exact .nil
 | cons n ns ih=>
  intro us r
  rw [List.map_cons] at r
  cases r with
  | cons r1 r2=>
   obtain ⟨t,e⟩:=r1
   subst e
   exact .cons n t (ih r2)
section
variable {X:Cx} {e:Expr} {te:TE} {lo hi:Option Expr} {tl th:TO} {pos p2:Pos}
theorem fz:PO X none iW:=by
 intro pins s σ H Q I h
 rw [evalPart_none]
 exact wpAny_pure ⟨none,H,I,.none,h⟩
theorem fv (h:PE X e te):PO X (some e) (qW te):=by
 intro pins s σ H Q I hw
 rw [evalPart_some]
 refine dc (h pins s σ H _ I hw) fun u s1 ⟨x,H1,I1,r1,q1⟩=>?_
 obtain ⟨i,rfl,q⟩:=q1
 obtain ⟨t,rfl⟩:=r1
 exact ⟨some i,H1,I1,.int i t,q⟩
def Ql (X:Cx) (r:V→Option Int→Option Int→Hp→VK→Prop):Prop:=
 ∀ (pins:List (Addr×Obj)) (s:Shared) (σ : St) (H:Hp) (x:V) (v vl vu:Value) (lo hi:Option Int) (sl:Addr) (Q:VK),Inv X pins σ H s→RelV x v→s.heap.IsSliceOf sl vl vu .none→IsPart vl lo→IsPart vu hi→r x lo hi H Q→
  ∃ T id,typeLookup (.type T) "__getitem__" = pure (some (.builtin id))∧s.TypeIs v T∧wpAny (model X.prog X.w) X.A (getItem v (.ref sl)) (EP X pins σ Q) X.xe s
def Ff (r:V→Option Int→Option Int→Hp→VK→Prop) (te:TE) (tl th:TO):TE:=fun σ H Q=>te σ H fun x H1=>tl σ H1 fun l H2=>th σ H2 fun u H3=>r x l u H3 Q
theorem d7 {r:V→Option Int→Option Int→Hp→VK→Prop} (hr:Ql X r) (he:PE X e te) (hl:PO X lo tl) (hu:PO X hi th):PE X (.Subscript e (.Slice lo hi none p2) pos) (Ff r te tl th):=by
 intro pins s σ H Q I h
 refine Subscript_ (dc (he pins s σ H _ I h) fun v s1 ⟨x,H1,I1,r1,q1⟩=>?_)
 refine wpAny_Slice (dc (hl pins s1 σ H1 _ I1 q1) fun vl s2 ⟨l,H2,I2,pl,q2⟩=>dc (hu pins s2 σ H2 _ I2 q2) fun vu s3 ⟨u,H3,I3,pu,q3⟩=>?_)
 rw [evalPart_none]
 refine wpAny_pure ?_
 have I4:Inv X pins σ H3 { s3 with heap:=s3.heap.push { cls:=.type "slice",data:=.fields #[vl,vu,.none] } }:=I3.kept (t':=s3.toks) fun b ob q=>Heap.get?_push_of_some _ q
 obtain ⟨T,id,hT,ht,hg⟩:=hr pins { s3 with heap:=s3.heap.push { cls:=.type "slice",data:=.fields #[vl,vu,.none] } } σ H3 x v vl vu l u s3.heap.objs.size Q I4 r1 (Heap.IsSliceOf.new ..) pl pu q3
 show wpAny (model X.prog X.w) X.A (subscriptTail e (.Slice lo hi none p2) v (.ref s3.heap.objs.size)) (EP X pins σ Q) X.xe { s3 with heap:=s3.heap.push { cls:=.type "slice",data:=.fields #[vl,vu,.none] } }
 exact tail_any (ops:=[.ref s3.heap.objs.size,v]) ht hT hg (by with_unfolding_all rfl)
def qz (xs:List V) (lo hi:Option Int):List V:=(xs.drop (HT.o4 xs.length 0 lo)).take (HT.o4 xs.length xs.length hi - HT.o4 xs.length 0 lo)
theorem sS (xs:List V) (lo hi:Option Int):(qz xs lo hi).length≤xs.length:=by
 unfold qz
 rw [List.length_take,List.length_drop]
 omega
def T9 (K:PySem.W.Frag):V→Option Int→Option Int→Hp→VK→Prop:=fun x lo hi H Q=>∃ a xs,x = .ref a∧SqT K H a xs∧
 ¬ (HT.o4 xs.length 0 lo = 0∧HT.o4 xs.length xs.length hi = xs.length)∧∀ p,H p = none→Q (.ref p) (upd H p (.tup (qz xs lo hi)))
def Ub (K:PySem.W.Frag):R2:=fun x y H Q=>∃ a b ns ms,x = .ref a∧y = .ref b∧SqT K H a (ns.map V.int)∧SqT K H b (ms.map V.int)∧Q (.bl (HT.lexLt ns ms)) H
def QY (K:PySem.W.Frag):R2:=fun x y H Q=>∃ a b xs ys,x = .ref a∧y = .ref b∧SqT K H a xs∧SqT K H b ys∧xs≠[]∧xs.length + ys.length≤sizeLine∧
 (ys = []→Q (.ref a) H)∧(ys≠[]→∀ p,H p = none→Q (.ref p) (upd H p (.tup (xs ++ ys))))
end
end L2
namespace L2
open PySem PySem.Spec PyProof.Rows
def Aq (n:Nat) (i:Int):Option Nat:=if 0≤i then (if i < n then some i.toNat else none) else if -(n:Int)≤i then some (i + n).toNat else none
def kU {α : Type} (xs:List α) (i:Int):Option α:=(Aq xs.length i).bind fun j=>xs[j]?
theorem vP {n:Nat} {i:Int} {j:Nat} (h:Aq n i = some j):seqIndex? i n = some j∧j < n∧-(n:Int)≤i∧i < n:=by
 unfold Aq at h
 by_cases h0:0≤i
 ·rw [if_pos h0] at h
  by_cases h1:i < n
  ·rw [if_pos h1] at h
   have e:i.toNat = j:=Option.some.inj h
   exact ⟨by rw [seqIndex_of h0 h1,e],by omega,by omega,h1⟩
  ·rw [if_neg h1] at h; cases h
 ·rw [if_neg h0] at h
  by_cases h1 : -(n:Int)≤i
  ·rw [if_pos h1] at h
   have e:(i + n).toNat = j:=Option.some.inj h
   exact ⟨by rw [seqIndex_neg (by omega) h1,e],by omega,h1,by omega⟩
  ·rw [if_neg h1] at h; cases h
theorem wu {α : Type} {xs:List α} {i:Int} {v : α} (h:kU xs i = some v):∃ j,seqIndex? i xs.length = some j∧xs[j]? = some v∧j < xs.length∧-(xs.length:Int)≤i∧i < xs.length:=by
 unfold kU at h
 cases e:Aq xs.length i with
 | none=>rw [e] at h; cases h
 | some j=>
  rw [e] at h
  obtain ⟨h1,h2,h3,h4⟩:=vP e
  exact ⟨j,h1,h,h2,h3,h4⟩
theorem ir {α : Type} {xs:List α} {j:Nat} {v : α} (h:xs[j]? = some v):kU xs (j:Int) = some v:=by
 have hj:j < xs.length:=(List.getElem?_eq_some_iff.mp h).1
 have e:Aq xs.length (j:Int) = some j:=by
  unfold Aq
  rw [if_pos (by omega),if_pos (by omega)]; simp
 unfold kU; rw [e]; exact h
def Cm (b:Expr):Prop:=∀ o i,subscripted b false o i = operate [o,i] (getItem o i)
def KJ (X:Cx) (r:R2):Prop:=
 ∀ (value slice:Expr) (pins:List (Addr×Obj)) (s:Shared) (σ : St) (H:Hp) (x y:V) (v u:Value) (Q:VK),Inv X pins σ H s→RelV x v→RelV y u→r x y H Q→
  subscripted slice false v u = operate [v,u] (getItem v u)→wpAny (model X.prog X.w) X.A (subscriptTail value slice v u) (EP X pins σ Q) X.xe s
def Qn (X:Cx) (id:String) (r:V→List V→Hp→VK→Prop):Prop:=
 ∀ (pins:List (Addr×Obj)) (s:Shared) (σ : St) (H:Hp) (x:V) (xs:List V) (v:Value) (us:List Value) (Q:VK),Inv X pins σ H s→RelV x v→Vals xs us→r x xs H Q→
  wpAny (model X.prog X.w) X.A (call (.builtin id) (v :: us)) (EP X pins σ Q) X.xe s
section
variable {X:Cx} {a b:Expr} {ta tb:TE} {pos:Pos}
theorem bp {r:R2} (hr:KJ X r) (ha:PE X a ta) (hb:PE X b tb) (hs:Cm b):PE X (.Subscript a b pos) (F1 r ta tb):=by
 intro pins s σ H Q I h
 exact Subscript_ (E3 ha hb I h fun v u s2 x y H2 I2 rx ry q=>hr a b pins s2 σ H2 x y v u Q I2 rx ry q (hs _ _))
def Bi (K:PySem.W.Frag):R2:=fun x y H Q=>∃ p xs i v,x = .ref p∧y = .int i∧aD K H p xs∧kU xs i = some v∧Q v H
def DH (K:PySem.W.Frag):R2:=fun x y H Q=>∃ p xs i v,x = .ref p∧y = .int i∧SqT K H p xs∧kU xs i = some v∧Q v H
def LL:R2:=fun x y H Q=>∃ z i c,x = .str z∧y = .int i∧z.length≤sizeLine∧kU z.cps.toList i = some c∧Q (.str ⟨#[c]⟩) H
theorem aO:KJ X (Bi X.K):=by
 intro value slice pins s σ H x y v u Q I rx ry h hs
 obtain ⟨p,xs,i,z,rfl,rfl,hq,he,q⟩:=h
 cases rx
 obtain ⟨t,rfl⟩:=ry
 obtain ⟨aL,r,pl,hz⟩:=I.list hq
 obtain ⟨j,h1,h2,h3,h4,h5⟩:=wu he
 obtain ⟨w,ew,uZ⟩:=r.get h2
 have hl:=r.length
 have hn:=gZ
 have fin:EP X pins σ Q w s:=⟨z,H,I,uZ,q⟩
 by_cases h0:0≤i
 ·have hj:i.toNat = j:=by
   rw [seqIndex_of h0 h5] at h1
   exact Option.some.inj h1
  exact item_listR pl.isList h0 (by omega) (by rw [hj]; simpa using ew) fin hs
 ·have hj:(i + (aL.toArray.size:Int)).toNat = j:=by
   rw [seqIndex_neg (by omega) h4] at h1
   rw [List.size_toArray,← hl]
   exact Option.some.inj h1
  exact subscriptTail_builtinR (x:=w) pl.isList.typeIs slot_list_getitem.lookup
   (wpAny_getItem_list_neg (Q:=fun r s'=>r = w∧EP X pins σ Q r s') pl.isList (by omega) (by rw [List.size_toArray] <;> omega) (by omega) (by rw [hj]; simpa using ew) ⟨rfl,fin⟩) hs
theorem uw:KJ X (DH X.K):=by
 intro value slice pins s σ H x y v u Q I rx ry h hs
 obtain ⟨p,xs,i,z,rfl,rfl,hq,he,q⟩:=h
 cases rx
 obtain ⟨t,rfl⟩:=ry
 obtain ⟨aL,r,pl,hz⟩:=I.tuple hq
 obtain ⟨j,h1,h2,h3,h4,h5⟩:=wu he
 obtain ⟨w,ew,uZ⟩:=r.get h2
 have hl:=r.length
 have hn:=gZ
 have fin:EP X pins σ Q w s:=⟨z,H,I,uZ,q⟩
 exact subscriptTail_builtinR (x:=w) pl.typeIs slot_tuple_getitem.lookup
  (getItem_tuple (j:=j) (Q:=fun r s'=>r = w∧EP X pins σ Q r s') pl (by omega) (by omega) (by rw [List.size_toArray,← hl]; exact h1) (by simpa using ew) ⟨rfl,fin⟩) hs
def Y6 (K:PySem.W.Frag):R2:=fun x y H Q=>Bi K x y H Q∨DH K x y H Q∨LL x y H Q
theorem uk (aL:List Value) (n j:Nat) (u:Value):Obj.mapSeq (·.setIfInBounds j u) { cls:=.type "list",data:=.seq aL.toArray n } = { cls:=.type "list",data:=.seq (aL.set j u).toArray n }:=by
 simp [Obj.mapSeq]
theorem Inv.lst {pins:List (Addr×Obj)} {σ : St} {H:Hp} {s:Shared} {p:Addr} {xs:List V} (I:Inv X pins σ H s) (h:H p = some (.lst xs)) :
  ∃ (aL:List Value) (n:Nat),Vals xs aL∧s.heap.get? p = some { cls:=.type "list",data:=.seq aL.toArray n }∧xs.length≤sizeLine:=by
 obtain ⟨z,aL,n,r,e⟩:=I.bS p _ h
 exact ⟨aL,n,r,e,z⟩
theorem Inv.Ec {pins:List (Addr×Obj)} {σ : St} {H:Hp} {s:Shared} {p:Addr} {xs ys:List V} {aL its':List Value} {n n':Nat} {f:Obj→Obj} (I:Inv X pins σ H s) (h:H p = some (.lst xs))
  (ho:s.heap.get? p = some { cls:=.type "list",data:=.seq aL.toArray n }) (hf:f { cls:=.type "list",data:=.seq aL.toArray n } = { cls:=.type "list",data:=.seq its'.toArray n' }) (r:Vals ys its') (hz:ys.length≤sizeLine) (t:Nat) :
  Inv X pins σ (upd H p (.lst ys)) { s with heap:=s.heap.update p f,toks:=t }:=by
 have e:(s.heap.update p f).get? p = some { cls:=.type "list",data:=.seq its'.toArray n' }:=by
  rw [Heap.get?_update_self f ho (by rw [hf] <;> rfl),hf]
 refine I.write (x:=p) (e:=p) (by rw [h]; trivial) (.inl rfl) (fun b u hb q=>(Heap.get?_update_other _ _ (Ne.symm hb)).trans q) ⟨_,e⟩ ?_
 exact ⟨hz,its',n',r,e⟩
def Gu:V→V→V→Hp→(Hp→Prop)→Prop:=fun o i v H Q=>∃ p xs k j,o = .ref p∧i = .int k∧H p = some (.lst xs)∧Aq xs.length k = some j∧Q (upd H p (.lst (xs.set j v)))
theorem set_list:IT X Gu:=by
 intro pins s σ H o i v ov iv u Q I ro ri rv h
 obtain ⟨p,xs,k,j,rfl,rfl,hp,hj,q⟩:=h
 cases ro
 obtain ⟨t,rfl⟩:=ri
 obtain ⟨aL,n,r,ho,hz⟩:=I.lst hp
 obtain ⟨h1,h2,h3,h4⟩:=vP hj
 have hl:=r.length
 have hn:=gZ
 have I':Inv X pins σ (upd H p (.lst (xs.set j v))) { s with heap:=s.heap.update p (Obj.mapSeq (·.setIfInBounds j u)) }:=
  I.Ec hp ho (uk aL n j u) (r.set rv j) (by rw [List.length_set]; exact hz) s.toks
 by_cases h0:0≤k
 ·have hk:k.toNat = j:=by
   rw [seqIndex_of h0 h4] at h1
   exact Option.some.inj h1
  exact PySem.W.ki_setAt ho h0 (by omega) (by rw [List.size_toArray,← hl]; exact h4) (by rw [hk]; exact ⟨_,I',q⟩)
 ·have hk:(k + (aL.toArray.size:Int)).toNat = j:=by
   rw [seqIndex_neg (by omega) h3] at h1
   rw [List.size_toArray,← hl]
   exact Option.some.inj h1
  exact PySem.W.ki_setBack ho (by omega) (by rw [List.size_toArray,← hl]; exact h3) (by omega) (by rw [hk]; exact ⟨_,I',q⟩)
theorem oY (lo hi:Option Int) (n:Nat):(sliceBounds lo hi none n).1 = ((HT.o4 n 0 lo:Nat):Int)∧(sliceBounds lo hi none n).2.1 = ((HT.o4 n n hi:Nat):Int)∧(sliceBounds lo hi none n).2.2 = 1:=by
 refine ⟨?_,?_,rfl⟩
 ·cases lo with
  | none=>simp [sliceBounds,HT.o4]
  | some i=>
   simp only [sliceBounds,HT.o4,Option.getD_none,show (1:Int) > 0 by decide,if_true]
   by_cases h:i < 0
   ·simp only [h,if_true] <;> omega
   ·simp only [h,if_false] <;> omega
 ·cases hi with
  | none=>simp [sliceBounds,HT.o4]
  | some i=>
   simp only [sliceBounds,HT.o4,Option.getD_none,show (1:Int) > 0 by decide,if_true]
   by_cases h:i < 0
   ·simp only [h,if_true] <;> omega
   ·simp only [h,if_false] <;> omega
theorem mW (aL:List Value) (lo hi:Option Int):slicePick aL.toArray lo hi none = ((aL.drop (HT.o4 aL.length 0 lo)).take (HT.o4 aL.length aL.length hi - HT.o4 aL.length 0 lo)).toArray:=by
 obtain ⟨h1,h2,h3⟩:=oY lo hi aL.toArray.size
 unfold slicePick
 rw [h1,h2,h3]
 simp only [sliceRange_one,pick_run,List.size_toArray] <;> rfl
def wM (K:PySem.W.Frag):V→Option Int→Option Int→Hp→VK→Prop:=fun x lo hi H Q=>∃ a xs,x = .ref a∧aD K H a xs∧∀ p,H p = none→Q (.ref p) (upd H p (.lst (qz xs lo hi)))
theorem fY:Ql X (wM X.K):=by
 intro pins s σ H x v vl vu lo hi sl Q I rx hs pl pu h
 obtain ⟨a,xs,rfl,hx,q⟩:=h
 cases rx
 obtain ⟨aL,r,ht,hz⟩:=I.list hx
 have hlen:=r.length
 refine ⟨"list",_,slot_list_getitem.lookup,ht.isList.typeIs,?_⟩
 refine wpAny_getItem_list_slice ht.isList hs pl pu .none (by simp) ?_ (by rw [List.size_toArray] <;> omega)
 rw [mW,← hlen]
 refine ⟨.ref s.heap.objs.size,_,I.laid (t':=s.toks) (o:=.lst (qz xs lo hi)) (fun b ob q=>Heap.get?_push_of_some _ q) (Nat.le_refl _) ?_,rfl,q _ (I.bS.fresh (Nat.le_refl _))⟩
 exact ⟨Nat.le_trans (sS xs lo hi) hz,_,0,(r.drop (HT.o4 xs.length 0 lo)).take (HT.o4 xs.length xs.length hi - HT.o4 xs.length 0 lo),Heap.get?_push_size _ rfl⟩
def jx:V→Bool
 | .cV=>true
 | .bl _=>true
 | .int _=>true
 | .str _=>true
 | _=>false
def B6:V→V→Bool
 | .cV,.cV=>true
 | .bl a,.bl b=>a == b
 | .bl a,.int b=>(if a then 1 else 0) == b
 | .int a,.bl b=>a == (if b then 1 else 0)
 | .int a,.int b=>a == b
 | .str a,.str b=>a == b
 | _,_=>false
theorem EO {A:Around} {s:Shared} {y x:V} {u v:Value} (ry:RelV y u) (rx:RelV x v) (fy:jx y = true) (fx:jx x = true):SeqAt.EqAt A s u v (B6 y x):=by
 cases y with
 | cV=>
  cases ry
  cases x with
  | cV=>cases rx; exact SeqAt.EqAt.same _
  | bl b=>cases rx; exact SeqAt.EqAt.none_bool b
  | int b=>obtain ⟨t,rfl⟩:=rx; exact SeqAt.EqAt.none_int b t
  | str b=>obtain ⟨t,rfl⟩:=rx; exact SeqAt.EqAt.none_str b t
  | _=>exact absurd (show false = true from fx) Bool.false_ne_true
 | bl a=>
  cases ry
  cases x with
  | cV=>cases rx; exact SeqAt.EqAt.bool_none a
  | bl b=>cases rx; exact SeqAt.EqAt.bool_bool a b
  | int b=>obtain ⟨t,rfl⟩:=rx; exact SeqAt.EqAt.bool_int a b t
  | str b=>obtain ⟨t,rfl⟩:=rx; exact SeqAt.EqAt.bool_str a b t
  | _=>exact absurd (show false = true from fx) Bool.false_ne_true
 | int a=>
  obtain ⟨t',rfl⟩:=ry
  cases x with
  | cV=>cases rx; exact SeqAt.EqAt.int_none a t'
  | bl b=>cases rx; exact SeqAt.EqAt.int_bool a t' b
  | int b=>obtain ⟨t,rfl⟩:=rx; exact SeqAt.EqAt.int_int a t' b t
  | str b=>obtain ⟨t,rfl⟩:=rx; exact SeqAt.EqAt.int_str a t' b t
  | _=>exact absurd (show false = true from fx) Bool.false_ne_true
 | str a=>
  obtain ⟨t',rfl⟩:=ry
  cases x with
  | cV=>cases rx; exact SeqAt.EqAt.str_none a t'
  | bl b=>cases rx; exact SeqAt.EqAt.str_bool a t' b
  | int b=>obtain ⟨t,rfl⟩:=rx; exact SeqAt.EqAt.str_int a t' b t
  | str b=>obtain ⟨t,rfl⟩:=rx; exact SeqAt.EqAt.str_str a t' b t
  | _=>exact absurd (show false = true from fx) Bool.false_ne_true
 | _=>exact absurd (show false = true from fy) Bool.false_ne_true
def uH (x:V) (u:Value):Bool:=match u with
 | .none=>B6 .cV x
 | .bool b=>B6 (.bl b) x
 | .int i _=>B6 (.int i) x
 | .str z _=>B6 (.str z) x
 | _=>false
theorem zO {x y:V} {u:Value} (r:RelV y u) (f:jx y = true):uH x u = B6 y x:=by
 cases y with
 | cV=>cases r; rfl
 | bl b=>cases r; rfl
 | int i=>obtain ⟨t,rfl⟩:=r; rfl
 | str z=>obtain ⟨t,rfl⟩:=r; rfl
 | _=>exact absurd (show false = true from f) Bool.false_ne_true
theorem jy {x:V}:∀ {xs:List V} {us:List Value},Vals xs us→xs.all jx = true→us.any (uH x) = xs.any fun y=>B6 y x
 | _,_,.nil,_=>rfl
 | y :: xs,u :: us,.cons r t,f=>by
  rw [List.all_cons,Bool.and_eq_true] at f
  rw [List.any_cons,List.any_cons,zO r f.1,jy t f.2]
theorem gU {A:Around} {s:Shared} {x:V} {v:Value} (rx:RelV x v) (fx:jx x = true):∀ {xs:List V} {us:List Value},Vals xs us→xs.all jx = true→∀ u∈us,SeqAt.EqAt A s u v (uH x u)
 | _,_,.nil,_=>fun u hu=>by cases hu
 | y :: xs,u :: us,.cons r t,f=>fun u' hu=>by
  rw [List.all_cons,Bool.and_eq_true] at f
  rcases List.mem_cons.mp hu with rfl | hu
  ·rw [zO r f.1]; exact EO r rx f.1 fx
  ·exact gU rx fx t f.2 u' hu
def JL (x:V) (xs:List V):Bool:=xs.any fun y=>B6 y x
def Jt (K:PySem.W.Frag) (neg:Bool):R2:=fun x y H Q=>∃ p xs,y = .ref p∧(aD K H p xs∨SqT K H p xs)∧jx x = true∧xs.all jx = true∧Q (.bl (if neg then !JL x xs else JL x xs)) H
theorem jJ:jT X (compareOp .In) (Jt X.K false):=by
 intro pins s σ H x y v u Q I rx ry h
 obtain ⟨p,xs,rfl,hq,fx,fs,q⟩:=h
 cases ry
 rcases hq with hq | hq
 ·obtain ⟨aL,r,pl,hz⟩:=I.list hq
  refine SeqAt.in_listAt (uH x) pl.isList (fun w hw=>gU rx fx r fs w (by simpa using hw)) ⟨.bl _,H,I,rfl,?_⟩
  rw [show aL.toArray.any (uH x) = aL.any (uH x) by simp,jy r fs]
  exact q
 ·obtain ⟨aL,r,pl,hz⟩:=I.tuple hq
  refine SeqAt.in_tupleAt (uH x) pl (fun w hw=>gU rx fx r fs w (by simpa using hw)) ⟨.bl _,H,I,rfl,?_⟩
  rw [show aL.toArray.any (uH x) = aL.any (uH x) by simp,jy r fs]
  exact q
theorem gc:jT X (compareOp .NotIn) (Jt X.K true):=by
 intro pins s σ H x y v u Q I rx ry h
 obtain ⟨p,xs,rfl,hq,fx,fs,q⟩:=h
 cases ry
 rcases hq with hq | hq
 ·obtain ⟨aL,r,pl,hz⟩:=I.list hq
  refine SeqAt.notIn_listAt (uH x) pl.isList (fun w hw=>gU rx fx r fs w (by simpa using hw)) ⟨.bl _,H,I,rfl,?_⟩
  rw [show aL.toArray.any (uH x) = aL.any (uH x) by simp,jy r fs]
  exact q
 ·obtain ⟨aL,r,pl,hz⟩:=I.tuple hq
  refine SeqAt.notIn_tupleAt (uH x) pl (fun w hw=>gU rx fx r fs w (by simpa using hw)) ⟨.bl _,H,I,rfl,?_⟩
  rw [show aL.toArray.any (uH x) = aL.any (uH x) by simp,jy r fs]
  exact q
def FQ (K:PySem.W.Frag) (T:String) (x:V) (H:Hp):Prop:=match x with
 | .str _=>T = "str"
 | .int _=>T = "int"
 | .ref p=>(T = "list"∧∃ xs,aD K H p xs)∨(T = "tuple"∧∃ o,K.lookup p = some o∧o.cls = .type "tuple"∧o.dict = none)∨
   (T = "dict"∧((∃ aI,H p = some (.dK aI))∨∃ aI,H p = some (.dT aI)))∨(T = "set"∧∃ S n,H p = some (.set S n))
 | _=>False
theorem x5 {pins:List (Addr×Obj)} {σ : St} {H:Hp} {s:Shared} {T:String} {x:V} {v:Value} (I:Inv X pins σ H s) (r:RelV x v) (ty:FQ X.K T x H) :
  s.TypeIs v T∧∀ a,v = .ref a→∃ ob,s.heap.get? a = some ob∧ob.dict = none:=by
 cases x with
 | str z=>
  obtain ⟨t,rfl⟩:=r
  cases (show T = "str" from ty)
  exact ⟨typeIs_str s z t,fun _ e=>nomatch e⟩
 | int i=>
  obtain ⟨t,rfl⟩:=r
  cases (show T = "int" from ty)
  exact ⟨typeIs_int s i t,fun _ e=>nomatch e⟩
 | ref p=>
  cases r
  rcases ty with ⟨rfl,xs,hq⟩ | ⟨rfl,o,hk,hc,hd⟩ | ⟨rfl,hk⟩ | ⟨rfl,S,n,hk⟩
  ·obtain ⟨aL,_,pl,_⟩:=I.list hq
   refine ⟨pl.isList.typeIs,fun a e=>?_⟩
   cases e
   obtain ⟨o,n,e,c,hd,_⟩:=pl
   exact ⟨o,e,hd⟩
  ·refine ⟨⟨o,I.Ft p o hk,hc⟩,fun a e=>?_⟩
   cases e
   exact ⟨o,I.Ft _ o hk,hd⟩
  ·have z:∃ o,s.heap.get? p = some o∧o.ExactDict:=by
    rcases hk with ⟨aI,hk⟩ | ⟨aI,hk⟩
    ·obtain ⟨_,_,_,_,o,_,_,e,ex,_⟩:=I.bS p _ hk
     exact ⟨o,e,ex⟩
    ·obtain ⟨_,_,_,_,o,_,_,e,ex,_⟩:=I.bS p _ hk
     exact ⟨o,e,ex⟩
   obtain ⟨o,e,ex⟩:=z
   refine ⟨⟨o,e,ex.1⟩,fun a e2=>?_⟩
   cases e2
   exact ⟨o,e,ex.2.1⟩
  ·obtain ⟨o,_,_,_,e,ex,_⟩:=I.bS p _ hk
   refine ⟨⟨o,e,ex.1⟩,fun a e2=>?_⟩
   cases e2
   exact ⟨o,e,ex.2.1⟩
 | _=>exact False.elim ty
def F7 (K:PySem.W.Frag) (T:String) (r:V→List V→Hp→VK→Prop) (to:TE):TE:=fun σ H Q=>to σ H fun x H1=>FQ K T x H1∧r x [] H1 Q
def QH (K:PySem.W.Frag) (T:String) (r:V→List V→Hp→VK→Prop) (to:TE) (t:TA):TE:=fun σ H Q=>to σ H fun x H1=>FQ K T x H1∧t σ H1 fun xs H2=>r x xs H2 Q
variable {o e:Expr} {es:List Expr} {to:TE} {t:TA} {name:Str} {apos eV:Pos} {T id:String} {r:V→List V→Hp→VK→Prop}
theorem yN (pa:PlainAttrs T) (slot:Slot T name id) (NL:typeOf (.builtin id) = pure (.type "method_descriptor")) (hm:Qn X id r) (ho:PE X o to)
  (zG:attributeBase o name X.env (eval o X.env) = eval o X.env:=by rfl) (zA:(apos.endLine == eV.line) = true:=by rfl):PE X (.Call (.Attribute o name apos) [] [] eV) (F7 X.K T r to):=by
 intro pins s σ H Q I h
 refine wpAny_Call_method0_late zG zA (dc (ho pins s σ H _ I h) fun v s1 ⟨x,H1,I1,r1,ty,q1⟩=>?_)
 obtain ⟨h1,h2⟩:=x5 I1 r1 ty
 exact ⟨T,id,pa,slot,NL,h1,h2,Calls.callWith_builtin rfl (PySem.evalArgs_none (hm pins s1 σ H1 x [] v [] Q I1 r1 .nil q1))⟩
theorem di (pa:PlainAttrs T) (slot:Slot T name id) (NL:typeOf (.builtin id) = pure (.type "method_descriptor")) (hm:Qn X id r) (ho:PE X o to) (ha:PA X (e :: es) t)
  (zG:attributeBase o name X.env (eval o X.env) = eval o X.env:=by rfl)
  (Oc:((backTo eV (starEach (e :: es) X.env)).all (fun x=>!x.1) && (backToKw eV (keywordEach [] X.env)).all (fun x=>x.1.isSome)
   && decide ((e :: es).length + ([]:List Keyword).length + (if ([]:List Keyword).isEmpty then 0 else 1) < 30)) = true:=by rfl)
  (zA:(apos.endLine == eV.line) = true:=by rfl) (hs:starEach (e :: es) X.env = (false,eval e X.env) :: starEach es X.env:=by rfl) (EA:(backTo eV (starEach es X.env)).any (·.1) = false:=by rfl) :
  PE X (.Call (.Attribute o name apos) (e :: es) [] eV) (QH X.K T r to t):=by
 intro pins s σ H Q I h
 refine wpAny_Call_method_late zG Oc zA rfl (dc (ho pins s σ H _ I h) fun v s1 ⟨x,H1,I1,r1,ty,q1⟩=>?_)
 obtain ⟨h1,h2⟩:=x5 I1 r1 ty
 refine ⟨T,id,pa,slot,NL,h1,h2,?_⟩
 have hA:=ha eV pins s1 σ H1 _ I1 q1
 rw [hs] at hA ⊢
 refine Calls.callWith_builtin (by show (false || (backTo eV (starEach es X.env)).any (·.1)) = false; rw [EA] <;> rfl) (Calls.evalArgs_plain ?_)
 exact dc hA fun us s2 ⟨vs,H2,I2,r2,q2⟩=>hm pins s2 σ H2 x vs v us Q I2 r1 r2 q2
/- xs.append(e),list.index on a module's tuple .. are Qn facts of 06m -/
end
end L2
namespace L2
open PySem PySem.Spec PyProof.Rows
def FK (X:Cx) (id:String) (r:V→List V→Hp→VK→Prop):Prop:=
 ∀ (pins:List (Addr×Obj)) (s:Shared) (σ : St) (H:Hp) (x:V) (xs:List V) (v:Value) (us:List Value) (Q:VK),Inv X pins σ H s→RelV x v→Vals xs us→r x xs H Q→
  wpAny (model X.prog X.w) X.A (call (.builtin id) (v :: us)) (EP X pins σ Q) X.xe s
theorem Vals.one:∀ {x:V} {us:List Value},Vals [x] us→∃ u,us = [u]∧RelV x u
 | _,_,.cons r .nil=>⟨_,rfl,r⟩
theorem Vals.zero:∀ {us:List Value},Vals [] us→us = []
 | _,.nil=>rfl
theorem Vals.dropLast {xs:List V} {us:List Value} (h:Vals xs us):Vals xs.dropLast us.dropLast:=by
 induction h with
 | nil=>exact .nil
 | cons r t ih=>
  cases t with
  | nil=>exact .nil
  | cons q t'=>exact .cons r ih
theorem uG {α : Type} (l:List α):l.eraseIdx (l.length - 1) = l.dropLast:=by
 induction l with
 | nil=>rfl
 | cons a r ih=>
  cases r with
  | nil=>rfl
  | cons b r=>
   have e:(a :: b :: r).length - 1 = ((b :: r).length - 1) + 1:=by
    have h1:(a :: b :: r).length = r.length + 2:=rfl
    have h2:(b :: r).length = r.length + 1:=rfl
    omega
   rw [e,List.eraseIdx_cons_succ,ih]
   all_goals rfl
section
variable {X:Cx} {pins:List (Addr×Obj)} {σ : St} {H:Hp} {s:Shared} {l b:Addr} {xs ys zs:List V}
theorem Inv.BA {aL its':List Value} {n:Nat} {f:Array Value→Array Value} {t':Nat} (I:Inv X pins σ H s) (hH:H l = some (.lst xs))
  (e:s.heap.get? l = some { cls:=.type "list",data:=.seq aL.toArray n }) (hf:f aL.toArray = its'.toArray) (hv:Vals ys its') (hz:ys.length≤sizeLine) :
  Inv X pins σ (upd H l (.lst ys)) { s with heap:=s.heap.update l (Obj.mapSeq f),toks:=t' }:=by
 have q:=PySem.IsL.update e f
 rw [hf] at q
 refine I.write (x:=l) (e:=l) (by rw [hH]; exact trivial) (.inl rfl) (fun b' u hb hu=>(Heap.get?_update_other s.heap (Obj.mapSeq f) (Ne.symm hb)).trans hu) ⟨_,q⟩ ?_
 exact ⟨hz,its',_,hv,q⟩
theorem Inv.Nc {aL:List Value} {t':Nat} (I:Inv X pins σ H s) (hv:Vals ys aL) (hz:ys.length≤sizeLine) :
  Inv X pins σ (upd H s.heap.objs.size (.lst ys)) { s with heap:=s.heap.push { cls:=.type "list",data:=.seq aL.toArray },toks:=t' }:=
 I.laid (fun _ _ q=>Heap.get?_push_of_some _ q) (Nat.le_refl _) ⟨hz,aL,0,hv,Heap.get?_push_size _ rfl⟩
theorem Inv.fresh (I:Inv X pins σ H s):H s.heap.objs.size = none:=I.bS.fresh (Nat.le_refl _)
theorem Inv.nj (I:Inv X pins σ H s) (hH:H l = some (.lst xs)):xs.length≤sizeLine∧∃ (aL:List Value) (n:Nat),Vals xs aL∧xs.length = aL.length∧s.heap.get? l = some { cls:=.type "list",data:=.seq aL.toArray n }:=by
 obtain ⟨z,aL,n,r,e⟩:=I.bS l _ hH
 exact ⟨z,aL,n,r,r.length,e⟩
theorem yV {n:Nat} (h:n≤sizeLine):Builtin.List.listTooLong n = false:=by
 unfold Builtin.List.listTooLong
 exact decide_eq_false (by omega)
end
section
variable {X:Cx}
def vz:V→List V→Hp→VK→Prop:=fun x vs H Q=>∃ l xs y,x = .ref l∧vs = [y]∧H l = some (.lst xs)∧xs.length < sizeLine∧Q .cV (upd H l (.lst (xs ++ [y])))
theorem bT:FK X "list.append" vz:=by
 intro pins s σ H x vs v us Q I rx rv h
 obtain ⟨l,xs,y,rfl,rfl,hH,hz,q⟩:=h
 cases rx
 obtain ⟨u,rfl,ru⟩:=rv.one
 obtain ⟨z,aL,n,r,hl,e⟩:=I.nj hH
 refine call_meets F.slot_list_append ⟨_,e,rfl⟩ F.entry_list_append (F.args_list_append_2 _ _) (PySem.list_append l aL.toArray n u (by rw [List.size_toArray]; omega)) ⟨e,?_⟩
 refine ⟨.cV,_,I.BA (its':=aL ++ [u]) hH e (by simp) (r.append (.cons ru .nil)) ?_,rfl,q⟩
 rw [List.length_append,List.length_singleton]
 omega
def vw:V→List V→Hp→VK→Prop:=fun x vs H Q=>∃ l b xs zs,x = .ref l∧vs = [.ref b]∧H l = some (.lst xs)∧H b = some (.lst zs)∧xs.length + zs.length≤sizeLine∧Q .cV (upd H l (.lst (xs ++ zs)))
theorem w6:FK X "list.extend" vw:=by
 intro pins s σ H x vs v us Q I rx rv h
 obtain ⟨l,b,xs,zs,rfl,rfl,hH,hB,hz,q⟩:=h
 cases rx
 obtain ⟨u,rfl,ru⟩:=rv.one
 cases ru
 obtain ⟨z,aL,n,r,hl,e⟩:=I.nj hH
 obtain ⟨z2,sG,n2,r2,jv,e2⟩:=I.nj hB
 have hsz:aL.toArray.size + sG.toArray.size≤sizeLine:=by rw [List.size_toArray,List.size_toArray]; omega
 have Hh:¬ (!aL.toArray.isEmpty && Builtin.List.listTooLong (aL.toArray.size + sG.toArray.size)) = true:=by
  rw [yV hsz,Bool.and_false]
  exact Bool.false_ne_true
 refine call_meets F.slot_list_extend ⟨_,e,rfl⟩ F.entry_list_extend (F.args_list_extend_2 _ _)
  (AutoSeq1.list_extend_list_list_0 l aL.toArray n b sG.toArray n2 Hh (by rw [List.size_toArray]; omega) (by omega)) ⟨e,e2,?_⟩
 refine ⟨.cV,_,I.BA (its':=aL ++ sG) hH e (by simp) (r.append r2) ?_,rfl,q⟩
 rw [List.length_append]
 omega
def LI:V→List V→Hp→VK→Prop:=fun x vs H Q=>∃ l xs y,x = .ref l∧vs = []∧H l = some (.lst xs)∧xs[xs.length - 1]? = some y∧Q y (upd H l (.lst xs.dropLast))
theorem y3:FK X "list.pop" LI:=by
 intro pins s σ H x vs v us Q I rx rv h
 obtain ⟨l,xs,y,rfl,rfl,hH,hy,q⟩:=h
 cases rx
 have Wa:=rv.zero
 subst Wa
 obtain ⟨z,aL,n,r,hl,e⟩:=I.nj hH
 obtain ⟨u,hu,ru⟩:=r.get hy
 have As:aL.toArray[aL.toArray.size - 1]? = some u:=by
  show aL.toArray[aL.length - 1]? = some u
  rw [← Array.getElem?_toList,← hl]
  exact hu
 refine call_meets F.slot_list_pop ⟨_,e,rfl⟩ F.entry_list_pop (F.args_list_pop_1 _) (MeetsSeq.list_pop_last l aL.toArray n u As (by rw [List.size_toArray]; omega)) ⟨e,?_⟩
 refine ⟨y,_,I.BA (its':=aL.dropLast) hH e ?_ r.dropLast ?_,ru,q⟩
 ·show aL.toArray.eraseIdxIfInBounds (aL.toArray.size - 1) = aL.dropLast.toArray
  rw [List.size_toArray,List.eraseIdxIfInBounds_toArray,uG]
 ·rw [List.length_dropLast]
  omega
def LH:V→List V→Hp→VK→Prop:=fun x vs H Q=>∃ l xs i k y,x = .ref l∧vs = [.int i]∧H l = some (.lst xs)∧-(2 ^ 63)≤i∧i < 2 ^ 63∧seqIndex? i xs.length = some k∧xs[k]? = some y∧Q y (upd H l (.lst (xs.eraseIdx k)))
def Gw:V→List V→Hp→VK→Prop:=fun x vs H Q=>∃ l xs,x = .ref l∧vs = []∧H l = some (.lst xs)∧Q .cV (upd H l (.lst xs.reverse))
def LP:V→List V→Hp→VK→Prop:=fun x vs H Q=>∃ l xs,x = .ref l∧vs = []∧H l = some (.lst xs)∧Q .cV (upd H l (.lst []))
def LQ:R2:=fun x y H Q=>∃ l b xs zs,x = .ref l∧y = .ref b∧H l = some (.lst xs)∧H b = some (.lst zs)∧xs.length + zs.length≤sizeLine∧∀ p,H p = none→Q (.ref p) (upd H p (.lst (xs ++ zs)))
theorem pI:jT X (binaryOp .Add) LQ:=by
 intro pins s σ H x y v u Q I rx ry h
 obtain ⟨l,b,xs,zs,rfl,rfl,hH,hB,hz,q⟩:=h
 cases rx
 cases ry
 obtain ⟨z,aL,n,r,hl,e⟩:=I.nj hH
 obtain ⟨z2,sG,n2,r2,jv,e2⟩:=I.nj hB
 refine PySem.P.add_list e e2 ?_ (by rw [List.size_toArray,List.size_toArray]; omega)
 have ea:aL.toArray ++ sG.toArray = (aL ++ sG).toArray:=by simp
 rw [ea]
 exact ⟨.ref _,_,I.Nc (t':=s.toks) (r.append r2) (by rw [List.length_append]; omega),rfl,q _ I.fresh⟩
def Ua:R2:=fun x y H Q=>∃ l k xs,x = .ref l∧y = .int k∧H l = some (.lst xs)∧-(2 ^ 63)≤k∧k < 2 ^ 63∧xs.length * k.toNat≤sizeLine∧
 ∀ p,H p = none→Q (.ref p) (upd H p (.lst (List.replicate k.toNat xs).flatten))
end
end L2
namespace L2
open PySem PySem.Spec PyProof.Rows
section
variable {κ : Type} [DecidableEq κ]
def eE (aI:List (κ×V)) (k : κ):Option V:=(aI.find? fun kv=>decide (kv.1 = k)).map (·.2)
def putK (aI:List (κ×V)) (k : κ) (v:V):List (κ×V):=
 if (aI.any fun kv=>decide (kv.1 = k)) = true then aI.map (fun kv=>if kv.1 = k then (kv.1,v) else kv) else aI ++ [(k,v)]
def zS (aI:List (κ×V)) (k : κ):List (κ×V):=aI.filter fun kv=>decide (kv.1≠k)
theorem eZ {p : κ×V} {r:List (κ×V)} {k : κ} (e:p.1 = k):eE (p :: r) k = some p.2:=by simp [eE,List.find?_cons,e]
theorem dI {p : κ×V} {r:List (κ×V)} {k : κ} (e:¬ p.1 = k):eE (p :: r) k = eE r k:=by simp [eE,List.find?_cons,e]
theorem lh (k : κ):∀ aI:List (κ×V),(aI.any fun kv=>decide (kv.1 = k)) = (eE aI k).isSome
 | []=>rfl
 | p :: r=>by
  rw [List.any_cons]
  by_cases e:p.1 = k
  ·simp only [eZ e,decide_eq_true e,Bool.true_or,Option.isSome_some]
  ·rw [dI e,decide_eq_false e,Bool.false_or]; exact lh k r
theorem hV (aI:List (κ×V)) (k : κ) (v:V):(putK aI k v).length≤aI.length + 1:=by
 unfold putK
 split
 ·rw [List.length_map]; omega
 ·rw [List.length_append,List.length_cons,List.length_nil]; omega
theorem i9 {aI:List (κ×V)} {k : κ} (v:V) (h:eE aI k = none):putK aI k v = aI ++ [(k,v)]:=by
 unfold putK
 rw [lh,h]
 exact if_neg (by decide)
theorem nH.jM {o:Option V} {u:Option Value} (r:nH o u):o.isSome = u.isSome:=by
 cases o with
 | none=>cases u with
  | none=>rfl
  | some _=>exact (show False from r).elim
 | some _=>cases u with
  | none=>exact (show False from r).elim
  | some _=>rfl
theorem KV.val {aI:List (κ×V)} {vs:List (κ×Value)} (r:KV aI vs) (k : κ):nH (eE aI k) (valueAt vs k):=by
 unfold KV at r
 induction r with
 | nil=>exact True.intro
 | @cons p q ps qs h t ih=>
  obtain ⟨h1,h2⟩:=h
  by_cases e:p.1 = k
  ·have e':q.1 = k:=h1.symm.trans e
   have b:valueAt (q :: qs) k = some q.2:=by simp [valueAt,List.find?_cons,e']
   rw [eZ e,b]; exact h2
  ·have e':¬ q.1 = k:=fun z=>e (h1.trans z)
   have b:valueAt (q :: qs) k = valueAt qs k:=by simp [valueAt,List.find?_cons,e']
   rw [dI e,b]; exact ih
theorem KV.any {aI:List (κ×V)} {vs:List (κ×Value)} (r:KV aI vs) (k : κ):(aI.any fun kv=>decide (kv.1 = k)) = vs.any fun kv=>decide (kv.1 = k):=by
 unfold KV at r
 induction r with
 | nil=>rfl
 | cons h t ih=>rw [List.any_cons,List.any_cons,ih,h.1]
theorem KV.DD {aI:List (κ×V)} {vs:List (κ×Value)} (r:KV aI vs) (k : κ) {y:V} {u:Value} (ry:RelV y u) :
  KV (aI.map fun kv=>if kv.1 = k then (kv.1,y) else kv) (vs.map fun kv=>if kv.1 = k then (kv.1,u) else kv):=by
 unfold KV at r ⊢
 induction r with
 | nil=>exact .nil
 | @cons p q ps qs h t ih=>
  rw [List.map_cons,List.map_cons]
  refine .cons ?_ ih
  obtain ⟨h1,h2⟩:=h
  by_cases e:p.1 = k
  ·rw [if_pos e,if_pos (h1.symm.trans e)]; exact ⟨h1,ry⟩
  ·rw [if_neg e,if_neg (fun z=>e (h1.trans z))]; exact ⟨h1,h2⟩
theorem KV.put {aI:List (κ×V)} {vs:List (κ×Value)} (r:KV aI vs) (k : κ) {y:V} {u:Value} (ry:RelV y u):KV (putK aI k y) (stored vs k u):=by
 unfold putK stored
 rw [r.any k]
 by_cases e:(vs.any fun kv=>decide (kv.1 = k)) = true
 ·rw [if_pos e,if_pos e]; exact r.DD k ry
 ·rw [if_neg e,if_neg e]; exact Paired.snoc r ⟨rfl,ry⟩
theorem KV.length {aI:List (κ×V)} {vs:List (κ×Value)} (r:KV aI vs):aI.length = vs.length:=Paired.length r
end
theorem sF {P:Program} {w:World} {k:Key} {u:Value} (r:RelV (kV k) u):(cE P w).is k u = true:=by
 cases k with
 | inl i=>obtain ⟨t,e⟩:=(show ∃ t,u = Value.int i t from r); subst e; exact sq P w i t
 | inr x=>obtain ⟨t,e⟩:=(show ∃ t,u = Value.str x t from r); subst e; exact sk P w x t
theorem oy {P:Program} {w:World}:∀ {ks:List Key} {us:List Value},Vals (ks.map kV) us→ItemsAre (cE P w) ks us
 | [],_,r=>by rw [List.map_nil] at r; cases r; exact .nil
 | k :: ks,_,r=>by
  rw [List.map_cons] at r
  cases r with
  | cons h t=>exact .cons (sF h) (oy t)
abbrev KT (H:Hp):List (List Key×V)→List (List Key×Addr×Value)→Prop:=Paired fun p q=>p.1 = q.1∧H q.2.1 = some (.tup (p.1.map kV))∧RelV p.2 q.2.2
theorem KT.val {H:Hp} {aI:List (List Key×V)} {xs:List (List Key×Addr×Value)} (r:KT H aI xs) (k:List Key):nH (eE aI k) ((atKey xs k).map (·.2)):=by
 induction r with
 | nil=>exact True.intro
 | @cons p q ps qs h t ih=>
  obtain ⟨h1,_,h2⟩:=h
  by_cases e:p.1 = k
  ·have e':q.1 = k:=h1.symm.trans e
   have b:atKey (q :: qs) k = some q.2:=by simp [atKey,List.find?_cons,e']
   rw [eZ e,b]; exact h2
  ·have e':¬ q.1 = k:=fun z=>e (h1.trans z)
   have b:atKey (q :: qs) k = atKey qs k:=by simp [atKey,List.find?_cons,e']
   rw [dI e,b]; exact ih
theorem KT.DD {H:Hp} {aI:List (List Key×V)} {xs:List (List Key×Addr×Value)} (r:KT H aI xs) (k:List Key) {y:V} {u:Value} (ry:RelV y u) :
  KT H (aI.map fun kv=>if kv.1 = k then (kv.1,y) else kv) (xs.map (putAt k u)):=by
 induction r with
 | nil=>exact .nil
 | @cons p q ps qs h t ih=>
  rw [List.map_cons,List.map_cons]
  refine .cons ?_ ih
  obtain ⟨h1,h2,h3⟩:=h
  unfold putAt
  by_cases e:p.1 = k
  ·rw [if_pos e,if_pos (h1.symm.trans e)]; exact ⟨h1,h2,ry⟩
  ·rw [if_neg e,if_neg (fun z=>e (h1.trans z))]; exact ⟨h1,h2,h3⟩
theorem KT.put {H:Hp} {aI:List (List Key×V)} {xs:List (List Key×Addr×Value)} (r:KT H aI xs) (k:List Key) {b:Addr} {y:V} {u:Value} (hb:H b = some (.tup (k.map kV))) (ry:RelV y u) :
  KT H (putK aI k y) (storedH xs k b u):=by
 have e:(aI.any fun kv=>decide (kv.1 = k)) = (atKey xs k).isSome:=by
  rw [lh,(r.val k).jM,Option.isSome_map]
 unfold putK storedH
 rw [e]
 by_cases q:(atKey xs k).isSome = true
 ·rw [if_pos q,if_pos q]; exact r.DD k ry
 ·rw [if_neg q,if_neg q]; exact Paired.snoc r ⟨rfl,hb,ry⟩
theorem KT.keeps {H H':Hp} {aI:List (List Key×V)} {xs:List (List Key×Addr×Value)} (r:KT H aI xs) (ht:∀ b ys,H b = some (.tup ys)→H' b = some (.tup ys)):KT H' aI xs:=
 Paired.ki r fun _ _ z=>⟨z.1,ht _ _ z.2.1,z.2.2⟩
section
variable {P:Program} {w:World} {H:Hp} {h:Heap} {a:Addr}
theorem CH {u:HO} (ok:iG P w H h) (e:Rd H a u):bP P w H h a u:=e.ok ok
theorem sP {aI:List (Key×V)} (ok:iG P w H h) (e:Rd H a (.dK aI)):aI.length≤sizeLine∧(a == sysModules) = false∧∃ vs,KV aI vs∧h.DictOf (cE P w) a vs:=
 show bP P w H h a (.dK aI) from CH ok e
theorem C6 {aI:List (Key×V)} (ok:iG P w H h) (e:H a = some (.dK aI)):aI.length≤sizeLine∧(a == sysModules) = false∧∃ vs,KV aI vs∧h.DictOf (cE P w) a vs:=sP ok (.inl e)
theorem p8 {ks:List Key} (ok:iG P w H h) (e:H a = some (.tup (ks.map kV))):(tupleKind (cE P w)).is h ks a:=by
 obtain ⟨_,aL,r,o,h1,h2,n,h3⟩:=(show bP P w H h a (.tup (ks.map kV)) from ok a _ e)
 exact ⟨o,aL.toArray,n,h1,h2,h3,by simpa using oy r⟩
theorem vY {aI:List (List Key×V)} (ok:iG P w H h) (e:Rd H a (.dT aI)):aI.length≤sizeLine∧(a == sysModules) = false∧
  ∃ xs,KT H aI xs∧h.DictOfH (tupleKind (cE P w)) a xs:=by
 obtain ⟨z,y,xs,r,o,es,ep,h1,h2,h3,h4,h5⟩:=(show bP P w H h a (.dT aI) from CH ok e)
 refine ⟨z,y,xs,r,o,es,ep,h1,h2,h3,h4,fun x hx=>?_,h5⟩
 have all:∀ {l:List (List Key×V)} {m:List (List Key×Addr×Value)},KT H l m→∀ x∈m,(tupleKind (cE P w)).is h x.1 x.2.1:=by
  intro l m q
  induction q with
  | nil=>intro x hx; exact nomatch hx
  | @cons p q ps qs hq t ih=>
   intro x hx
   rcases List.mem_cons.mp hx with e | hx
   ·subst e
    exact p8 ok (by rw [← hq.1]; exact hq.2.1)
   ·exact ih x hx
 exact all r x hx
theorem Ia {aI:List (List Key×V)} (ok:iG P w H h) (e:H a = some (.dT aI)):aI.length≤sizeLine∧(a == sysModules) = false∧
  ∃ xs,KT H aI xs∧h.DictOfH (tupleKind (cE P w)) a xs:=vY ok (.inl e)
end
def eD (H:Hp) (a:Addr) (y:V) (r:Option V):Prop:=
 (∃ aI k,Rd H a (.dK aI)∧y = kV k∧r = eE aI k)∨∃ aI k b,Rd H a (.dT aI)∧y = .ref b∧H b = some (.tup (k.map kV))∧r = eE aI k
def jV (H:Hp) (a:Addr) (y v:V) (H':Hp):Prop:=
 (∃ aI k,H a = some (.dK aI)∧y = kV k∧aI.length < sizeLine∧H' = upd H a (.dK (putK aI k v)))∨
 ∃ aI k b,H a = some (.dT aI)∧y = .ref b∧H b = some (.tup (k.map kV))∧aI.length < sizeLine∧H' = upd H a (.dT (putK aI k v))
theorem eD.k {H:Hp} {a:Addr} {aI:List (Key×V)} {k:Key} (e:H a = some (.dK aI)):eD H a (kV k) (eE aI k):=.inl ⟨aI,k,.inl e,rfl,rfl⟩
theorem eD.t {H:Hp} {a b:Addr} {aI:List (List Key×V)} {k:List Key} (e:H a = some (.dT aI)) (eb:H b = some (.tup (k.map kV))):eD H a (.ref b) (eE aI k):=.inr ⟨aI,k,b,.inl e,rfl,eb,rfl⟩
theorem jV.k {H:Hp} {a:Addr} {aI:List (Key×V)} {k:Key} {v:V} (e:H a = some (.dK aI)) (hl:aI.length < sizeLine):jV H a (kV k) v (upd H a (.dK (putK aI k v))):=.inl ⟨aI,k,e,rfl,hl,rfl⟩
theorem jV.t {H:Hp} {a b:Addr} {aI:List (List Key×V)} {k:List Key} {v:V} (e:H a = some (.dT aI)) (eb:H b = some (.tup (k.map kV))) (hl:aI.length < sizeLine) :
  jV H a (.ref b) v (upd H a (.dT (putK aI k v))):=.inr ⟨aI,k,b,e,rfl,eb,hl,rfl⟩
section
variable {X:Cx} {pins:List (Addr×Obj)} {σ : St} {H:Hp} {s:Shared} {a:Addr} {y v:V} {u r:Value} {o:Option V} {A:Around} {E:Value→Shared→Prop}
theorem Inv.big (I:Inv X pins σ H s):sysModules < s.heap.objs.size:=by
 have h:mainGlobals < s.heap.objs.size:=(I.mod.glob.keeps I.bk).lt
 exact Nat.lt_trans (by decide) h
theorem xw {Q:Value→Shared→Prop} (hu:A.units + 1 < cLine) (I:Inv X pins σ H s) (g:eD H a y (some v)) (ry:RelV y u) (h:∀ w' s',Inv X pins σ H s'→RelV v w'→Q w' s') :
  wpAny (model X.prog X.w) A (getItem (.ref a) u) Q E s:=by
 rcases g with ⟨aI,k,e,ey,l⟩ | ⟨aI,k,b,e,ey,eb,l⟩
 ·subst ey
  obtain ⟨z,hd,vs,rel,dd⟩:=sP I.bS e
  obtain ⟨w',hw,uZ⟩:=nH.some_of (v:=v) (o:=valueAt vs k) (by rw [l]; exact rel.val k)
  exact wpAny_getItem_of (sF ry) dd.mapOf hw (h w' _ (I.tok _) uZ)
 ·subst ey
  cases (show u = Value.ref b from ry)
  obtain ⟨z,hd,xs,rel,dd⟩:=vY I.bS e
  obtain ⟨w',hw,uZ⟩:=nH.some_of (v:=v) (o:=(atKey xs k).map (·.2)) (by rw [l]; exact rel.val k)
  obtain ⟨p,hp,xj⟩:=Option.map_eq_some_iff.mp hw
  refine wpAny_getItem_heap (tupleKind_room_in1 hu) (p8 I.bS eb) dd hp ?_
  rw [xj]
  exact h w' _ (I.tok _) uZ
theorem B9 {Q:Value→Shared→Prop} (hu:A.units + 1 < cLine) (I:Inv X pins σ H s) (g:eD H a y o) (ry:RelV y u) (h:∀ s',Inv X pins σ H s'→Q (.bool (!o.isSome)) s') :
  wpAny (model X.prog X.w) A (compareOp .NotIn u (.ref a)) Q E s:=by
 rcases g with ⟨aI,k,e,ey,l⟩ | ⟨aI,k,b,e,ey,eb,l⟩
 ·subst ey
  obtain ⟨z,hd,vs,rel,dd⟩:=sP I.bS e
  refine wpAny_notIn_of (sF ry) hd dd.mapOf ?_
  rw [← (rel.val k).jM,← l]
  exact h _ (I.tok _)
 ·subst ey
  cases (show u = Value.ref b from ry)
  obtain ⟨z,hd,xs,rel,dd⟩:=vY I.bS e
  refine wpAny_notIn_heap (tupleKind_room_in1 hu) (p8 I.bS eb) hd dd ?_
  have q:=(rel.val k).jM
  rw [Option.isSome_map] at q
  rw [← q,← l]
  exact h _ (I.tok _)
theorem qy {h':Heap} {t':Nat} {ob:HO} (I:Inv X pins σ H s) (mu:IX (H a)) (hs:Heap.SameBut a s.heap h') (he:∃ q,h'.get? a = some q) (new:bP X.prog X.w (upd H a ob) h' a ob) :
  Inv X pins σ (upd H a ob) { s with heap:=h',toks:=t' }:=
 I.write (x:=a) (e:=a) mu (.inl rfl) (fun b q hb z=>(hs.2 b hb).trans z) he new
theorem zT {P:Program} {w:World} {H':Hp} {h':Heap} {aI:List (Key×V)} {vs:List (Key×Value)} (z:aI.length≤sizeLine) (hd:(a == sysModules) = false) (rel:KV aI vs) (dd:h'.DictOf (cE P w) a vs) :
  bP P w H' h' a (.dK aI):=⟨z,hd,vs,rel,dd⟩
theorem xt {H':Hp} {Q:Unit→Shared→Prop} (hu:A.units + 1 < cLine) (I:Inv X pins σ H s) (g:jV H a y v H') (ry:RelV y u) (rv:RelV v r) (h:∀ s',Inv X pins σ H' s'→Q () s') :
  wpAny (model X.prog X.w) A (setItem (.ref a) u r) Q E s:=by
 rcases g with ⟨aI,k,e,ey,l,eH⟩ | ⟨aI,k,b,e,ey,eb,l,eH⟩
 ·subst ey eH
  obtain ⟨z,hd,vs,rel,dd⟩:=C6 I.bS e
  have hz:vs.length≤sizeLine:=by rw [← rel.length]; exact z
  have hl:(putK aI k v).length≤sizeLine:=by have:=hV aI k v; omega
  refine wpAny_setItem_pairs (hsz:=hz) (sF ry) dd fun h' AE hs=>h _ ?_
  have he:∃ q,h'.get? a = some q:=let ⟨q,_,_,hq,_⟩:=AE; ⟨q,hq⟩
  exact qy I (by rw [e]; exact True.intro) hs he (zT hl hd (rel.put k rv) AE)
 ·subst ey eH
  cases (show u = Value.ref b from ry)
  obtain ⟨z,hd,xs,rel,dd⟩:=Ia I.bS e
  have hz:xs.length≤sizeLine:=by rw [← Paired.length rel]; exact z
  have hl:(putK aI k v).length≤sizeLine:=by have:=hV aI k v; omega
  refine wpAny_setItem_heap (hsz:=hz) (tupleKind_room_in1 hu) (p8 I.bS eb) dd fun h' AE hs=>h _ ?_
  obtain ⟨q,es,ep,hq,h2,h3,h4,_,h5⟩:=AE
  refine qy I (by rw [e]; exact True.intro) hs ⟨q,hq⟩ ⟨hl,hd,_,(rel.put k eb rv).keeps fun c ys ec=>?_,q,es,ep,hq,h2,h3,h4,h5⟩
  rw [ax (GP ec e (fun z=>nomatch z))]
  exact ec
end
section
variable {X:Cx} {pins:List (Addr×Obj)} {σ : St} {H:Hp} {s:Shared} {a:Addr} {aI:List (Key×V)} {k:Key} {u:Value} {A:Around} {E:Value→Shared→Prop}
theorem Ic {Q:Value→Shared→Prop} (I:Inv X pins σ H s) (e:Rd H a (.dK aI)) (h:∀ t s',Inv X pins σ H s'→Q (.int aI.length t) s'):wpAny (model X.prog X.w) A (call (.builtin "len") [.ref a]) Q E s:=by
 obtain ⟨z,hd,vs,rel,dd⟩:=sP I.bS e
 refine call_len_dict hd dd (by rw [← rel.length]; rw [sizeLine_eq] at z; omega) ?_
 rw [← rel.length]
 exact h _ _ (I.tok _)
end
def IV (i:Expr):Prop:=∀ ov iv,subscripted i false ov iv = operate [ov,iv] (getItem ov iv)
theorem AY {prog:Program} {w:World} {A:Around} {E:Value→Shared→Prop} {s:Shared} {env:Env} {value slice:Expr} {pos:Pos} {T id:String} {Q:Value→Shared→Prop}
  (hl:typeLookup (.type T) "__getitem__" = pure (some (.builtin id))) (hs:IV slice)
  (h:wpAny (model prog w) A (eval value env) (fun o s₁=>wpAny (model prog w) A (eval slice env) (fun i s₂=>s₂.TypeIs o T∧wpAny (model prog w) A (getItem o i) Q E s₂) E s₁) E s) :
  wpAny (model prog w) A (eval (.Subscript value slice pos) env) Q E s:=by
 refine Subscript_ (wpAny_mono h (fun o s₁ h₁=>wpAny_mono h₁ (fun i s₂ h₂=>?_) fun _ _ x=>x) fun _ _ x=>x)
 obtain ⟨hT,h₂⟩:=h₂
 unfold subscriptTail
 refine wpAny_bind ?_
 rw [getitemInPython_of_ne hT.not_modules]
 refine wpAny_bind (wpAny_specialOf hT hl ?_)
 have fin:wpAny (model prog w) A (subscripted slice false o i) (fun r s₃=>wpAny (model prog w) A (letTemporaryGo value o r >>= fun _=>pure r) Q E s₃) E s₂:=by
  rw [hs o i]
  exact wpAny_operating (wpAny_mono h₂ (fun r s₃ h₃=>wpAny_bind (wpAny_letTemporaryGo (wpAny_pure h₃))) fun _ _ x=>x)
 first
  | exact wpAny_pure (wpAny_bind fin)
  | exact wpAny_bind (wpAny_pure (wpAny_bind fin))
  | exact wpAny_bind fin
theorem sQ {X:Cx} {pins:List (Addr×Obj)} {σ : St} {H:Hp} {s:Shared} {a:Addr} {y:V} {o:Option V} (I:Inv X pins σ H s) (g:eD H a y o):s.TypeIs (.ref a) "dict":=by
 rcases g with ⟨aI,k,e,_,_⟩ | ⟨aI,k,b,e,_,_,_⟩
 ·obtain ⟨_,_,vs,_,dd⟩:=sP I.bS e
  exact dd.typeIs
 ·obtain ⟨_,_,xs,_,dd⟩:=vY I.bS e
  exact dd.typeIs
def CC (td ty:TE):TE:=fun σ H Q=>td σ H fun x H1=>ty σ H1 fun y H2=>∃ a v,x = .ref a∧eD H2 a y (some v)∧Q v H2
def Tg (ty td:TE):TE:=fun σ H Q=>ty σ H fun y H1=>td σ H1 fun x H2=>∃ a o,x = .ref a∧eD H2 a y o∧Q (.bl o.isSome) H2
def uU (ty td:TE):TE:=fun σ H Q=>ty σ H fun y H1=>td σ H1 fun x H2=>∃ a o,x = .ref a∧eD H2 a y o∧Q (.bl (!o.isSome)) H2
def CG (td ty tv:TE):TS:=fun D σ H=>tv σ H fun v H1=>td σ H1 fun x H2=>ty σ H2 fun y H3=>∃ a H4,x = .ref a∧jV H3 a y v H4∧D.nx σ H4
def QP (td ty tv:TE) (rd:V→V→Hp→VK→Prop):TS:=fun D σ H=>td σ H fun x H1=>ty σ H1 fun y H2=>∃ a v,x = .ref a∧eD H2 a y (some v)∧
 tv σ H2 fun y2 H3=>rd v y2 H3 fun z H4=>∃ H5,jV H4 a y z H5∧D.nx σ H5
def QO (td ty:TE):TS:=fun D σ H=>td σ H fun x H1=>ty σ H1 fun y H2=>∃ a aI k,x = .ref a∧H2 a = some (.dK aI)∧y = kV k∧(eE aI k).isSome = true∧D.nx σ (upd H2 a (.dK (zS aI k)))
section
variable {X:Cx} {o i e value:Expr} {pos pos' KY:Pos} {td ty tv:TE}
theorem jf (hu:X.A.units + 1 < cLine) (ho:PE X o td) (hi:PE X i ty) (hs:IV i):PE X (.Subscript o i pos) (CC td ty):=by
 intro pins s σ H Q I h
 refine AY PySem.F.slot_dict_getitem.lookup hs (dc (ho pins s σ H _ I h) fun u s1 ⟨x,H1,I1,rx,q1⟩=>dc (hi pins s1 σ H1 _ I1 q1) fun iv s2 ⟨y,H2,I2,ry,a,v,ex,g,q2⟩=>?_)
 subst ex
 obtain rfl:u = Value.ref a:=rx
 exact ⟨sQ I2 g,xw hu I2 g ry fun w' s3 I3 uZ=>⟨v,H2,I3,uZ,q2⟩⟩
theorem fT (hu:X.A.units + 1 < cLine) (hi:PE X i ty) (ho:PE X o td):PC X .NotIn i o (uU ty td):=by
 intro pins s σ H Q I h
 refine dc (hi pins s σ H _ I h) fun iv s1 ⟨y,H1,I1,ry,q1⟩=>dc (ho pins s1 σ H1 _ I1 q1) fun u s2 ⟨x,H2,I2,rx,a,ov,ex,g,q2⟩=>?_
 subst ex
 obtain rfl:u = Value.ref a:=rx
 exact B9 hu I2 g ry fun s3 I3=>⟨.bl (!ov.isSome),H2,I3,rfl,q2⟩
theorem jc (hu:X.A.units + 1 < cLine) (ho:PE X o td) (hi:PE X i ty) (hv:PE X value tv) (hs:swapsWith value (some (.Subscript o i pos')) pos.line X.env = pure false) :
  PS X (.Assign [.Subscript o i pos'] value pos) (CG td ty tv):=by
 intro pins s σ H D I h
 refine wpAny_Assign_Subscript (dc (hv pins s σ H _ I h) fun r s1 ⟨v,H1,I1,rv,q1⟩=>dc (ho pins s1 σ H1 _ I1 q1) fun u s2 ⟨x,H2,I2,rx,q2⟩=>dc (hi pins s2 σ H2 _ I2 q2) fun iv s3 ⟨y,H3,I3,ry,a,H4,ex,g,q3⟩=>?_) hs
 subst ex
 obtain rfl:u = Value.ref a:=rx
 exact xt hu I3 g ry rv fun s4 I4=>⟨σ,H4,I4,q3⟩
end
theorem zU {P:Program} {w:World} {H:Hp} (h:Heap) (hb:sysModules < h.objs.size):bP P w H (h.push { cls:=.type "dict",data:=.dict #[] }) h.objs.size (.dK []):=
 ⟨Nat.zero_le _,beq_eq_false_iff_ne.mpr (Ne.symm (Nat.ne_of_lt hb)),[],.nil,Heap.DictOf.new h⟩
theorem zQ {P:Program} {w:World} {H:Hp} (h:Heap) (hb:sysModules < h.objs.size):bP P w H (h.push { cls:=.type "dict",data:=.dict #[] }) h.objs.size (.dT []):=
 ⟨Nat.zero_le _,beq_eq_false_iff_ne.mpr (Ne.symm (Nat.ne_of_lt hb)),[],.nil,_,#[],0,Heap.get?_push_size _ rfl,⟨rfl,rfl,rfl⟩,rfl,rfl,List.nodup_nil⟩
def K5:TE:=fun _ H Q=>∀ p,H p = none→Q (.ref p) (upd H p (.dK []))
def Dq:TE:=fun _ H Q=>∀ p,H p = none→Q (.ref p) (upd H p (.dT []))
section
variable {X:Cx} {pos:Pos}
theorem lI:PE X (.Dict [] [] pos) Dq:=fun pins s σ H Q I h=>
 wpAny_Dict_empty ⟨.ref s.heap.objs.size,_,I.laid (a:=s.heap.objs.size) (o:=.dT []) (t':=s.toks) (fun _ _ q=>Heap.get?_push_of_some _ q) (Nat.le_refl _) (zQ s.heap I.big),rfl,h _ (I.bS.fresh (Nat.le_refl _))⟩
end
def tN:List (TE×TE)→St→Hp→(List (V×V)→Hp→Prop)→Prop
 | [],_,H,Q=>Q [] H
 | (tk,tv) :: r,σ,H,Q=>tk σ H fun x H1=>tv σ H1 fun y H2=>tN r σ H2 fun ps H3=>Q ((x,y) :: ps) H3
abbrev VV:List (V×V)→List (Value×Value)→Prop:=Paired fun p q=>RelV p.1 q.1∧RelV p.2 q.2
def KI (X:Cx) (pos:Pos) (keys:List (Option Expr)) (values:List Expr) (AS:List (TE×TE)):Prop:=
 ∀ (pins:List (Addr×Obj)) (s:Shared) (σ : St) (H:Hp) (Q:List (V×V)→Hp→Prop),Inv X pins σ H s→tN AS σ H Q→
  wpAny (model X.prog X.w) X.A (evalPairs (pairTrees keys values X.env pos)) (fun vs s'=>∃ ps H',Inv X pins σ H' s'∧VV ps vs∧Q ps H') X.xe s
theorem vB {X:Cx} {pos:Pos}:KI X pos [] [] []:=fun pins s σ H Q I h=>pairTrees_nil_walk ⟨[],H,I,.nil,h⟩
theorem rX {X:Cx} {pos:Pos} {k v:Expr} {ks:List (Option Expr)} {vs:List Expr} {tk tv:TE} {AS:List (TE×TE)} (hk:PE X k tk) (hv:PE X v tv) (hr:KI X pos ks vs AS) :
  KI X pos (some k :: ks) (v :: vs) ((tk,tv) :: AS):=fun pins s σ H Q I h=>
 pairTrees_cons_walk (dc (hk pins s σ H _ I h) fun u s1 ⟨x,H1,I1,rx,q1⟩=>dc (hv pins s1 σ H1 _ I1 q1) fun w2 s2 ⟨y,H2,I2,ry,q2⟩=>
  dc (hr pins s2 σ H2 _ I2 q2) fun ws s3 ⟨ps,H3,I3,rel,q3⟩=>⟨(x,y) :: ps,H3,I3,.cons ⟨rx,ry⟩ rel,q3⟩)
def ff (aI more:List (Key×V)):List (Key×V):=more.foldl (fun acc kv=>putK acc kv.1 kv.2) aI
theorem KV.merge:∀ {more:List (Key×V)} {rs:List (Key×Value)} {aI:List (Key×V)} {vs:List (Key×Value)},KV more rs→KV aI vs→KV (ff aI more) (merged vs rs):=by
 intro more rs aI vs r
 unfold KV at r
 induction r generalizing aI vs with
 | nil=>intro q; exact q
 | @cons p q ps qs h t ih=>
  intro r0
  have e:KV (putK aI p.1 p.2) (stored vs q.1 q.2):=by
   have:=r0.put p.1 h.2
   rw [← h.1]; exact this
  exact ih e
theorem iC:∀ (more aI:List (Key×V)),(ff aI more).length≤aI.length + more.length
 | [],aI=>by show aI.length≤aI.length + 0; omega
 | p :: r,aI=>by
  have h1:=iC r (putK aI p.1 p.2)
  have h2:=hV aI p.1 p.2
  show (ff (putK aI p.1 p.2) r).length≤_
  rw [List.length_cons]; omega
theorem mK {P:Program} {w:World}:∀ {aI:List (Key×V)} {ws:List (Value×Value)},VV (aI.map fun kv=>(kV kv.1,kv.2)) ws→∃ rs,Carries (cE P w) ws rs∧KV aI rs
 | [],_,r=>by rw [List.map_nil] at r; cases r; exact ⟨[],True.intro,.nil⟩
 | p :: aI,_,r=>by
  rw [List.map_cons] at r
  cases r with
  | @cons a b as bs h t=>
   obtain ⟨rs,c,q⟩:=mK (P:=P) (w:=w) t
   obtain ⟨b1,b2⟩:=b
   exact ⟨(p.1,b2) :: rs,⟨sF h.1,rfl,c⟩,.cons ⟨rfl,h.2⟩ q⟩
def F6 (AS:List (TE×TE)):TE:=fun σ H Q=>∀ p,H p = none→tN AS σ (upd H p (.dK [])) fun ps H2=>H2 p = some (.dK [])∧∃ aI:List (Key×V),ps = aI.map (fun kv=>(kV kv.1,kv.2))∧aI.length≤15∧Q (.ref p) (upd H2 p (.dK (ff [] aI)))
theorem vH {X:Cx} {pos:Pos} {keys:List (Option Expr)} {values:List Expr} {AS:List (TE×TE)} (h:KI X pos keys values AS) (EJ:keys.all (·.isSome) = true) (hl:keys.length = values.length) (h0:keys≠[])
  (WX:keys.length≤15):PE X (.Dict keys values pos) (F6 AS):=by
 intro pins s σ H Q I q
 have hn:=I.bS.fresh (Nat.le_refl s.heap.objs.size)
 have I1:=I.laid (a:=s.heap.objs.size) (o:=.dK []) (h':=s.heap.push { cls:=.type "dict",data:=.dict #[] }) (t':=s.toks) (fun _ _ q=>Heap.get?_push_of_some _ q) (Nat.le_refl _) (zU s.heap I.big)
 refine wpAny_Dict_walk (knd:=cE X.prog X.w) EJ hl h0 WX (dc (h pins _ σ _ _ I1 (q _ hn)) fun ws s2 ⟨ps,H2,I2,rel,e,aI,ep,lk,q2⟩=>?_)
 subst ep
 obtain ⟨rs,c,rk⟩:=mK (P:=X.prog) (w:=X.w) rel
 obtain ⟨z,hd,YO,r0,dd⟩:=C6 I2.bS e
 cases r0
 refine ⟨rs,c,dd,fun h' AE hs=>⟨.ref s.heap.objs.size,_,?_,rfl,q2⟩⟩
 have hz:(ff [] aI).length≤sizeLine:=by
  have h1:=iC aI []
  rw [List.length_nil] at h1
  rw [sizeLine_eq]; omega
 have he:∃ q,h'.get? s.heap.objs.size = some q:=let ⟨q,_,_,hq,_⟩:=AE; ⟨q,hq⟩
 exact qy I2 (by rw [e]; exact True.intro) hs he (zT hz hd (rk.merge .nil) AE)
structure M1 (X:Cx) (o:Expr) (m:Str) (apos:Pos) (e:Expr) (eV:Pos):Prop where
 base:attributeBase o m X.env (eval o X.env) = eval o X.env
 xS:((backTo eV (starEach [e] X.env)).all (fun x=>!x.1) && (backToKw eV (keywordEach [] X.env)).all (fun x=>x.1.isSome)
  && decide (([e]:List Expr).length + ([]:List Keyword).length + (if ([]:List Keyword).isEmpty then 0 else 1) < 30)) = true
 line:(apos.endLine == eV.line) = true
 trees:backTo eV (starEach [e] X.env) = [(false,eval e X.env)]
structure M2 (X:Cx) (o:Expr) (m:Str) (apos:Pos) (e f:Expr) (eV:Pos):Prop where
 base:attributeBase o m X.env (eval o X.env) = eval o X.env
 xS:((backTo eV (starEach [e,f] X.env)).all (fun x=>!x.1) && (backToKw eV (keywordEach [] X.env)).all (fun x=>x.1.isSome)
  && decide (([e,f]:List Expr).length + ([]:List Keyword).length + (if ([]:List Keyword).isEmpty then 0 else 1) < 30)) = true
 line:(apos.endLine == eV.line) = true
 trees:backTo eV (starEach [e,f] X.env) = [(false,eval e X.env),(false,eval f X.env)]
def KL (H:Hp) (a:Addr):Prop:=(∃ aI,Rd H a (.dK aI))∨∃ aI,Rd H a (.dT aI)
def K7 (td ty:TE):TE:=fun σ H Q=>td σ H fun x H1=>∃ a,x = .ref a∧KL H1 a∧ty σ H1 fun y H2=>∃ o,eD H2 a y o∧Q (o.getD .cV) H2
def K6 (td ty tx:TE):TE:=fun σ H Q=>td σ H fun x H1=>∃ a,x = .ref a∧KL H1 a∧ty σ H1 fun y H2=>tx σ H2 fun z H3=>∃ o,eD H3 a y o∧Q (o.getD z) H3
def K4 (td ty:TE):TE:=fun σ H Q=>td σ H fun x H1=>∃ a,x = .ref a∧KL H1 a∧ty σ H1 fun y H2=>∃ aI k v,H2 a = some (.dK aI)∧y = kV k∧eE aI k = some v∧Q v (upd H2 a (.dK (zS aI k)))
def K3 (td ty tx:TE):TE:=fun σ H Q=>td σ H fun x H1=>∃ a,x = .ref a∧KL H1 a∧ty σ H1 fun y H2=>tx σ H2 fun z H3=>∃ aI k,H3 a = some (.dK aI)∧y = kV k∧
 (∀ v,eE aI k = some v→Q v (upd H3 a (.dK (zS aI k))))∧(eE aI k = none→Q z H3)
end L2
namespace SO
open PySem PySem.W PySem.Calls PyProof.Rows
theorem kj {P:Params} {h:Heap}:∀ (ns:List Int) (vs:List Value),WellAll P h vs (ns.map WData.int)→IntsAre vs ns:=by
 intro ns
 induction ns with
 | nil=>
  intro vs w
  rw [List.map_nil] at w
  cases w
  exact .nil
 | cons n ns ih=>
  intro vs w
  rw [List.map_cons] at w
  cases w with
  | cons a b=>
   cases a
   exact .cons _ _ (ih _ b)
theorem wJ {l:OpenLaw} {n:Nat} (hn:l.most = some n) {P:Params} {h:Heap} {args:List WData} {vals:List Value}
  (BN:l.row.toRowW.claim.pre args = true) (NJ:WellAll P h vals args) :
  ∃ a vs ns,vals = [Value.ref a]∧args = [WData.list (ns.map WData.int)]∧h.get? a = some { cls:=.type "list",data:=.seq vs.toArray }∧IntsAre vs ns∧ns.length≤n:=by
 have G2:WShape.hasAll [] args [.list .int] = true:=(pre_splitW BN).1
 have hc:l.pre.holds [] { args:=args } = true:=(pre_splitW BN).2
 obtain ⟨d,r,rfl,h1,h2⟩:=hasAllW_cons G2
 obtain rfl:=hasAllW_nil h2
 obtain ⟨xs,rfl,h3⟩:=hasW_list h1
 obtain ⟨ns,rfl⟩:=items_int h3
 have hlen:ns.length≤n:=by
  unfold OpenLaw.pre at hc
  have h4:(WTm.not (.lt (.lit (.int (n:Int))) (.len (.arg 0)))).holds [] { args:=[.list (ns.map .int)] } = true:=by
   have h4:=(holds_andW hc).1
   rw [hn] at h4
   exact h4
  have h5:=condW_of h4 (w_not (w_lt w_lit (w_len_list (w_arg rfl))))
  rw [List.length_map] at h5
  refine Nat.le_of_not_lt fun q=>?_
  have q':(n:Int) < ((ns.length:Nat):Int):=by omega
  first
   | (rw [decide_eq_true q'] at h5; exact absurd h5 (by decide))
   | (simp at h5; omega)
 cases NJ with
 | cons w1 w2=>
  cases w2
  cases w1 with
  | list ho EJ=>exact ⟨_,_,ns,rfl,rfl,ho,kj ns _ EJ,hlen⟩
theorem wN (l:OpenLaw) (args:List WData):l.row.toRowW.claim.post args (.bool true) args = true:=
 postW_of (r:=l.row.toRowW) (X:=(true == true))
  (show WShape.has [] (.bool true) .bool = true by first | rfl | decide | simp [WShape.has,WShape.arms,WShape.armsAll])
  (show (WTm.eq .res (.lit (.bool true))).value [] { args:=args,res:=some (.bool true),after:=args } = some (.bool (true == true)) from w_eq_bool (w_res rfl) w_lit) rfl
theorem sW {l:OpenLaw} {n:Nat} {q:Program} {loose:List Str} {XP:(Str→Option Value)→Heap→Prop} {YP:World→Heap→Prop} {d:DefRec}
  (hn:l.most = some n) (Hq:d.params.defaults = [])
  (call:∀ (w:World) (s₀ s₁ : Shared) (mg mb:Str→Option Value) (fa:Addr) (o:Obj) (pm cd doc:Value) (a:Addr) (vs:List Value) (ns:List Int),
   Ground q loose [] XP w s₀ mg mb s₁.heap→YP w s₁.heap→
   s₁.heap.get? fa = some o→o.data = .func (docDef d.name d.params d.body d.scope pm cd doc)→s₁.heap.CodeRec cd d.name→mg d.name = some (.ref fa)→
   s₁.heap.get? a = some { cls:=.type "list",data:=.seq vs.toArray }→IntsAre vs ns→ns.length≤n→s₁.gens = #[]→
   codeAny (model l.prog w) callerA (.call (.ref fa) ⟨[.ref a],[]⟩) (fun r s'=>r = .ok (.ret (.bool true))∧OldK s₁.heap s'.heap∧s'.os = s₁.os∧AllBare s'.gens) s₁) :
  WalkO q loose XP YP l.row.toRowW d [] (fun f vs=>PySem.call f vs):=by
 intro w s₀ s₁ mg mb G Y fa o pm cd doc dV kV ho hd uA hD Hf hg args vals as BN Wz Zv NJ Zx
 obtain rfl:dV = .none:=Dflts.none hD Hq
 obtain rfl:kV = .none:=Dflts.noKw hD
 obtain ⟨a,vs,ns,rfl,rfl,EB,hints,hlen⟩:=wJ hn BN NJ
 refine enter_call (codeAny_mono (call w s₀ s₁ mg mb fa o pm cd doc a vs ns G Y ho (fd_plain hd) uA Hf EB hints hlen hg) fun r s' hq=>?_)
 obtain ⟨rfl,h2,h3,h4⟩:=hq
 exact ⟨.inl ⟨.bool true,.bool true,[],rfl,fun _=>rfl,.bool true,wN l _,fun _=>⟨List.Pairwise.nil,fun _ hm=>(nomatch hm)⟩⟩,h2,h3,h4⟩
section
variable {prog:Program} {w:World} {A:Around} {E:Value→Shared→Prop} {s:Shared} {K:Frag}
def M3 (h:Heap):Heap:={ h with objs:=#[] }
def ledger (h:Heap) (L d:Addr):List (Addr×Obj):=(List.range h.objs.size).filterMap fun a=>if a = L∨a = d then none else (h.get? a).map fun o=>(a,o)
end
end SO
namespace L2
open PySem PySem.Spec PyProof.Rows
theorem jz:∀ {vs:List Value} {ns:List Int},IntsAre vs ns→Vals (ns.map V.int) vs
 | _,_,.nil=>.nil
 | _,_,.cons n t h=>.cons ⟨t,rfl⟩ (jz h)
def E7 (H:Hp):Prop:=∀ b,H b = none∨∃ o xs,H b = some (.tG o (.lst xs))
theorem zr {P:Program} {w:World} {K:PySem.W.Frag} {mg mb:Str→Option Value} {CX:tK} {k:Nat} {fa a:Addr} {fd:FuncData} {x:Str} {sp:Sp} {s₁ : Shared} {vs:List Value} {ns:List Int}
  (KX:K.In s₁.heap) (Av:s₁.heap.Ns mainGlobals mg) (hb:s₁.heap.Ns builtinsNs mb) (WQ:∀ x:Str,x≠ "__name__"→mb x = bootBuiltins x) (N4:s₁.heap.NoLimit) (hg:s₁.gens = #[])
  (ha:s₁.heap.get? a = some { cls:=.type "list",data:=.seq vs.toArray }) (hi:IntsAre vs ns) (hl:ns.length≤sizeLine) (hr:eW k callerA)
  (F:∀ base:Heap,K.In base→base.Ns mainGlobals mg→nK P w K mg base CX k fa fd [x] sp) (Hv:∀ (s:Shared) (u:Value),BindsTo s fd ⟨[u],[]⟩ [(x,u)])
  (tm:∀ H:Hp,E7 H→aD K H a (ns.map V.int)→sp [.ref a] H (fun v _=>v = .bl true) fun _ _ _=>False)
  (Oq:∀ H e s',CX [] H s₁ (fun _ _ _=>False) e s'→False) :
  codeAny (model P w) callerA (.call (.ref fa) ⟨[.ref a],[]⟩) (fun r s'=>r = .ok (.ret (.bool true))∧OldK s₁.heap s'.heap∧s'.os = s₁.os∧AllBare s'.gens) s₁:=by
 have rv:=jz hi
 have Nd:=hi.length
 -- from an abstract heap in Qw nothing but qT yg may be tracked
 have core:∀ H:Hp,E7 H→aD K H a (ns.map V.int)→iG P w H s₁.heap→(∀ b,H b≠none→b = a)→(H a≠none→K.lookup a = none)→
   codeAny (model P w) callerA (.call (.ref fa) ⟨[.ref a],[]⟩) (fun r s'=>r = .ok (.ret (.bool true))∧OldK s₁.heap s'.heap∧s'.os = s₁.os∧AllBare s'.gens) s₁:=by
  intro H hO hS bS hA hK
  have wm:∀ {b:Addr} {o:Obj},s₁.heap.get? b = some o→H b = none→(qg s₁.heap H).get? b = some o:=fun e n=>zD e n
  have GN:∀ {b:Addr} {o:Obj} {es:Array DictEntry} {ep:Nat},s₁.heap.get? b = some o→o.data = .dict es ep→H b = none:=fun {b o es ep} e d=>by
   cases q:H b with
   | none=>rfl
   | some u=>
    have e':b = a:=hA b (by rw [q]; simp)
    subst e'
    rw [ha] at e; cases e
    have d':Data.seq vs.toArray _ = Data.dict es ep:=d
    cases d'
  have JB:∀ {b:Addr} {m:Str→Option Value},s₁.heap.Ns b m→(qg s₁.heap H).Ns b m:=fun {b m} ⟨o,es,ep,e,d,r⟩=>⟨o,es,ep,wm e (GN e d),d,r⟩
  have RT:K.In (qg s₁.heap H):=fun b o e=>wm (KX b o e) (by
   cases q:H b with
   | none=>rfl
   | some u=>
    have e':b = a:=hA b (by rw [q]; simp)
    subst e'
    rw [hK (by rw [q]; simp)] at e; cases e)
  have hM:Mod K mg (qg s₁.heap H):=⟨RT,JB Av,⟨mb,JB hb,WQ⟩,let ⟨mc,h1,h2⟩:=N4; ⟨mc,JB h1,h2⟩⟩
  have e0:Cs P w K mg (qg s₁.heap H) callerA [] s₁ H:=⟨rfl,hM,fun b o e=>Br e,Nat.le_of_eq (xl _ _),trivial,fun b hb=>absurd (show b∈([]:List Addr) from hb) (by simp),bS,.of_eq hg⟩
  refine codeAny_mono ((F _ RT (JB Av)).run callerA [] s₁ H ⟨[.ref a],[]⟩ [.ref a] [.ref a] _ _ hr e0 (Hv s₁ (.ref a)) (.cons rfl .nil) (tm H hO hS)) fun r s' h=>?_
  cases r with
  | error e=>exact (Oq H e s' h).elim
  | ok fl=>
   cases fl with
   | next=>exact False.elim h
   | brk=>exact False.elim h
   | cont=>exact False.elim h
   | ret u=>
    obtain ⟨v,H',os,bare,un,NU,r',q⟩:=h
    have q':v = .bl true:=q
    subst q'
    obtain rfl:u = Value.bool true:=r'
    refine ⟨rfl,OldK.of_keep fun b o e=>?_,os,bare⟩
    cases q:H b with
    | none=>exact un.keep b o e q (by intro z; exact absurd (show b∈([]:List Addr) from z) (by simp)) (by simp)
    | some u=>
     rcases hO b with z | ⟨ob,xs,z⟩
     ·rw [q] at z; cases z
     ·have z2:=un.nC b ob _ z
      obtain ⟨e1,_⟩:=bS b _ z
      obtain ⟨e2,_⟩:=NU b _ z2
      rw [e] at e1; cases e1
      exact e2
 cases hk:K.lookup a with
 | some o=>
  -- qT yg is one of qT module's own objects
  have e:=KX a o hk
  rw [ha] at e
  cases e
  refine core (fun _=>none) (fun _=>.inl rfl) (.inr ⟨_,vs.toArray,_,hk,rfl,rfl,rfl,by rw [List.size_toArray,Nd]; exact hl,by simpa using rv⟩) (fun b u z=>by have z':(none:Option HO) = some u:=z; cases z') (fun b z=>absurd rfl z) fun z=>absurd rfl z
 | none=>
  refine core (fun b=>if b = a then some (.tG { cls:=.type "list",data:=.seq vs.toArray } (.lst (ns.map V.int))) else none) (fun b=>?_) (.inl (.inr ⟨{ cls:=.type "list",data:=.seq vs.toArray },if_pos rfl⟩)) (fun b u z=>?_) (fun b z=>?_) fun _=>hk
  ·by_cases hb:b = a
   ·exact .inr ⟨_,_,if_pos hb⟩
   ·exact .inl (if_neg hb)
  ·by_cases hb:b = a
   ·have z':=(if_pos hb).symm.trans z
    cases z'
    subst hb
    exact ⟨ha,by rw [List.length_map]; exact hl,vs,_,rv,ha⟩
   ·have z':=(if_neg hb).symm.trans z
    cases z'
  ·by_cases hb:b = a
   ·exact hb
   ·exact absurd (if_neg hb) z
end L2
namespace L2
open PySem PySem.Spec PyProof.Rows
abbrev ZP {K:PySem.W.Frag} {h:Heap} (_:K.In h):PySem.W.Frag:=K
theorem AQ {l:PySem.W.OpenLaw} {n k:Nat} {q:Program} {loose:List Str} {XP:(Str→Option Value)→Heap→Prop} {YP:World→Heap→Prop} {d:DefRec} {K:Params→PySem.W.Frag} {CX:World→tK} {sp:World→Sp} {x:Str}
  (hn:l.most = some n) (Ws:n≤sizeLine) (Hq:d.params.defaults = []) (hr:eW k callerA)
  (hY:∀ (w:World) (h:Heap),YP w h→(K w.params).In h)
  (F:∀ (w:World) (mg:Str→Option Value) (fa:Addr) (h:Heap),(K w.params).In h→h.Ns mainGlobals mg→mg d.name = some (.ref fa)→
   ∃ fd:FuncData,(∀ (s:Shared) (u:Value),BindsTo s fd ⟨[u],[]⟩ [(x,u)])∧
    ∀ base:Heap,(K w.params).In base→base.Ns mainGlobals mg→nK l.prog w (K w.params) mg base (CX w) k fa fd [x] (sp w))
  (tm:∀ (w:World) (H:Hp) (a:Addr) (ns:List Int),ns.length≤n→E7 H→aD (K w.params) H a (ns.map V.int)→sp w [.ref a] H (fun v _=>v = .bl true) fun _ _ _=>False)
  (Oq:∀ (w:World) (H:Hp) (s:Shared) (e:Value) (s':Shared),CX w [] H s (fun _ _ _=>False) e s'→False) :
  PySem.W.WalkO q loose XP YP l.row.toRowW d [] (fun f vs=>PySem.call f vs):=by
 refine SO.sW hn Hq fun w s₀ s₁ mg mb fa o pm cd doc a vs ns G Y ho hd uA Hf EB hints hlen hg=>?_
 have KX:=hY w _ Y
 obtain ⟨fd,hb,hF⟩:=F w mg fa _ KX G.T.g Hf
 exact zr KX G.T.g G.T.b G.T.builtins G.T.nolimit hg EB hints (Nat.le_trans hlen Ws) hr hF hb (fun H hO hS=>tm w H a ns hlen hO hS) fun H e s'=>Oq w H s₁ e s'
end L2
namespace L2
open PySem PySem.Spec PyProof.Rows
def inClass (s:Stmt) (j:Nat):Stmt:=match s with
 | .ClassDef _ _ _ body _ _ _ _ _ _ _=>body.getD j (.Pass ⟨0,0,0,0⟩)
 | _=>.Pass ⟨0,0,0,0⟩
def aP (s:Stmt):Arguments:=match s with
 | .FunctionDef _ a _ _ _ _ _ _ _ _=>a
 | _=>{ posonlyargs:=[],args:=[],vararg:=none,kwonlyargs:=[],kw_defaults:=[],kwarg:=none,defaults:=[] }
def aN (s:Stmt):List Stmt:=match s with
 | .FunctionDef _ _ b _ _ _ _ _ _ _=>b
 | _=>[]
def ak (s:Stmt):Scope:=match s with
 | .FunctionDef _ _ _ _ _ _ sc _ _ _=>sc
 | _=>{ kind:=.function,names:=[],isGenerator:=false,isCoroutine:=false }
abbrev ZZ:tK:=fun _ _ _ _ _ _=>False
abbrev E0:XK:=fun _ _ _=>False
structure E9 (K:PySem.W.Frag) (x qual:Str) (st:Stmt) (f:Addr) (fd:FuncData):Prop where
 ex:∃ (oc:Value) (od:Option Addr) (kV doc pm:Value) (an:Option Addr) (dH ct:Value) (Ao:Array (Option Value)),
  fd = PySem.W.fnOf x qual (aP st) (aN st) (ak st) .none kV doc pm an dH ct∧K.lookup f = some ⟨oc,od,.func fd,Ao⟩∧PySem.W.codeIn K dH qual = true
 kp:PySem.W.keepIn K (.ref f) = true
section
variable {P:Program} {w:World} {K:PySem.W.Frag} {mg:Str→Option Value} {base:Heap}
theorem E9.binds {x qual:Str} {st:Stmt} {f:Addr} {fd:FuncData} {ps:List Str} (F:E9 K x qual st f fd)
  (h:∀ (kV doc pm:Value) (an:Option Addr) (dH ct:Value) (us:List Value),us.length = ps.length→bindArgs (PySem.W.fnOf x qual (aP st) (aN st) (ak st) .none kV doc pm an dH ct) ⟨us,[]⟩ = pure (ps.zip us)):Binds K fd ps []:=by
 obtain ⟨oc,od,kV,doc,pm,an,dH,ct,Ao,rfl,lk,uA⟩:=F.ex
 exact .all (h kV doc pm an dH ct)
theorem aH {x qual:Str} {st:Stmt} {f:Addr} {oc:Value} {od an:Option Addr} {Ao:Array (Option Value)} {kV doc pm dH ct:Value} (l:K.lookup f = some ⟨oc,od,.func (PySem.W.fnOf x qual (aP st) (aN st) (ak st) .none kV doc pm an dH ct),Ao⟩)
  (c:PySem.W.codeIn K dH qual = true) (k:PySem.W.keepIn K (.ref f) = true):E9 K x qual st f (PySem.W.fnOf x qual (aP st) (aN st) (ak st) .none kV doc pm an dH ct):=⟨⟨oc,od,kV,doc,pm,an,dH,ct,Ao,rfl,l,c⟩,k⟩
end
theorem fg {A:Around} {k:Nat} (hr:eW k A):A.units + 1 < cLine:=Nat.lt_of_le_of_lt (Nat.add_le_add_left (by decide:1≤64) _) hr.units
section
variable {X:Cx}
theorem pv (i:Nat) {x:Str} {pos:Pos} (hN:X.N[i]? = some x:=by rfl) (hv:KD X.env.scope x:=by first | exact Or.inl rfl | exact Or.inr (Or.inl rfl) | exact Or.inr (Or.inr rfl)) (hd:(x == ("__debug__" : Str)) = false:=by decide)
  (uA:(x == ("__classdict__" : Str)) = false:=by decide):PE X (.Name x pos) (oS i):=DQ hN hv hd uA
theorem xG:fH X (.builtin "len") (fun xs H Q=>∃ a aI,xs = [V.ref a]∧H a = some (.dK aI)∧Q (.int aI.length) H):=by
 intro pins s σ H xs us Q I r h
 obtain ⟨a,aI,rfl,ha,q⟩:=h
 obtain ⟨u,rfl,ru⟩:=vals1 r
 cases ru
 exact Ic I (.inl ha) fun t s' I'=>⟨.int aI.length,H,I',⟨t,rfl⟩,q⟩
end
theorem BG {A B:Prop} (h:B):if false = true then A else B:=by
 rw [if_neg Bool.false_ne_true]
 exact h
theorem BF {A B:Prop} (h:A):if true = true then A else B:=by
 rw [if_pos rfl]
 exact h
def ah (H H':Hp):Prop:=∀ b o,H b = some o→H' b = some o
theorem ah.trans {H H1 H2:Hp} (a:ah H H1) (b:ah H1 H2):ah H H2:=fun c o h=>b c o (a c o h)
theorem ah.free {H H':Hp} (e:ah H H') {l:Addr} (h:H' l = Option.none):H l = Option.none:=by
 cases q:H l with
 | none=>rfl
 | some o=>
  rw [e l o q] at h
  cases h
theorem ah.seq {K:PySem.W.Frag} {H H':Hp} {a:Addr} {xs:List V} (e:ah H H') (h:aD K H a xs):aD K H' a xs:=by
 rcases h with (h | ⟨o,h⟩) | h
 ·exact .inl (.inl (e _ _ h))
 ·exact .inl (.inr ⟨o,e _ _ h⟩)
 ·exact .inr h
end L2

section
namespace L2
open PySem PySem.Spec PyProof.Rows
def Sz (n:Nat) (x:Int):Prop:=x.natAbs < 2 ^ n
theorem Sz.mono {m n:Nat} {x:Int} (h:Sz m x) (Wv:m≤n):Sz n x:=Nat.lt_of_lt_of_le h (Nat.pow_le_pow_right (by decide) Wv)
theorem Sz.GW {m n:Nat} {x y:Int} (hx:Sz m x) (hy:Sz n y) (hm:m + n≤134217728:=by decide):IntMulOk x y:=
 PySem.IntMulOk.of_le (PySem.intBits_le_iff.mpr hx) (PySem.intBits_le_iff.mpr hy) hm
section
variable {X:Cx}
theorem jh:jT X (binaryOp .Mult) (rI IntMulOk fun i j=>.int (i * j)):=Jx fun _ _ _ _ _ _ _ hc q=>mul_int q hc
def Qr (_ j:Int):Prop:=j≠0∧Sz 9000 j
theorem Qr.np {i j:Int} (h:Qr i j):Builtin.divisionGoesByPylong i j = false:=by
 refine PyProof.noPylong_of_log2 ?_
 have h0:j.natAbs≠0:=fun e=>h.1 (Int.natAbs_eq_zero.mp e)
 exact (Nat.log2_lt h0).mpr h.2
def Qq (_ j:Int):Prop:=0 < j∧Sz 9000 j
theorem fJ:jT X (binaryOp .FloorDiv) (rI Qq fun i j=>.int (i / j)):=Jx fun i j _ _ _ _ _ hc q=>by
 have h1:(0:Int) < j:=hc.1
 exact floordiv_int (by omega) (by rw [Int.fdiv_eq_ediv_of_nonneg i (by omega)]; exact q) (.inl (Qr.np ⟨by omega,hc.2⟩))
end
structure du (P:Program) (w:World) (K:PySem.W.Frag) (mg:Str→Option Value) (base:Heap) (CX:tK) (x:Str) (k:Nat) (ps:List Str) (sp:Sp):Prop where
 ex:∃ f fd,nK P w K mg base CX k f fd ps sp∧mg x = some (.ref f)∧PySem.W.keepIn K (.ref f) = true∧Binds K fd ps []
section
variable {X:Cx} {CX:tK} {k j:Nat} {ps:List Str} {sp:Sp} {E:XK} {x:Str} {p pos:Pos} {e:Expr} {es:List Expr} {t:TA}
theorem aC (h:du X.prog X.w X.K X.mg X.base CX x k ps sp) (hr:eW j X.A) (hx:Passes CX X E) (ha:PA X (e :: es) t) (hk:k≤j:=by decide) (hg:Gl X x:=by rfl) (BS:(x == ("__debug__" : Str)) = false:=by decide)
  (he:starEach (e :: es) X.env = (false,eval e X.env) :: starEach es X.env:=by rfl) (tD:(backTo pos (starEach es X.env)).any (·.1) = false:=by rfl) :
  PE X (.Call (.Name x p) (e :: es) [] pos) (yc sp [] E t):=by
 obtain ⟨f,fd,F,hm,CY,hb⟩:=h.ex
 exact Bm F (hr.mono hk) hg hm CY hb .nil hx ha BS he tD
end
inductive Am:V→Value→Prop where
 | ty (n:String):Am (.ty n) (.type n)
 | ref (a:Addr):Am (.ref a) (.ref a)
def QW (K:PySem.W.Frag):List V→Hp→VK→Prop:=fun xs H Q=>∃ x c t u b,xs = [x,c]∧kr K H x t∧Am c u∧PySem.W.kitOne K t u = some b∧Q (.bl b) H
section
variable {X:Cx} {pins:List (Addr×Obj)} {σ : St} {H:Hp} {s:Shared} {h':Heap}
theorem Inv.jB {t':Nat} {ch:List Addr} {a:Addr} {o:HO} (I:Inv X pins σ H s) (k:∀ b u,b∉ch→s.heap.get? b = some u→h'.get? b = some u) (hf:∀ b∈ch,mT X pins H b) (hp:s.heap.objs.size≤a)
  (new:bP X.prog X.w (upd H a o) h' a o):Inv X pins σ (upd H a o) { s with heap:=h',toks:=t' }:=by
 have hn:=I.bS.fresh hp
 have vJ:∀ b u,H b = some u→b∉ch:=fun b u e z=>by rw [(hf b z).1] at e; cases e
 refine I.step (g':=s.gens) (d':=s.drawn) (ch:=ch) (fun b hb=>?_) (fun b o _ _ hc e _=>k b o hc e) (fun b o _ _ hc e _=>⟨o.slots,k b o hc e⟩) (fun b u _ e n=>?_) (fun b o hc e=>⟨o,k b o hc e⟩)
  (fun b xs e=>by rw [ax (aA e hn)]; exact e) (fun b u v e=>by rw [ax (aA e hn)]; exact e) (fun b ps e=>⟨#[],by rw [ax (aA e hn),e]; simp⟩) (fun m hm=>?_) (fun b u e=>?_) I.bare
 ·obtain ⟨f0,f1,f2,f3,f4,f5⟩:=hf b hb
  exact ⟨f3,f1,f4,f5⟩
 ·rw [ax (Nat.ne_of_lt (Nat.lt_of_lt_of_le (Heap.lt_size e) hp))]; exact n
 ·obtain ⟨o,es,ep,ho,r⟩:=hm
  exact ⟨o,es,ep,k _ o (fun z=>(hf _ z).2.1 rfl) ho,r⟩
 ·by_cases hb:b = a
  ·subst hb; rw [ae] at e; cases e; exact new
  ·rw [ax hb] at e
   refine (I.bS b u e).iu (fun c v hc q=>k c v ?_ q) (fun c q=>by rw [ax (aA q hn)]; exact q) fun c xs q=>by rw [ax (aA q hn)]; exact q
   rcases hc with z | z
   ·rw [z]; exact vJ b u e
   ·exact vJ c _ z
theorem Inv.uT {t':Nat} {ch:List Addr} (I:Inv X pins σ H s) (k:∀ b u,b∉ch→s.heap.get? b = some u→h'.get? b = some u) (hf:∀ b∈ch,mT X pins H b):Inv X pins σ H { s with heap:=h',toks:=t' }:=by
 have vJ:∀ b u,H b = some u→b∉ch:=fun b u e z=>by rw [(hf b z).1] at e; cases e
 refine I.step (g':=s.gens) (d':=s.drawn) (ch:=ch) (fun b hb=>?_) (fun b o _ _ hc e _=>k b o hc e) (fun b o _ _ hc e _=>⟨o.slots,k b o hc e⟩) (fun b u _ e n=>n) (fun b o hc e=>⟨o,k b o hc e⟩)
  (fun b xs e=>e) (fun b u v e=>e) (fun b ps e=>⟨#[],by rw [e]; simp⟩) (fun m hm=>?_) (fun b u e=>?_) I.bare
 ·obtain ⟨f0,f1,f2,f3,f4,f5⟩:=hf b hb
  exact ⟨f3,f1,f4,f5⟩
 ·obtain ⟨o,es,ep,ho,r⟩:=hm
  exact ⟨o,es,ep,k _ o (fun z=>(hf _ z).2.1 rfl) ho,r⟩
 ·refine (I.bS b u e).iu (fun c v hc q=>k c v ?_ q) (fun c q=>q) fun c xs q=>q
  rcases hc with z | z
  ·rw [z]; exact vJ b u e
  ·exact vJ c _ z
end
def IZ (K:PySem.W.Frag) (a:Addr):It:=
 ⟨fun i H=>∃ xs x,aD K H a xs∧xs[i]? = some x,
  fun i H x H'=>∃ p y,H p = none∧x = .ref p∧(∀ xs,aD K H a xs→xs[i]? = some y)∧H' = upd H p (.tup [.int i,y]),
  fun i H=>∃ xs,aD K H a xs∧xs.length≤i⟩
theorem wF {P:Program} {w:World} {K:PySem.W.Frag} {elts:List Expr} {kx:Nat} {px:Pos} (a e it:Addr) (gD:e≠it) :
  Turn P w K (.Tuple elts kx px) (IZ K a) [e,it] e (fun i h=>(∃ old,IsEnum h e it (i:Nat) old)∧h.IsListIter it a i) where
 mem:=by simp
 obj:=fun i h st b hb=>by
  obtain ⟨⟨old,he⟩,hit⟩:=st
  rcases List.mem_cons.mp hb with rfl | hb
  ·exact ⟨_,he,fun v z=>by cases z⟩
  ·obtain rfl:b = it:=by simpa using hb
   obtain ⟨o,e1,c,d⟩:=hit
   exact ⟨o,e1,fun v z=>by rw [d] at z; cases z⟩
 keep:=fun i h h' st k=>by
  obtain ⟨⟨old,he⟩,hit⟩:=st
  exact ⟨⟨old,k e (by simp) _ he⟩,hit.at fun o q=>k it (by simp) o q⟩
 item:=by
  intro X hP hw hK hc i pins s σ H E I hf st hg
  subst hP hw hK
  obtain ⟨⟨old,he⟩,hit⟩:=st
  obtain ⟨xs,x,hq,hx⟩:=hg
  obtain ⟨aL,rv,p,hz⟩:=I.list hq
  obtain ⟨u,hu,ru⟩:=rv.get hx
  have Ho:e < s.heap.objs.size:=Heap.lt_size he
  have N8:it < s.heap.objs.size:=by obtain ⟨_,q,_⟩:=id hit; exact Heap.lt_size q
  refine wpAny_pyNext_enum_item he hit p.isList (x:=u) (by simpa using hu) gD fun h' ho N7 hT hsz hk=>⟨_,rfl,?_⟩
  refine wpAny_letOwnedTupleGo_enum ho fun h2 BR xP=>?_
  replace xP:Heap.SameBut e h' h2:=xP
  have hn:H s.heap.objs.size = none:=I.bS.fresh (Nat.le_refl _)
  have kk:∀ b o,b∉[e,it]→s.heap.get? b = some o→h2.get? b = some o:=fun b o hb q=>(xP.2 b fun z=>hb (by simp [z])).trans (hk b o (fun z=>hb (by simp [z])) (fun z=>hb (by simp [z])) q)
  have Om:h2.get? s.heap.objs.size = some { cls:=.type "tuple",data:=.seq #[.int i s.toks,u] }:=(xP.2 _ (Nat.ne_of_gt Ho)).trans hT
  refine ⟨.ref s.heap.objs.size,upd H s.heap.objs.size (.tup [.int i,x]),Inv.jB (s:=s) (h':=h2) (t':=s.toks + 1) I kk hf (Nat.le_refl _) ⟨by simp only [List.length_cons,List.length_nil]; rw [sizeLine_eq]; decide,[.int i s.toks,u],.cons ⟨_,rfl⟩ (.cons ru .nil),⟨_,Om,rfl,_,rfl⟩⟩,rfl,
   ⟨_,x,hn,rfl,fun ys hy=>by rw [I.jq hy hq]; exact hx,rfl⟩,⟨⟨_,BR⟩,N7.at fun o q=>(xP.2 it (Ne.symm gD)).trans q⟩,fun b hb=>?_⟩
  rw [ax ?_]
  ·exact (hf b hb).1
  ·rcases List.mem_cons.mp hb with rfl | hb
   ·exact Nat.ne_of_lt Ho
   ·obtain rfl:b = it:=by simpa using hb
    exact Nat.ne_of_lt N8
 done:=by
  intro X hP hw hK hc i pins s σ H E I hf st hg
  subst hP hw hK
  obtain ⟨⟨old,he⟩,hit⟩:=st
  obtain ⟨xs,hq,hx⟩:=hg
  obtain ⟨aL,rv,p,hz⟩:=I.list hq
  have hl:=rv.length
  exact wpAny_pyNext_enum_end (I.ok.hd hc) he hit p.isList (by simp; omega) fun h' eb=>⟨rfl,Inv.uT (t':=s.toks) (ch:=[e,it]) I (fun b o hb q=>eb b o (fun z=>hb (by simp [z])) q) hf⟩
 self:=fun _ _ _ _ _ st h=>by
  obtain ⟨⟨old,he⟩,hit⟩:=st
  exact wpAny_pyIter_enum he h
def G1 (K:PySem.W.Frag) (ta:TA):TI:=fun σ H R=>ta σ H fun vs H1=>∃ a,vs = [.ref a]∧(∃ xs,aD K H1 a xs)∧R (IZ K a) H1
theorem ig {X:Cx} {l:Expr} {ta:TA} {p pos:Pos} {elts:List Expr} {kx:Nat} {px:Pos} (hm:X.mg "enumerate" = none) (ha:PA X [l] ta) (hg:Gl X "enumerate":=by rfl) (hs:starEach [l] X.env = [(false,eval l X.env)]:=by rfl) :
  PI X (.Tuple elts kx px) (.Call (.Name "enumerate" p) [l] [] pos) (G1 X.K ta):=by
 intro pins s σ H R I h
 refine Call_ (gk I hg hm boot_enumerate (PyProof.Rows.callWith_type1 (dc (ha pos pins s σ H _ I h) fun us s1 ⟨vs,H1,I1,r1,q1⟩=>?_) hs rfl))
 obtain ⟨a,rfl,⟨xs,hq⟩,q⟩:=q1
 obtain ⟨u,rfl,ru⟩:=vals1 r1
 cases ru
 obtain ⟨aL,rv,pl,hz⟩:=I1.list hq
 refine call_enumerate_list pl.isList fun h' he hit hsz hk=>?_
 refine wpAny_pyIter_enum he ?_
 have I2:Inv X pins σ H1 { s1 with heap:=h' }:=I1.kept (t':=s1.toks) fun b o e=>hk b o e
 refine ⟨_,[s1.heap.objs.size + 1,s1.heap.objs.size],_,_,H1,rfl,I2,wF a _ _ (Nat.succ_ne_self _),⟨⟨_,he⟩,hit⟩,fun b hb=>?_,q⟩
 rcases List.mem_cons.mp hb with rfl | hb
 ·exact I1.xq (Nat.le_succ _) (I1.bS.fresh (Nat.le_succ _))
 ·obtain rfl:b = s1.heap.objs.size:=by simpa using hb
  exact I1.xq (Nat.le_refl _) (I1.bS.fresh (Nat.le_refl _))
theorem fW {K:PySem.W.Frag} {a:Addr} {xs:List V} {g:TG} {tb:TS} {D:Ends} {σ : St} {H:Hp} (Pv:Nat→St→Hp→Prop) (h0:Pv 0 σ H) (hl:∀ i σ H,i≤xs.length→Pv i σ H→aD K H a xs)
  (hs:∀ i x p σ H,xs[i]? = some x→Pv i σ H→H p = none→g (.ref p) σ (upd H p (.tup [.int i,x])) fun σ2 H2=>tb { D with nx:=Pv (i + 1),ct:=Pv (i + 1),bk:=D.nx } σ2 H2) (hd:∀ σ H,Pv xs.length σ H→D.nx σ H) :
  ∃ W:Nat→Nat→St→Hp→Prop,(∃ m,W 0 m σ H)∧∀ i m σ H,W i m σ H→
   ((IZ K a).stop i H∧D.nx σ H)∨((IZ K a).go i H∧∃ N:St→Hp→Prop,(∀ σ' H',N σ' H'→∃ m',m' < m∧W (i + 1) m' σ' H')∧∀ x H',(IZ K a).xM i H x H'→g x σ H' fun σ2 H2=>tb { D with nx:=N,ct:=N,bk:=D.nx } σ2 H2):=by
 refine ⟨fun i m σ H=>m = xs.length - i∧i≤xs.length∧Pv i σ H,⟨xs.length,by simp,Nat.zero_le _,h0⟩,?_⟩
 rintro i m σ H ⟨rfl,hi,p⟩
 have q:=hl i σ H hi p
 by_cases eG:i < xs.length
 ·refine .inr ⟨⟨xs,xs[i],q,by simp [eG]⟩,Pv (i + 1),fun σ' H' p'=>⟨xs.length - (i + 1),by omega,rfl,eG,p'⟩,fun x H' y=>?_⟩
  obtain ⟨r,y,hr,rfl,hy,rfl⟩:=y
  exact hs i y r σ H (hy xs q) p hr
 ·have e:i = xs.length:=by omega
  subst e
  exact .inl ⟨⟨xs,q,Nat.le_refl _⟩,hd σ H p⟩
section
variable {σ : St} {H:Hp} {Q:VK} {D:Ends}
theorem r_var {i:Nat} {v:V} (h : σ[i]? = some (some v)) (q:Q v H):oS i σ H Q:=⟨v,h,q⟩
theorem r_c {v:V} (q:Q v H):tC v σ H Q:=q
theorem r_op {r:R2} {ta tb:TE} (h:ta σ H fun x H1=>tb σ H1 fun y H2=>r x y H2 Q):F1 r ta tb σ H Q:=h
theorem ve {g:Int→Int→V} {i j:Int} (q:Q (g i j) H):CJ g (.int i) (.int j) H Q:=⟨i,j,rfl,rfl,q⟩
theorem yy {C:Int→Int→Prop} {g:Int→Int→V} {i j:Int} (c:C i j) (q:Q (g i j) H):rI C g (.int i) (.int j) H Q:=⟨i,j,rfl,rfl,c,q⟩
theorem vm {i j:Int} (q:Q (.bl (decide (i = j))) H):QX (.int i) (.int j) H Q:=⟨rfl,by rw [kR,Bool.beq_eq_decide_eq]; exact q⟩
theorem vh {i j:Int} (q:Q (.bl (!decide (i = j))) H):QV (.int i) (.int j) H Q:=⟨rfl,by rw [kR,Bool.beq_eq_decide_eq]; exact q⟩
theorem r_seq {t u:TS} (h:t { D with nx:=u D } σ H):Dj t u D σ H:=h
theorem ph (h:D.nx σ H):CA D σ H:=h
theorem r_asg {te:TE} {g:TG} (h:te σ H fun x H1=>g x σ H1 D.nx):AW te g D σ H:=h
theorem r_gname {i:Nat} {v:V} {R:St→Hp→Prop} (h:R (σ.set i (some v)) H):vX i v σ H R:=h
theorem vd {te:TE} (h:te σ H D.rt):FZ te D σ H:=h
theorem pz {te:TE} (h:te σ H fun _ H1=>D.nx σ H1):CB te D σ H:=h
theorem vk {c:TT} {t u:TS} (h:c σ H fun b H1=>if b = true then t D σ H1 else u D σ H1):F4 c t u D σ H:=h
theorem pd {t:TE} {R:Bool→Hp→Prop} (h:t σ H fun x H'=>∃ k,x = .bl k∧R k H'):Cy t σ H R:=h
theorem Jq {t:TE} {R:Bool→Hp→Prop} (h:t σ H fun x H'=>∃ k,x = .bl k∧R k H'):tB t σ H R:=h
theorem Bg {k:Bool} {R:Bool→Prop} (h:R k):∃ k',V.bl k = .bl k'∧R k':=⟨k,rfl,h⟩
theorem vg {t:TT} {R:Bool→Hp→Prop} (h:t σ H fun c H1=>R (!c) H1):F2 t σ H R:=h
theorem vt {t u:TT} {R:Bool→Hp→Prop} (h:t σ H fun c H1=>if c = true then u σ H1 R else R false H1):F8 t u σ H R:=h
theorem Bc {t u:TT} {R:Bool→Hp→Prop} (h:t σ H fun c H1=>if c = true then R true H1 else u σ H1 R):QC t u σ H R:=h
theorem pA {ta tb:TE} (h:ta σ H fun x H1=>∃ c,x = .bl c∧if c = true then tb σ H1 Q else Q (.bl false) H1):CD ta tb σ H Q:=h
theorem oh {R:List V→Hp→Prop} (h:R [] H):Dk σ H R:=h
theorem lB {ta:TE} {tr:TA} {R:List V→Hp→Prop} (h:ta σ H fun x H1=>tr σ H1 fun xs H2=>R (x :: xs) H2):nQ ta tr σ H R:=h
theorem lC {sp:Sp} {E:XK} {t:TA} (h:t σ H fun vs H1=>sp (vs ++ []) H1 Q E):yc sp [] E t σ H Q:=h
theorem Be {r:List V→Hp→VK→Prop} {t:TA} (h:t σ H fun vs H1=>r vs H1 Q):La r t σ H Q:=h
theorem vb {t:TA} (h:t σ H fun xs H1=>xs.length≤sizeLine∧∀ p,H1 p = none→Q (.ref p) (upd H1 p (.tup xs))):FY t σ H Q:=h
theorem vi {t:TA} (h:t σ H fun xs H1=>xs.length≤sizeLine∧∀ p,H1 p = none→Q (.ref p) (upd H1 p (.lst xs))):Dm t σ H Q:=h
theorem vf {i j:Nat} {ta:TA} (h:ta σ H fun vs H1=>∃ v w,vs = [v,w]∧D.nx ((σ.set i (some v)).set j (some w)) H1):F0 i j ta D σ H:=h
theorem dh {wi:TI} {g:TG} {tb:TS} (h:wi σ H fun J H1=>∃ W:Nat→Nat→St→Hp→Prop,(∃ m,W 0 m σ H1)∧∀ i m σ H,W i m σ H→
 (J.stop i H∧D.nx σ H)∨(J.go i H∧∃ N:St→Hp→Prop,(∀ σ' H',N σ' H'→∃ m',m' < m∧W (i + 1) m' σ' H')∧∀ x H',J.xM i H x H'→g x σ H' fun σ2 H2=>tb { D with nx:=N,ct:=N,bk:=D.nx } σ2 H2)):F5 wi g tb D σ H:=h
theorem JM {A B:Prop} (h:A):if true = true then A else B:=BF h
theorem JN {A B:Prop} (h:B):if false = true then A else B:=BG h
theorem if2 {c A B:Prop} [Decidable c] (h1:c→A) (h2:¬ c→B):if decide c = true then A else B:=by
 by_cases h:c
 ·rw [decide_eq_true h]; exact BF (h1 h)
 ·rw [decide_eq_false h]; exact BG (h2 h)
theorem gB {c A B:Prop} [Decidable c] (h1:¬ c→A) (h2:c→B):if (!decide c) = true then A else B:=by
 by_cases h:c
 ·rw [decide_eq_true h]; exact BG (h2 h)
 ·rw [decide_eq_false h]; exact BF (h1 h)
end
end L2
end
section
namespace L2
open PySem PySem.Spec PyProof.Rows
theorem aK:bootBuiltins "len" = some (.builtin "len"):=by decide +kernel
structure Def (K:PySem.W.Frag) (mg:Str→Option Value) (x:Str) (st:Stmt) (ps:List Str):Prop where
 ex:∃ f fd,E9 K x x st f fd∧mg x = some (.ref f)∧Binds K fd ps []
theorem ah.upd {H:Hp} {p:Addr} {o:HO} (h:H p = none):ah H (upd H p o):=fun b u e=>by rw [ax (aA e h)]; exact e
section
variable {σ : St} {H:Hp} {Q:VK} {K:PySem.W.Frag}
theorem vj {p:Addr} {xs:List V} {i:Int} {v:V} (h:SqT K H p xs) (hi:kU xs i = some v) (q:Q v H):DH K (.ref p) (.int i) H Q:=⟨p,xs,i,v,rfl,rfl,h,hi,q⟩
theorem bj {p:Addr} {xs:List V} {i:Int} {v:V} (h:aD K H p xs) (hi:kU xs i = some v) (q:Q v H):Bi K (.ref p) (.int i) H Q:=⟨p,xs,i,v,rfl,rfl,h,hi,q⟩
theorem dQ {n:Nat} {t:AH} {a:Addr} {xs:List V} {R:St→Hp→Prop} (h:SqT K H a xs) (hl:xs.length = n) (q:t xs σ H R):EL K n t (.ref a) σ H R:=⟨a,xs,rfl,h,hl,q⟩
theorem kJ {t:TG} {u:AH} {v:V} {vs:List V} {R:St→Hp→Prop} (q:t v σ H fun σ' H'=>u vs σ' H' R):C3 t u (v :: vs) σ H R:=⟨v,vs,rfl,q⟩
theorem pj {R:St→Hp→Prop} (q:R σ H):HF [] σ H R:=⟨rfl,q⟩
end
end L2
namespace Fr
structure ZO (a b t u:Int):Prop where
 pos:0 < u
 co:Int.gcd t u = 1
 eq:t * b = a * u
 ta:t.natAbs≤a.natAbs
 ub:u.natAbs≤b.natAbs
end Fr
namespace L2
open PySem PySem.Spec PyProof.Rows
theorem ku {c:TT} {tb:TS} {D:Ends} {σ : St} {H:Hp} (Pv:St→Hp→Prop) (μ : St→Hp→Nat) (h0:Pv σ H)
  (hs:∀ σ H,Pv σ H→c σ H fun b H1=>if b = true then ∃ N:St→Hp→Prop,(∀ σ' H',N σ' H'→∃ m',m' < μ σ H∧(m' = μ σ' H'∧Pv σ' H'))∧tb { D with nx:=N,ct:=N,bk:=D.nx } σ H1 else D.nx σ H1):x8 c tb D σ H:=
 ⟨fun m σ H=>m = μ σ H∧Pv σ H,⟨_,rfl,h0⟩,by rintro m σ H ⟨rfl,p⟩; exact hs σ H p⟩
theorem w_turn {tb:TS} {r:VK} {bk:St→Hp→Prop} {σ : St} {H:Hp} {Pv:St→Hp→Prop} {μ : St→Hp→Nat} {m:Nat} (h:tb { nx:=fun σ' H'=>Pv σ' H'∧μ σ' H' < m,rt:=r,bk:=bk,ct:=fun σ' H'=>Pv σ' H'∧μ σ' H' < m } σ H) :
  ∃ N:St→Hp→Prop,(∀ σ' H',N σ' H'→∃ m',m' < m∧(m' = μ σ' H'∧Pv σ' H'))∧tb { nx:=N,rt:=r,bk:=bk,ct:=N } σ H:=⟨_,fun _ _ p=>⟨_,p.2,rfl,p.1⟩,h⟩
theorem BI {A B:Prop} (h:B):if (!true) = true then A else B:=BG h
theorem BJ {A B:Prop} (h:A):if (!false) = true then A else B:=BF h
theorem A3:2≤sizeLine:=by rw [sizeLine_eq]; decide
theorem Fj:3≤sizeLine:=by rw [sizeLine_eq]; decide
end L2
namespace L2
open PySem PySem.Spec PyProof.Rows
theorem dO {CX:tK} {P:Program} {w:World} {K:PySem.W.Frag} {mg:Str→Option Value} {base:Heap} {N:List Str} {q:Str} {sc:Scope} {f:Addr} {cd:Value} {A:Around} {o:List Env} {s:Shared} {H:Hp} {E:XK}:(ko CX P w K mg base N q sc f cd A o s H E).K = K:=rfl
end L2
namespace L2
open PySem PySem.Spec PyProof.Rows
end L2
namespace L2
open PySem PySem.Spec PyProof.Rows
theorem mulL {a b:Int} (h1 : -(2 ^ 64) < a) (h2:a < 2 ^ 64):IntMulOk a b:=.of_left (intBits_le_64 h1 h2)
theorem Sz.TY {n:Nat} {x:Int} (h1 : -(2 ^ 64) < x) (h2:x < 2 ^ 64) (hn:64≤n):Sz n x:=Sz.mono (m:=64) (by unfold Sz; omega) hn
theorem kS {i j:Int} (h1:0 < j) (h2:j < 2 ^ 64):Qq i j:=⟨h1,Sz.TY (by omega) h2 (by decide)⟩
section
variable {X:Cx} {a b:Expr} {i j v:Int} {op:Operator} {pos:Pos} {C:Int→Int→Prop} {g:Int→Int→V}
theorem pF (ho:jT X (binaryOp op) (rI C g)) (ha:PE X a (tC (.int i))) (hb:PE X b (tC (.int j))) (c:C i j) (e:g i j = .int v):PE X (.BinOp a op b pos) (tC (.int v)):=
 fun pins s σ H Q I h=>aU ho ha hb pins s σ H Q I ⟨i,j,rfl,rfl,c,by rw [e]; exact h⟩
end
end L2
namespace L2
open PySem PySem.Spec PyProof.Rows
end L2
end
section
namespace L2
open PySem PySem.Spec PySem.W PySem.Calls PyProof.Rows Builtin Builtin.ObjectAttr Builtin.Getset_descriptor
def ExcAt (C:Addr) (a:Addr) (h:Heap):Prop:=∃ ob,h.get? a = some ob∧ob.cls = .ref C∧PySem.W.notCls ob = true
def HQ (C a:Addr):HO:=.ext (ExcAt C a)
structure Ja (K:Frag) (D:Addr):Prop where
 ZA:findIn K (.ref D) "__getattribute__" = some (some (.builtin "BaseException.__getattribute__"))
 Zz:findIn K (.ref D) "__getattr__" = some none
 Zw:mroIn K D (.type "BaseException") = some true
 cl:(clsIn K D).isSome = true
 ha:findIn K (.ref D) "__class__" = some (some (.builtin "object.__class__"))
 hn:specialIn K (.builtin "object.__class__") "__get__" = some (some (.builtin "getset_descriptor.__get__"))
 We:takesIn K (.builtin "object.__class__") = some true
 hm:mroIn K D (.type "object") = some true
end L2
end
section
namespace L2
open PySem PySem.Spec PySem.W PySem.Calls PyProof.Rows
theorem bP.there {P:Program} {w:World} {H:Hp} {h:Heap} {a:Addr} {o:HO} (x:bP P w H h a o):∃ ob,h.get? a = some ob:=by
 induction o with
 | lst xs=>obtain ⟨_,_,_,_,e⟩:=x; exact ⟨_,e⟩
 | tup xs=>obtain ⟨_,_,_,ob,e,_⟩:=x; exact ⟨ob,e⟩
 | dK aI=>obtain ⟨_,_,_,_,o,_,_,e,_⟩:=x; exact ⟨o,e⟩
 | dT aI=>obtain ⟨_,_,_,_,o,_,_,e,_⟩:=x; exact ⟨o,e⟩
 | set S n=>obtain ⟨ob,_,_,_,e,_⟩:=x; exact ⟨ob,e⟩
 | ins C dx fs=>obtain ⟨_,_,_,e,_⟩:=x; exact ⟨_,e⟩
 | own y=>exact x
 | xd fs=>obtain ⟨_,⟨od,_,_,e,_⟩,_⟩:=x; exact ⟨od,e⟩
 | Jp lo hi=>obtain ⟨_,_,_,e⟩:=x; exact ⟨_,e⟩
 | tG ob u ih=>obtain ⟨e,_⟩:=x; exact ⟨ob,e⟩
 | Cv ps=>exact ⟨_,x⟩
 | met f y=>exact ⟨_,x⟩
 | ext φ=>obtain ⟨_,e,_⟩:=x; exact e
def Al (B:Heap) (fr:List Addr) (h:Heap):Prop:=∀ b o,h.get? b = some o→b∉fr→∃ o',B.get? b = some o'
section
variable {X:Cx} {pins:List (Addr×Obj)} {σ : St} {H:Hp} {s:Shared} {B h':Heap}
theorem Inv.HP {t':Nat} (I:Inv X pins σ H s) (hex:X.ex = []) (b1:B.StaysIn s.heap) (b2:B.StaysIn h') (c0:Al B (iN X.stack) X.s₀.heap) (ct:∀ b o,H b = some o→∃ ob,B.get? b = some ob)
  (cp:∀ p∈X.pn ++ pins,∃ ob,B.get? p.1 = some ob) (up:s.heap.UpToSlots h'):Inv X pins σ H { s with heap:=h',toks:=t' }:=by
 have Fv:∀ {b o ob},s.heap.get? b = some o→B.get? b = some ob→h'.get? b = some o:=fun {b o ob} e q=>by
  have:=b1 b ob q
  rw [e] at this; cases this
  exact b2 b _ q
 have nL:∀ b o,X.s₀.heap.get? b = some o→b∉X.fs→b∉iN X.stack:=fun b o e hb z=>by
  rcases List.mem_cons.mp (I.jC b z) with q | q
  ·exact absurd (Nat.lt_of_lt_of_le (Heap.lt_size e) I.ok.above) (by rw [q]; exact Nat.lt_irrefl _)
  ·exact hb q
 have Rc:∀ b:Addr,b∉X.ex:=fun b z=>by rw [hex] at z; cases z
 have fr:∀ b∈X.fs,∃ o,s.heap.get? b = some o∧∀ vs,o.data≠.fields vs:=fun b hb=>(I.km.mem hb).2
 have cellK:∀ {c v},s.heap.IsCell c v→h'.IsCell c v:=fun {c v} ⟨o,ho,hd⟩=>by
  obtain ⟨sl,e⟩:=up c o ho fun vs z=>by rw [hd] at z; cases z
  exact ⟨_,e,hd⟩
 refine ⟨I.ok,I.os,I.bare,⟨fun b o e n hb _=>?_,fun b o e n hb _=>?_,I.base.free,fun b o e _=>?_,I.base.oQ,I.base.nC,I.base.oR⟩,?_,fun x c e=>?_,I.free,I.hX,fun p hp=>?_,fun b u e=>?_,I.len⟩
 ·obtain ⟨ob,q⟩:=c0 b o e (nL b o e hb)
  exact Fv (I.base.keep b o e n hb (Rc b)) q
 ·obtain ⟨sl,q⟩:=I.base.slot b o e n hb (Rc b)
  obtain ⟨o2,q2,nf⟩:=fr b hb
  obtain ⟨A3,q3⟩:=up b o2 q2 nf
  rw [q] at q2; cases q2
  exact ⟨A3,q3⟩
 ·by_cases hb:b∈X.fs
  ·obtain ⟨o2,q2,nf⟩:=fr b hb
   obtain ⟨A3,q3⟩:=up b o2 q2 nf
   exact ⟨_,q3⟩
  ·obtain ⟨ob,q⟩:=c0 b o e (nL b o e hb)
   exact ⟨ob,b2 b ob q⟩
 ·obtain ⟨m,hn,hl⟩:=I.loc
  refine ⟨m,up.ns hn,fun i x v e1 e2 e3=>?_⟩
  obtain ⟨u,r,l⟩:=hl i x v e1 e2 e3
  refine ⟨u,r,?_⟩
  rcases l with l | ⟨k,c,e,z⟩
  ·exact .inl l
  ·exact .inr ⟨k,c,e,cellK z⟩
 ·obtain ⟨v,z⟩:=I.cell x c e
  exact ⟨v,cellK z⟩
 ·obtain ⟨e,n,ne,nf,d⟩:=I.pin p hp
  obtain ⟨ob,q⟩:=cp p hp
  exact ⟨Fv e q,n,ne,nf,d⟩
 ·refine (I.bS b u e).iu (fun c v hc q=>?_) (fun _ q=>q) fun _ _ q=>q
  rcases hc with z | z
  ·subst z
   obtain ⟨ob,q2⟩:=ct c u e
   exact Fv q q2
  ·obtain ⟨ob,q2⟩:=ct c _ z
   exact Fv q q2
end
structure I9 (P:Program) (w:World) (outer:List Env) (H:Hp) (s:Shared) (a:Addr) (cls:Value) (H':Hp) (s':Shared):Prop where
 os:s'.os = s.os
 bare:AllBare s'.gens
 un:Un (iN outer) [] H H' s.heap s'.heap
 bS:iG P w H' s'.heap
 OF:∃ B a0,Heap.FlyingW B outer a cls a0 s'.heap∧Al B (iN outer) s.heap∧∀ b o,H' b = some o→∃ ob,B.get? b = some ob
 new:H' a = none
 fresh:s.heap.get? a = none
def cM (P:Program) (w:World):tK:=fun outer H s E e s'=>∃ a cls H',e = .ref a∧I9 P w outer H s a cls H' s'∧E cls none H'
section
variable {X:Cx} {pins:List (Addr×Obj)} {σ : St} {H:Hp} {s:Shared}
structure Body (X:Cx):Prop where
 ex:X.ex = []
 pn:X.pn = []
 AZ:X.stack = X.env :: X.outer
 fr:X.env.frame = some X.env.locals
theorem Cb {CX:tK} {P:Program} {w:World} {K:Frag} {mg:Str→Option Value} {base:Heap} {N:List Str} {qual:Str} {scope:Scope} {f:Addr} {cd:Value} {A:Around} {outer:List Env} {s:Shared} {H:Hp} {E:XK} :
  Body (ko CX P w K mg base N qual scope f cd A outer s H E):=⟨rfl,rfl,rfl,rfl⟩
theorem Inv.none_of (I:Inv X pins σ H s) {a:Addr} (e:s.heap.get? a = none):H a = none:=by
 cases q:H a with
 | none=>rfl
 | some o=>
  obtain ⟨ob,z⟩:=(I.bS a o q).there
  rw [e] at z; cases z
theorem Inv.EN (I:Inv X pins σ H s) (hex:X.ex = []) {a:Addr} (e:s.heap.get? a = none):X.s₀.heap.get? a = none:=by
 cases q:X.s₀.heap.get? a with
 | none=>rfl
 | some o=>
  obtain ⟨o',z⟩:=I.base.there a o q (by rw [hex]; simp)
  rw [e] at z; cases z
theorem uo {E:XK} {E':Value→Shared→Prop} {h':Heap} {e:Addr} {cls:Value} {vs:List Value} (I:Inv X pins σ H s) (hb:Body X) (hx:Heap.MadeExcOf s.heap h' e cls vs) (q:E cls none H) :
  wpAny (model X.prog X.w) X.A (leaving X.env (.ref e)) (fun _ Ge=>cM X.prog X.w X.outer X.H₀ X.s₀ E (.ref e) Ge) E' { s with heap:=h' }:=by
 have Fz:∀ env∈X.stack,∀ b,env.frame = some b→b∈X.stack.filterMap (·.frame):=fun env he b hb=>List.mem_filterMap.mpr ⟨env,he,hb⟩
 have RG:(hideAll s.heap (iN X.stack)).StaysIn s.heap:=fun b o q=>of_hideAll _ q
 have FA:X.A.frames = some (X.env :: X.outer):=by rw [← hb.AZ]; exact I.ok.frames
 have hl:s.heap.FunFrames (hideAll s.heap (iN X.stack)) (X.env :: X.outer):=by rw [← hb.AZ]; exact funFrames_hide I.stack Fz
 have cv:∀ {b o},s.heap.get? b = some o→b∉iN X.stack→(hideAll s.heap (iN X.stack)).get? b = some o:=fun e n=>hideAll_get _ e n
 have sub:∀ b∈iN X.outer,b∈iN X.stack:=fun b z=>by rw [hb.AZ]; unfold iN; rw [List.filterMap_cons,hb.fr]; exact List.mem_cons_of_mem _ z
 refine wpAny_leaves_madeW (base:=hideAll s.heap (iN X.stack)) (s:={ s with heap:=h' }) FA hb.fr RG hl hx fun h2 t OF tup bt up=>?_
 have SX:s.heap.UpToSlots h2:=(Heap.UpToSlots.of_keeps hx.keeps).trans up
 have c0:Al (hideAll s.heap (iN X.stack)) (iN X.stack) X.s₀.heap:=fun b o e n=>by
  obtain ⟨o',z⟩:=I.base.there b o e (by rw [hb.ex]; simp)
  exact ⟨o',cv z n⟩
 have ct:∀ b o,H b = some o→∃ ob,(hideAll s.heap (iN X.stack)).get? b = some ob:=fun b o e=>by
  obtain ⟨ob,z⟩:=(I.bS b o e).there
  exact ⟨ob,cv z fun m=>by rw [I.oU b m] at e; cases e⟩
 have J:Inv X [] σ H { s with heap:=h2,toks:=s.toks }:=Inv.HP (I.pB fun p hp=>by cases hp) hb.ex RG OF.1 c0 ct (fun p hp=>by rw [hb.pn] at hp; cases hp) SX
 refine ⟨e,cls,H,rfl,⟨J.os,J.bare,?_,J.bS,⟨_,_,OF,?_,ct⟩,I.none_of hx.new,I.EN hb.ex hx.new⟩,q⟩
 ·have:=J.base
  rw [hb.ex] at this
  exact this
 ·intro b o e' n
  refine c0 b o e' fun m=>?_
  rw [hb.AZ] at m
  unfold iN at m
  rw [List.filterMap_cons,hb.fr] at m
  rcases List.mem_cons.mp m with z | z
  ·exact absurd (Nat.lt_of_lt_of_le (Heap.lt_size e') I.ok.above) (by rw [z]; exact Nat.lt_irrefl _)
  ·exact n z
end
theorem bg {P:Program} {w:World} {X:Cx}:Passes (cM P w) X E0:=by
 rintro pins σ H1 s1 e s' I ⟨a,cls,H',rfl,F,q⟩
 exact q.elim
end L2
end
section
namespace L2
open PySem PySem.Spec PySem.W PySem.Calls PyProof.Rows
theorem B5 {K:Frag} {h:Heap} {C:Addr} {IJ:List Value} {newId:String} (X:K.In h) (q:excIn K C IJ newId = true) :
  ∃ bm N nm qn bs hdct sn sub ab col dd k0 k1 k2 k3 k5 mN,h.get? C = some (excClassObj nm qn C N bs bm hdct sn sub ab col dd k0 k1 k2 k3 k5 newId)∧h.Ns N mN∧mN "__init__" = none∧OwnTail h IJ bm:=by
 unfold excIn at q
 split at q
 ·rename_i dd cd sl ho
  split at q
  ·rename_i C' bm k0 k1 k2 k3 n k5 hm hs
   simp only [Bool.and_eq_true,beq_iff_eq,Bool.not_eq_true'] at q
   obtain ⟨⟨⟨⟨⟨q1,q2⟩,Hr⟩,ht⟩,bS⟩,JQ⟩:=q
   subst q1 q2
   obtain ⟨nm,bs,mro,ns,qn,hd,sn,sub,ab,col,del⟩:=cd
   dsimp only at hm Hr bS JQ
   subst hm Hr
   obtain ⟨l⟩:=sl
   have hl:l = [k0,k1,k2,k3,some (.builtin n),k5]:=hs
   subst hl
   exact ⟨bm,ns,nm,qn,bs,hd,sn,sub,ab,col,dd,k0,k1,k2,k3,k5,_,X _ _ ho,.of_isNs (isNs_of_in X bS),nsMap_none_of_in X bS JQ,tail_of_in X ht⟩
  ·cases q
 ·cases q
def x9 (Ex:XK) (C:Addr) (ta:TA):TS:=fun _ σ H=>ta σ H fun vs H1=>vs.length≤sizeLine∧Ex (.ref C) none H1
theorem rV {X:Cx} {x:Str} {C:Addr} {Bn newId Eo:String} {IJ:List Value} {np eV pos:Pos} {e:Expr} {es:List Expr} {ta:TA} {Ex:XK} (FB:ExcBaseFacts Bn newId Eo IJ) (hq:excIn X.K C IJ newId = true) (hm:X.mg x = some (.ref C))
  (hc:X.calm = true) (ha:PA X (e :: es) ta)
  (hx:∀ pins s σ H h' a vs,Inv X pins σ H s→Heap.MadeExcOf s.heap h' a (.ref C) vs→Ex (.ref C) none H→X.xe (.ref a) { s with heap:=h' }) (hg:Gl X x:=by rfl) (BS:(x == ("__debug__" : Str)) = false:=by decide)
  (he:starEach (e :: es) X.env = (false,eval e X.env) :: starEach es X.env:=by rfl) (tD:(backTo eV (starEach es X.env)).any (·.1) = false:=by rfl) :
  PS X (.Raise (some (.Call (.Name x np) (e :: es) [] eV)) none pos) (x9 Ex C ta):=by
 intro pins s σ H D I h
 obtain ⟨tl,N,nm,q,bs,hdct,sn,sub,ab,col,dd,k0,k1,k2,k3,k5,mN,hC,hN,JQ,T⟩:=B5 I.ok.mod.JK hq
 refine wpAny_Raise_call_subT (C:=C) (nm:=nm) (q:=q) (N:=N) (bs:=bs) (bm:=tl) (hdct:=hdct) (sn:=sn) (sub:=sub) (ab:=ab) (col:=col) (dd:=dd) (k0:=k0) (k1:=k1) (k2:=k2) (k3:=k3) (k5:=k5)
  FB (mN:=mN) (T.hasType FB.hasBase) (I.ok.hd hc) (by rw [he]; show (false || (backTo eV (starEach es X.env)).any (·.1)) = false; rw [tD]; rfl) JQ (vN I hg hm ⟨rfl,?_⟩ BS)
 have h2:=ha eV pins s σ H _ I h
 rw [he] at h2 ⊢
 refine Calls.evalArgs_plain (wpAny_mono h2 (fun us s2 z=>?_) fun _ _ y=>y)
 obtain ⟨vs,H1,I1,r1,hl,qx⟩:=z
 exact ⟨rfl,by rw [← r1.length]; exact hl,I1.bk _ _ hC,hN.keeps I1.bk,T.keeps I1.bk,fun h' a mk=>hx pins s2 σ H1 h' a us I1 mk qx⟩
theorem yw {P:Program} {w:World} {K:Frag} {mg:Str→Option Value} {base:Heap} {N:List Str} {qual:Str} {scope:Scope} {f:Addr} {cd:Value} {A:Around} {outer:List Env} {s0:Shared} {H0:Hp} {E:XK} {C:Addr} :
  ∀ pins s σ H h' a vs,Inv (ko (cM P w) P w K mg base N qual scope f cd A outer s0 H0 E) pins σ H s→Heap.MadeExcOf s.heap h' a (.ref C) vs→E (.ref C) none H→
   (ko (cM P w) P w K mg base N qual scope f cd A outer s0 H0 E).xe (.ref a) { s with heap:=h' }:=fun pins s σ H h' a vs I mk q=>uo I Cb mk q
section
variable {X:Cx} {pins:List (Addr×Obj)} {σ : St} {H:Hp} {s:Shared}
def Cx.marked (X:Cx) (a:Addr):Cx:={ X with A:=X.A.mark (some (.ref a)),calm:=false,xe:=fun _ _=>False }
end
def EX (X:Cx) (pins:List (Addr×Obj)) (σ : St) (Ex:XK) (e:Value) (s':Shared):Prop:=
 ∃ a cls H' s0 H0,e = .ref a∧Inv X pins σ H0 s0∧I9 X.prog X.w X.stack H0 s0 a cls H' s'∧Ex cls none H'
def WW (K:Frag) (M:Addr) (jn:Nat) (ts:TS) (D:Ends) (σ : St):XK:=fun cls _ H'=>∃ C,cls = .ref C∧exmOne K (.ref C) (.ref M) = some true∧
 ∀ a,H' a = none→ts { nx:=fun σ' H2=>D.nx (σ'.set jn none) H2,rt:=D.rt,bk:=fun σ' H2=>D.bk (σ'.set jn none) H2,ct:=fun σ' H2=>D.ct (σ'.set jn none) H2 } (σ.set jn (some (.ref a))) (upd H' a (HQ C a))
def K2 (K:Frag) (sp:Sp) (ta:TA) (M:Addr) (jn:Nat) (ts:TS):TS:=fun D σ H=>ta σ H fun vs H1=>sp (vs ++ []) H1 (fun _ H2=>D.nx σ H2) (WW K M jn ts D σ)
end L2
end
section
namespace L2
open PySem PySem.Spec PySem.W PySem.Calls PyProof.Rows
section
variable {P:Program} {w:World} {K:PySem.W.Frag} {mg:Str→Option Value} {base:Heap}
theorem Def.eI {x:Str} {st:Stmt} {N ps:List Str} {k:Nat} {sp:Sp} (D:Def K mg x st ps) (S:aR N ps (ak st)) (len:∀ vs H Q E,sp vs H Q E→vs.length = ps.length)
  (mq:∀ (f:Addr) (dH:Value) (A:Around) (outer:List Env) (s:Shared) (H:Hp) (vs:List V) (Q:VK) (E:XK),eW k (A.deeper (envOfC x (ak st) s.heap.objs.size f dH))→sp vs H Q E→
   ∃ t,uM (ko (cM P w) P w K mg base N x (ak st) f dH A outer s H E).Fp (aN st) t∧t { nx:=fun _ H'=>Q .cV H',rt:=Q } (start N vs) H):du P w K mg base (cM P w) x (k + 1) ps sp:=by
 obtain ⟨f,fd,F,hm,hb⟩:=D.ex
 have kp:=F.kp
 obtain ⟨oc,od,kV,doc,pm,an,dH,ct,Ao,rfl,lk,uA⟩:=F.ex
 refine ⟨⟨f,_,zM lk uA S len fun A outer s H vs Q E hr tm=>?_,hm,kp,hb⟩⟩
 obtain ⟨t,h,q⟩:=mq f dH A outer s H vs Q E hr tm
 exact ⟨t,h.Fp,q⟩
theorem Def.Hy {x:Str} {st:Stmt} {N ps:List Str} {k:Nat} {sp:Sp} (D:Def K mg x st ps) (S:aR N ps (ak st)) (len:∀ vs H Q E,sp vs H Q E→vs.length = ps.length)
  (mq:∀ (f:Addr) (dH:Value) (A:Around) (outer:List Env) (s:Shared) (H:Hp) (vs:List V) (Q:VK) (E:XK),eW k (A.deeper (envOfC x (ak st) s.heap.objs.size f dH))→sp vs H Q E→
   ∃ t,uM (ko (cM P w) P w K mg base N x (ak st) f dH A outer s H E) (aN st) t∧t { nx:=fun _ H'=>Q .cV H',rt:=Q } (start N vs) H):du P w K mg base (cM P w) x (k + 1) ps sp:=by
 obtain ⟨f,fd,F,hm,hb⟩:=D.ex
 have kp:=F.kp
 obtain ⟨oc,od,kV,doc,pm,an,dH,ct,Ao,rfl,lk,uA⟩:=F.ex
 exact ⟨⟨f,_,zM lk uA S len fun A outer s H vs Q E hr tm=>mq f dH A outer s H vs Q E hr tm,hm,kp,hb⟩⟩
theorem E9.okN {x:Str} {st:Stmt} {f:Addr} {fd:FuncData} {N ps:List Str} {k:Nat} {sp:Sp} (F:E9 K x x st f fd) (S:aR N ps (ak st)) (len:∀ vs H Q E,sp vs H Q E→vs.length = ps.length)
  (mq:∀ (dH:Value) (A:Around) (outer:List Env) (s:Shared) (H:Hp) (vs:List V) (Q:VK) (E:XK),eW k (A.deeper (envOfC x (ak st) s.heap.objs.size f dH))→sp vs H Q E→
   ∃ t,uM (ko (cM P w) P w K mg base N x (ak st) f dH A outer s H E).Fp (aN st) t∧t { nx:=fun _ H'=>Q .cV H',rt:=Q } (start N vs) H):nK P w K mg base (cM P w) (k + 1) f fd ps sp:=by
 obtain ⟨oc,od,kV,doc,pm,an,dH,ct,Ao,rfl,lk,uA⟩:=F.ex
 refine zM lk uA S len fun A outer s H vs Q E hr tm=>?_
 obtain ⟨t,h,q⟩:=mq dH A outer s H vs Q E hr tm
 exact ⟨t,h.Fp,q⟩
end
theorem xx {P:Program} {w:World} {o:List Env} {H:Hp} {s:Shared} {e:Value} {s':Shared} (h:cM P w o H s (fun _ _ _=>False) e s'):False:=by
 obtain ⟨_,_,_,_,_,z⟩:=h
 exact z
inductive KG (K:Frag) (H:Hp):V→Value→Prop where
 | cV:KG K H .cV (.type "NoneType")
 | exc {a C:Addr} (e:H a = some (HQ C a)) (c:Ja K C):KG K H (.ref a) (.ref C)
def LM (K:Frag):List V→Hp→VK→Prop:=fun xs H Q=>∃ x c t u b,xs = [x,c]∧KG K H x t∧Am c u∧kitOne K t u = some b∧Q (.bl b) H
def LN (K:Frag):List V→Hp→VK→Prop:=fun xs H Q=>∃ x tp cs t us b,xs = [x,.ref tp]∧KG K H x t∧H tp = some (.tup cs)∧Paired Am cs us∧kitAny K t us = some b∧Q (.bl b) H
section
variable {H:Hp} {Q:VK} {K:Frag}
theorem kH {Ex:XK} {C:Addr} {ta:TA} {D:Ends} {σ : St} (h:ta σ H fun vs H1=>vs.length≤sizeLine∧Ex (.ref C) none H1):x9 Ex C ta D σ H:=h
end
end L2
end
section
namespace L2
open PySem PySem.Spec PySem.W PySem.Calls PyProof.Rows
def Gx (K:Frag):R2:=fun x y H Q=>∃ p q a b c d,x = .ref p∧y = .ref q∧SqT K H p [.int a,.int b]∧SqT K H q [.int c,.int d]∧Q (.bl (!decide (a = c∧b = d))) H
theorem DT {X:Cx} (hu:X.A.units < cLine):jT X (compareOp .NotEq) (Gx X.K):=by
 intro pins s σ H x y v u Q I rx ry h
 obtain ⟨p,q,a,b,c,d,rfl,rfl,hp,hq,qq⟩:=h
 cases rx
 cases ry
 obtain ⟨aL,r1,p1,_⟩:=I.tuple hp
 obtain ⟨sG,r2,p2,_⟩:=I.tuple hq
 obtain ⟨u1,u2,rfl,⟨t1,rfl⟩,⟨t2,rfl⟩⟩:=vals2 r1
 obtain ⟨w1,w2,rfl,⟨t3,rfl⟩,⟨t4,rfl⟩⟩:=vals2 r2
 refine SeqAt.RcNeAt.tuples (e:=fun j=>if j = 0 then a == c else b == d) p1 p2 hu (fun j h1 h2=>?_) X.prog X.w X.xe _ (bc I qq ?_)
 ·have hj:j = 0∨j = 1:=by
   have:j < 2:=h1
   omega
  rcases hj with rfl | rfl
  ·exact SeqAt.EqAt.int_int a t1 c t3
  ·exact SeqAt.EqAt.int_int b t2 d t4
 ·show (!decide (a = c∧b = d)) = (!((List.range 2).all (fun j=>if j = 0 then a == c else b == d) && (2 == 2)))
  have e:(List.range 2).all (fun j=>if j = 0 then a == c else b == d) = ((a == c) && (b == d)):=by
   rw [show List.range 2 = [0,1] from rfl]
   simp
  rw [e]
  by_cases h1:a = c <;> by_cases h2:b = d <;> simp [h1,h2]
theorem Gs {K:Frag} {H:Hp} {Q:VK} {p q:Addr} {a b c d:Int} (hp:SqT K H p [.int a,.int b]) (hq:SqT K H q [.int c,.int d]) (k:Q (.bl (!decide (a = c∧b = d))) H):Gx K (.ref p) (.ref q) H Q:=⟨p,q,a,b,c,d,rfl,rfl,hp,hq,k⟩
theorem pf {σ : St} {H:Hp} {Q:VK} {ta:TE} (h:ta σ H fun x H1=>Q (.bl (!decide (x = .cV))) H1):Cz ta σ H Q:=h
theorem qS {X:Cx} {k:Nat} (hr:eW k X.A):X.A.units < cLine:=hr.Dh
end L2
end
section
namespace L2
open PySem PySem.Spec PySem.W PySem.Calls PyProof.Rows
def AllIn (cells:List (Str×Addr)):List (Str×Addr)→Prop
 | []=>True
 | p :: r=>cells.lookup p.1 = some p.2∧AllIn cells r
theorem AllIn.get {cells:List (Str×Addr)}:∀ {cl:List (Str×Addr)},AllIn cells cl→∀ {x c},cl.lookup x = some c→cells.lookup x = some c
 | [],_,x,c,e=>by cases e
 | (n,d) :: r,h,x,c,e=>by
  rw [List.lookup_cons] at e
  cases q:x == n with
  | true=>
   rw [q] at e; cases e
   have z:x = n:=by simpa using q
   subst z
   exact h.1
  | false=>rw [q] at e; exact AllIn.get h.2 e
def Ag (X:Cx) (ifs:List Expr) (t:TT):Prop:=
 ∀ (pins:List (Addr×Obj)) (s:Shared) (σ : St) (H:Hp) (Q:Bool→Hp→Prop),Inv X pins σ H s→t σ H Q→
  wpAny (model X.prog X.w) X.A (forIn ifs true fun c r=>if r = true then do let ok ← isTrue c X.env (eval c X.env); pure (ForInStep.yield ok) else pure (ForInStep.yield r)) (TP X pins σ Q) X.xe s
def Cw:TT:=fun _ H Q=>Q true H
theorem fc {X:Cx}:Ag X [] Cw:=fun _ _ _ H _ I h=>wpAny_tests_nil ⟨H,I,h⟩
theorem fR {X:Cx} {c:Expr} {t:TT} (h:PT X c t):Ag X [c] t:=fun pins s σ H Q I hw=>wpAny_tests_one (h pins s σ H Q I hw)
section
variable {prog:Program} {w:World} {A:Around} {R:Result→Shared→Prop} {s:Shared}
theorem xB {elt target iter:Expr} {ifs:List Expr} {scope:Scope} {pos:Pos} {it acc:Value} {env:Env} (I:Nat→Shared→Prop)
  (turn:∀ n s,I n s→wpAny (model prog w) A (pyNext it) (fun r s₁=>match r with
   | none=>R (.ok .next) s₁
   | some v=>wpAny (model prog w) A (letOwnedTupleGo target it v) (fun _ s1=>wpAny (model prog w) A (assign target env v) (fun _ s₂=>
     wpAny (model prog w) A (forIn ifs true fun c r=>if r = true then do let ok ← isTrue c env (eval c env); pure (ForInStep.yield ok) else pure (ForInStep.yield r)) (fun ok s₃=>
      if ok = true then wpAny (model prog w) A (eval elt env) (fun x s₄=>wpAny (model prog w) A (call (.builtin "list.append") [acc,x]) (fun _ s₅=>∃ m,m < n∧I m s₅) (fun _ _=>False) s₄) (fun _ _=>False) s₃
      else ∃ m,m < n∧I m s₃) (fun _ _=>False) s₂) (fun _ _=>False) s1) (fun _ _=>False) s₁) (fun _ _=>False) s)
  (n:Nat) (h:I n s):codeAny (model prog w) A (.compLoop (.ListComp elt [⟨target,iter,ifs,0⟩] scope pos) 0 it acc env) R s:=by
 refine codeAny_loop rfl I (fun n s hI=>?_) n h
 show wpAny _ A ((compTurn (.ListComp elt [⟨target,iter,ifs,0⟩] scope pos) 0 it acc env).onRaise (fun x=>do noteFrame x env; theTreesLotGoes x)) _ _ s
 refine wpAny_noted ?_
 rw [compTurn_list]
 refine wpAny_bind (wpAny_standAt (wpAny_bind (wpAny_mono (turn n s hI) (fun r s₁ h₁=>?_) fun _ _ z=>False.elim z)))
 cases r with
 | none=>exact wpAny_pure h₁
 | some v=>
  refine wpAny_bind (wpAny_mono h₁ (fun _ s1 h1=>wpAny_bind (wpAny_mono h1 (fun _ s₂ h₂=>wpAny_bind (wpAny_mono h₂ (fun ok s₃ h₃=>?_) fun _ _ z=>False.elim z)) fun _ _ z=>False.elim z)) fun _ _ z=>False.elim z)
  cases ok with
  | false=>exact wpAny_pure ⟨rfl,h₃⟩
  | true=>
   exact wpAny_bind (wpAny_bind (wpAny_mono h₃ (fun x s₄ h₄=>wpAny_bind (wpAny_mono h₄ (fun _ s₅ h₅=>wpAny_pure (wpAny_pure ⟨rfl,h₅⟩)) fun _ _ z=>False.elim z)) fun _ _ z=>False.elim z))
end
def Cx.block (X:Cx) (scope:Scope) (cl:List (Str×Addr)) (C:Addr) (N:List Str) (fp:List Addr) (pins:List (Addr×Obj)) (s:Shared) (H:Hp):Cx:=
 { X with N:=N,s₀:=s,H₀:=H,env:=compEnvC scope cl C X.env,outer:=X.stack,ex:=fp,fn:=fun _=>false,pn:=X.pn ++ pins,xe:=fun _ _=>False }
def iq (n:Nat) (fr:List Nat) (σ : St):St:=List.replicate n none ++ fr.map fun i=>(σ[i]?).join
structure kY (X:Cx) (scope:Scope) (cl:List (Str×Addr)) (tg:List Str) (fr:List (Str×Nat)):Prop where
 kind:scope.kind = .function
 DZ:∀ y∈scope.names,y.2≠.cell
 names:∀ y∈scope.names,y.2 = .local→scope.names.lookup y.1 = some .local
 Ij:closureFor scope X.env = pure cl
 C9:AllIn X.env.cells cl
 has:((relabel scope X.env).names.all fun p=>!(p.2 == .cell || p.2 == .free) || (cl.lookup p.1).isSome) = true
 Xa:∀ p∈fr,X.N[p.2]? = some p.1∧KD X.env.scope p.1∧(cl.lookup p.1).isSome = true∧(relabel scope X.env).names.lookup p.1 = some .cell
 Xb:∀ p∈fr,X.env.kindOf p.1 = some .cell
section
variable {X:Cx} {pins:List (Addr×Obj)} {σ : St} {H:Hp} {s:Shared} {scope:Scope} {cl:List (Str×Addr)} {tg:List Str} {fr:List (Str×Nat)}
theorem lookup_mem {κ α : Type} [BEq κ] [LawfulBEq κ]:∀ {l:List (κ×α)} {x : κ} {v : α},l.lookup x = some v→(x,v)∈l
 | [],_,_,e=>by cases e
 | (k,u) :: r,x,v,e=>by
  rw [List.lookup_cons] at e
  cases q:x == k with
  | true=>
   rw [q] at e; cases e
   have z:x = k:=by simpa using q
   subst z
   exact List.mem_cons_self
  | false=>rw [q] at e; exact List.mem_cons_of_mem _ (lookup_mem e)
theorem sV {C:Addr} {fp:List Addr} {h':Heap} {t':Nat} {m:Str→Option Value} (B:kY X scope cl tg fr) (I:Inv X pins σ H s) (hf:∀ b∈fp,mT X pins H b∧b < s.heap.objs.size) (hC:s.heap.objs.size≤C) (hn:h'.Ns C m) (k:∀ b o,s.heap.get? b = some o→h'.get? b = some o)
  {H2:Hp} (hu:Un (iN X.stack) fp H H2 s.heap h') (bS:iG X.prog X.w H2 h') (vV:H2 C = none) :
  Inv (X.block scope cl C (tg ++ fr.map (·.1)) fp pins s H) [] (iq tg.length (fr.map (·.2)) σ) H2 { s with heap:=h',toks:=t' }:=by
 have cells:∀ {x c},cl.lookup x = some c→X.env.cells.lookup x = some c:=fun e=>B.C9.get e
 have cC:∀ x c,X.env.cells.lookup x = some c→c≠C:=fun x c e z=>by
  obtain ⟨v,o,ho,_⟩:=I.cell x c e
  exact absurd (Nat.lt_of_lt_of_le (Heap.lt_size ho) hC) (by rw [z]; exact Nat.lt_irrefl _)
 have cellK:∀ {c v},s.heap.IsCell c v→h'.IsCell c v:=fun {c v} ⟨o,e,d⟩=>⟨o,k c o e,d⟩
 have C8:∀ x c,X.env.cells.lookup x = some c→c∉fp∧H2 c = none:=fun x c e=>by
  have nf:c∉fp:=fun z=>(hf c z).1.2.2.2.2.1 x c e rfl
  obtain ⟨v,o,ho,_⟩:=I.cell x c e
  exact ⟨nf,hu.free c o ho (I.hX x c e) nf⟩
 have Mi:∀ p∈X.pn ++ pins,p.1∉fp∧H2 p.1 = none:=fun p hp=>by
  have nf:p.1∉fp:=fun z=>(hf p.1 z).1.2.2.2.2.2 p hp rfl
  obtain ⟨e,n,_⟩:=I.pin p hp
  exact ⟨nf,hu.free p.1 _ e n nf⟩
 have Tu:∀ b∈iN X.stack,b < s.heap.objs.size:=fun b hb=>by
  obtain ⟨_,o,ho,_⟩:=I.stack.mem hb
  exact Heap.lt_size ho
 refine ⟨⟨I.ok.mod,B.kind,I.ok.glob,I.ok.blt,hC,fun x y c h1 h2=>I.ok.inj x y c (cells h1) (cells h2),fun x hx=>?_,fun x c z=>absurd (show false = true from z) Bool.false_ne_true,I.ok.hd,I.ok.frames,.inl rfl,fun b hb=>?_,fun b o e=>⟨?_,?_⟩,?_,fun b o e z=>?_,fun b hb z=>?_,I.stack,I.oU⟩,
  rfl,I.bare,hu,⟨m,hn,fun i x v h1 h2 h3=>?_⟩,fun x c e=>?_,vV,fun x c e=>(C8 x c (cells e)).2,fun p hp=>?_,bS,?_⟩
 ·have e:(relabel scope X.env).names.lookup x = some .cell∨(relabel scope X.env).names.lookup x = some .free:=hx
  have mem:∃ kk,(x,kk)∈(relabel scope X.env).names∧(kk == NameKind.cell || kk == NameKind.free) = true:=by
   rcases e with e | e
   ·exact ⟨_,lookup_mem e,rfl⟩
   ·exact ⟨_,lookup_mem e,rfl⟩
  obtain ⟨kk,mm,hk⟩:=mem
  have z:=List.all_eq_true.mp B.has _ mm
  simp only [hk,Bool.not_true,Bool.false_or] at z
  exact Option.isSome_iff_exists.mp z
 ·exact ⟨fun z=>absurd (Nat.lt_of_lt_of_le (hf b hb).2 hC) (by rw [z]; exact Nat.lt_irrefl _),fun x c e z=>(C8 x c (cells e)).1 (z▸hb)⟩
 ·exact (I.bs b o e).1
 ·exact (I.bs b o e).2
 ·exact Nat.le_trans I.ok.E2 I.sz
 ·rcases (hf b z).1.2.2.2.1 with q | q
  ·exact I.ok.yX b o e q
  ·exact absurd (Nat.lt_of_lt_of_le (Heap.lt_size (I.ok.bs b o e).1) q) (Nat.lt_irrefl _)
 ·have z':b∈iN X.stack:=z
  rcases List.mem_cons.mp (I.jC b z') with q | q
  ·exact (hf b hb).1.2.1 q
  ·exact (hf b hb).1.2.2.1 q
 ·have hi:tg.length≤i:=by
   refine Nat.le_of_not_lt fun z=>?_
   unfold iq at h2
   rw [List.getElem?_append_left (by simpa using z),List.getElem?_replicate,if_pos z] at h2
   cases h2
  have AA:(fr.map (·.1))[i - tg.length]? = some x:=by
   have z:(tg ++ fr.map (·.1))[i]? = some x:=h1
   rw [List.getElem?_append_right hi] at z
   exact z
  have vW:((fr.map (·.2)).map fun i=>(σ[i]?).join)[i - tg.length]? = some (some v):=by
   unfold iq at h2
   rw [List.getElem?_append_right (by simpa using hi)] at h2
   simpa using h2
  rw [List.getElem?_map] at AA
  rw [List.getElem?_map,List.getElem?_map] at vW
  cases q:fr[i - tg.length]? with
  | none=>rw [q] at AA; cases AA
  | some p=>
   rw [q] at AA vW
   have ex:p.1 = x:=Option.some.inj AA
   have ev:(σ[p.2]?).join = some v:=Option.some.inj vW
   subst ex
   obtain ⟨f1,f2,f3,f4⟩:=B.Xa p (List.mem_of_getElem? q)
   have eσ : σ[p.2]? = some (some v):=by
    cases z : σ[p.2]? with
    | none=>rw [z] at ev; cases ev
    | some w'=>rw [z] at ev; exact congrArg some ev
   obtain ⟨m0,He,WA⟩:=I.loc
   obtain ⟨u,r,l⟩:=WA p.2 p.1 v f1 eσ f2
   refine ⟨u,r,?_⟩
   obtain ⟨c,hc⟩:=Option.isSome_iff_exists.mp f3
   have hk:=B.Xb p (List.mem_of_getElem? q)
   rcases l with ⟨kl,_⟩ | ⟨_,c',qh,z⟩
   ·rw [hk] at kl; cases kl
   ·have e':=cells hc
    rw [qh] at e'
    cases e'
    exact .inr ⟨.inl f4,c,hc,cellK z⟩
 ·obtain ⟨v,z⟩:=I.cell x c (cells e)
  exact ⟨v,cellK z⟩
 ·rw [List.append_nil] at hp
  obtain ⟨e,n,ne,nf,d⟩:=I.pin p hp
  refine ⟨k _ _ e,(Mi p hp).2,fun z=>absurd (Nat.lt_of_lt_of_le (Heap.lt_size e) hC) (by rw [z]; exact Nat.lt_irrefl _),fun z=>?_,d⟩
  rcases List.mem_cons.mp (I.jC _ z) with q | q
  ·exact ne q
  ·exact nf q
 ·unfold iq
  show _ = (tg ++ fr.map (·.1)).length
  simp
end
end L2
end
section
namespace L2
open PySem PySem.Spec PySem.W PySem.Calls PyProof.Rows
def uV (wi:TI) (g:TG) (tt:TT) (te:TE) (n:Nat) (fr:List Nat):TE:=fun σ H Q=>wi σ H fun J H1=>∀ acc,H1 acc = none→∃ W:Nat→Nat→St→List V→Hp→Prop,(∃ m,W 0 m (iq n fr σ) [] (upd H1 acc (.lst [])))∧
 ∀ i m σ' ys H2,W i m σ' ys H2→((J.stop i H2∧Q (.ref acc) H2)∨(J.go i H2∧∀ x H3,J.xM i H2 x H3→g x σ' H3 fun σ2 H4=>tt σ2 H4 fun b H5=>
  if b = true then te σ2 H5 fun y H6=>H6 acc = some (.lst ys)∧ys.length < sizeLine∧∃ m',m' < m∧W (i + 1) m' σ2 (ys ++ [y]) (upd H6 acc (.lst (ys ++ [y]))) else ∃ m',m' < m∧W (i + 1) m' σ2 ys H5))
section
variable {X:Cx} {scope:Scope} {cl:List (Str×Addr)} {tg:List Str} {fr:List (Str×Nat)} {elt target iter:Expr} {ifs:List Expr} {wi:TI} {g:TG} {tt:TT} {te:TE} {pos:Pos}
theorem oE (B:kY X scope cl tg fr) (hc:X.calm = true) (hi:PI X target iter wi)
  (hg:∀ C fp pins s H,PG (X.block scope cl C (tg ++ fr.map (·.1)) fp pins s H) target g) (ht:∀ C fp pins s H,Ag (X.block scope cl C (tg ++ fr.map (·.1)) fp pins s H) ifs tt) (he:∀ C fp pins s H,PE (X.block scope cl C (tg ++ fr.map (·.1)) fp pins s H) elt te)
  {pins:List (Addr×Obj)} {σ : St} {H:Hp} {s:Shared} {Q:VK} (I:Inv X pins σ H s) (hw:uV wi g tt te tg.length (fr.map (·.2)) σ H Q) {RR:Value→Addr→Result→Shared→Prop}
  (WV:∀ D C s1 H5 m,Inv X pins σ H5 s1→s1.heap.Ns C m→H5 C = none→C≠X.env.locals→X.s₀.heap.objs.size≤C→(∀ x c,X.env.cells.lookup x = some c→c≠C)→(∀ p∈X.pn ++ pins,p.1≠C)→Q (.ref D) H5→RR (.ref D) C (.ok .next) s1) :
  wpAny (model X.prog X.w) X.A (eval iter X.env) (fun xv s1=>wpAny (model X.prog X.w) X.A (pyIter xv) (fun it s2=>wpAny (model X.prog X.w) X.A (newList []) (fun acc s3=>
   wpAny (model X.prog X.w) X.A (newFunctionEnv scope X.env.globals cl [] X.env.qual none .none (some X.env)) (fun Il s4=>
    codeAny (model X.prog X.w) X.A (.compStart (.ListComp elt [⟨target,iter,ifs,0⟩] scope pos) 0 it acc { Il with scope:=relabel scope X.env }) (RR acc Il.locals) s4) X.xe s3) X.xe s2) X.xe s1) X.xe s:=by
 refine wpAny_mono (hi pins s σ H _ I hw) (fun xv s1 h1=>wpAny_mono h1 (fun NF s2 h2=>?_) fun _ _ z=>z) fun _ _ z=>z
 obtain ⟨it,fp,tn,J,H1,rfl,I2,T,KZ,f2,V7⟩:=h2
 have AB:∀ b∈fp,b < s2.heap.objs.size:=fun b hb=>by
  obtain ⟨o,e,_⟩:=T.obj _ _ KZ b hb
  exact Heap.lt_size e
 refine wpAny_newObj_type (wpAny_newFunctionEnv B.DZ (by intro y hy; simp at hy) (fun h3 Av JO=>?_) B.kind)
 dsimp only at Av JO ⊢
 generalize hP:s2.heap.push { cls:=.type "list",dict:=none,data:=.seq ([]:List Value).toArray } = hp at Av JO ⊢
 have hC:hp.objs.size = s2.heap.objs.size + 1:=by rw [← hP,Heap.size_push]
 have eG:s2.heap.objs.size < hp.objs.size:=by rw [hC]; exact Nat.lt_succ_self _
 have k3:∀ b o,s2.heap.get? b = some o→h3.get? b = some o:=fun b o e=>by
  have l:=Heap.lt_size e
  refine JO.extBut b o (Nat.ne_of_lt (Nat.lt_trans l eG)) (Heap.get?_push_of_some _ (hP▸Heap.get?_push_of_some _ e))
 have hD:H1 s2.heap.objs.size = none:=I2.bS.fresh (Nat.le_refl _)
 have bI:h3.get? s2.heap.objs.size = some { cls:=.type "list",dict:=none,data:=.seq ([]:List Value).toArray }:=JO.extBut _ _ (Nat.ne_of_lt eG) (Heap.get?_push_of_some _ (hP▸Heap.get?_push_size _ rfl))
 obtain ⟨W,⟨m0,w0⟩,turn⟩:=V7 _ hD
 have SY:Un (iN X.stack) fp H1 (upd H1 s2.heap.objs.size (.lst [])) s2.heap h3:=Un.laid k3 (Nat.le_refl _) hD
 have UG:iG X.prog X.w (upd H1 s2.heap.objs.size (.lst [])) h3:=I2.bS.laid k3 (Nat.le_refl _) ⟨Nat.zero_le _,[],0,.nil,bI⟩
 have fC:upd H1 s2.heap.objs.size (.lst []) hp.objs.size = none:=by rw [ax (Nat.ne_of_gt eG)]; exact I2.bS.fresh (Nat.le_of_lt eG)
 have Vq:=I2.lt
 have nL:hp.objs.size≠X.env.locals:=Nat.ne_of_gt (Nat.lt_trans Vq eG)
 have T2:X.s₀.heap.objs.size≤hp.objs.size:=Nat.le_trans I2.sz (Nat.le_of_lt eG)
 have cC:∀ x c,X.env.cells.lookup x = some c→c≠hp.objs.size:=fun x c e z=>by
  obtain ⟨v,o,ho,_⟩:=I2.cell x c e
  exact absurd (Nat.lt_trans (Heap.lt_size ho) eG) (by rw [z]; exact Nat.lt_irrefl _)
 have pC:∀ p∈X.pn ++ pins,p.1≠hp.objs.size:=fun p Ha z=>by
  exact absurd (Nat.lt_trans (Heap.lt_size (I2.pin p Ha).1) eG) (by rw [z]; exact Nat.lt_irrefl _)
 have J0:=sV (t':=s2.toks + ([]:List (Str×Value)).length) B I2 (fun b hb=>⟨f2 b hb,AB b hb⟩) (Nat.le_of_lt eG) Av k3 SY UG fC
 have OD:∀ {H':Hp} {pl:List (Addr×Obj)},(∀ b∈fp,H' b = none)→(∀ p∈pl,p.1∉fp)→∀ b∈fp,mT (X.block scope cl hp.objs.size (tg ++ fr.map (·.1)) fp pins s2 H1) pl H' b:=fun hn tD b hb=>by
  obtain ⟨g0,g1,g2,g3,g4,g5⟩:=f2 b hb
  refine ⟨hn b hb,fun z=>?_,fun z=>?_,.inl hb,fun x c e=>g4 x c (B.C9.get e),fun p Ha z=>?_⟩
  ·have z':b = hp.objs.size:=z
   exact absurd (Nat.lt_trans (AB b hb) eG) (by rw [z']; exact Nat.lt_irrefl _)
  ·rcases List.mem_cons.mp (I2.jC b z) with q | q
   ·exact g1 q
   ·exact g2 q
  ·rcases List.mem_append.mp Ha with q | q
   ·exact g5 p q z
   ·exact tD p q (z▸hb)
 have loop:∀ s3:Shared,s3 = { s2 with heap:=h3,toks:=s2.toks + ([]:List (Str×Value)).length }→
   codeAny (model X.prog X.w) X.A (.compLoop (.ListComp elt [⟨target,iter,ifs,0⟩] scope pos) 0 (.ref it) (.ref s2.heap.objs.size) (compEnvC scope cl hp.objs.size X.env)) (RR (.ref s2.heap.objs.size) hp.objs.size) s3:=by
  rintro s3 rfl
  refine xB (fun n s'=>∃ i σ' ys H5,Inv (X.block scope cl hp.objs.size (tg ++ fr.map (·.1)) fp pins s2 H1) [] σ' H5 s'∧tn i s'.heap∧(∀ b∈fp,H5 b = none)∧W i n σ' ys H5) ?_ m0
   ⟨0,_,[],_,J0,T.keep _ _ _ KZ fun b hb o e=>k3 b o e,fun b hb=>?_,w0⟩
  ·rintro n s' ⟨i,σ',ys,H5,J5,t5,f5,w5⟩
   rcases turn i n σ' ys H5 w5 with ⟨stop,q⟩ | ⟨go,step⟩
   ·refine wpAny_mono (T.done (X.block scope cl hp.objs.size (tg ++ fr.map (·.1)) fp pins s2 H1) rfl rfl rfl hc i [] s' σ' H5 (fun _ _=>False) J5 (OD f5 (by simp)) t5 stop) (fun r s6 ⟨hr,J6⟩=>?_) fun _ _ z=>z
    subst hr
    obtain ⟨m6,Wr,_⟩:=J6.loc
    exact WV _ _ _ H5 m6 (I2.IH (ch:=fp) J6.os J6.base J6.bS J6.bare fun b hb=>by obtain ⟨g0,g1,g2,g3,g4,g5⟩:=f2 b hb; exact ⟨g3,g1,g4,g5⟩) Wr J6.free nL T2 cC pC q
   ·refine wpAny_mono (T.item (X.block scope cl hp.objs.size (tg ++ fr.map (·.1)) fp pins s2 H1) rfl rfl rfl hc i [] s' σ' H5 (fun _ _=>False) J5 (OD f5 (by simp)) t5 go) (fun r s6 ⟨u,hr,h6⟩=>?_) fun _ _ z=>z
    subst hr
    refine wpAny_mono h6 (fun _ s7 ⟨x,H7,J7,r7,y7,t7,f7⟩=>?_) fun _ _ z=>z
    have Yh:=J7.pinned (OD f7 (by simp)) (T.obj _ _ t7)
    have again:∀ {σ8:St} {H8:Hp} {s8:Shared} {FL:List V},Inv (X.block scope cl hp.objs.size (tg ++ fr.map (·.1)) fp pins s2 H1) ([] ++ lF fp s7.heap) σ8 H8 s8→(∃ m',m' < n∧W (i + 1) m' σ8 FL H8)→
      ∃ m',m' < n∧∃ i σ' ys H5,Inv (X.block scope cl hp.objs.size (tg ++ fr.map (·.1)) fp pins s2 H1) [] σ' H5 s8∧tn i s8.heap∧(∀ b∈fp,H5 b = none)∧W i m' σ' ys H5:=fun {σ8 H8 s8 FL} J8 ⟨m',hm,w8⟩=>by
     refine ⟨m',hm,i + 1,σ8,FL,H8,J8.iU,T.keep _ _ _ t7 fun b hb o e=>(J8.pin (b,o) (List.mem_append_right _ (List.mem_append_right _ (gh hb e)))).1,fun b hb=>?_,w8⟩
     obtain ⟨o,e,d⟩:=T.obj _ _ t7 b hb
     exact (J8.pin (b,o) (List.mem_append_right _ (List.mem_append_right _ (gh hb e)))).2.1
    refine wpAny_mono (hg _ _ _ _ _ _ s7 σ' H7 x u _ Yh r7 (step x H7 y7)) (fun _ s8 ⟨σ8,H8,J8,q8⟩=>?_) fun _ _ z=>z
    refine wpAny_mono (ht _ _ _ _ _ _ s8 σ8 H8 _ J8 q8) (fun b s9 ⟨H9,J9,q9⟩=>?_) fun _ _ z=>z
    cases b with
    | false=>
     rw [if_neg Bool.false_ne_true] at q9 ⊢
     exact again J9 q9
    | true=>
     rw [if_pos rfl] at q9 ⊢
     refine wpAny_mono (he _ _ _ _ _ _ s9 σ8 H9 _ J9 q9) (fun y TZ ⟨v,Cr,Yj,Ui,Ol,N6,Jv⟩=>?_) fun _ _ z=>z
     refine wpAny_mono (bT (X:=X.block scope cl hp.objs.size (tg ++ fr.map (·.1)) fp pins s2 H1) _ TZ σ8 Cr (.ref s2.heap.objs.size) [v] (.ref s2.heap.objs.size) [y] (fun _ KN=>∃ m',m' < n∧W (i + 1) m' σ8 (ys ++ [v]) KN) Yj rfl (.cons Ui .nil) ⟨_,ys,v,rfl,rfl,Ol,N6,Jv⟩) (fun _ Y1 ⟨_,KN,Yi,_,Ju⟩=>?_) fun _ _ z=>z
     exact again Yi Ju
  ·have l:=AB b hb
   rw [ax (Nat.ne_of_lt l)]; exact (f2 b hb).1
 exact codeAny_compStart_list (loop _ rfl) (T.self X.A 0 _ _ _ (T.keep _ _ _ KZ fun b hb o e=>k3 b o e) (loop _ rfl))
theorem fB (B:kY X scope cl tg fr) (hc:X.calm = true) (hi:PI X target iter wi)
  (hg:∀ C fp pins s H,PG (X.block scope cl C (tg ++ fr.map (·.1)) fp pins s H) target g) (ht:∀ C fp pins s H,Ag (X.block scope cl C (tg ++ fr.map (·.1)) fp pins s H) ifs tt) (he:∀ C fp pins s H,PE (X.block scope cl C (tg ++ fr.map (·.1)) fp pins s H) elt te)
  (hs:∀ x,foldedSetIterable iter X.env x = pure x:=by intro _; rfl):PE X (.ListComp elt [⟨target,iter,ifs,0⟩] scope pos) (uV wi g tt te tg.length (fr.map (·.2))):=by
 intro pins s σ H Q I hw
 rw [eval_ListComp]
 refine wpAny_comprehension_free (use:=none) rfl hs B.Ij B.kind B.names (oE B hc hi hg ht he I hw (RR:=fun acc C=>compPost (model X.prog X.w) X.A X.xe none (EP X pins σ Q) acc C) fun D C s1 H5 m J hn f0 f1 f2 f3 f4 q=>?_)
 refine ⟨m,hn,fun h' sb=>⟨.ref D,H5,?_,rfl,q⟩⟩
 exact J.turned (t':=s1.toks) (fun b o hb e=>(sb.2 b hb).trans e) f0 f1 (.inr f2) f3 f4
theorem jb {i:Nat} {y:Str} {py Ga:Pos} (hN:X.N.Nodup) (hy:X.N[i]? = some y) (hl:Loc X.env.scope y) (B:kY X scope cl tg fr) (hc:X.calm = true) (hi:PI X target iter wi)
  (hg:∀ C fp pins s H,PG (X.block scope cl C (tg ++ fr.map (·.1)) fp pins s H) target g) (ht:∀ C fp pins s H,Ag (X.block scope cl C (tg ++ fr.map (·.1)) fp pins s H) ifs tt) (he:∀ C fp pins s H,PE (X.block scope cl C (tg ++ fr.map (·.1)) fp pins s H) elt te)
  (hs:∀ x,foldedSetIterable iter X.env x = pure x:=by intro _; rfl) (Wg:swapsWith (.ListComp elt [⟨target,iter,ifs,0⟩] scope pos) (some (.Name y py)) Ga.line X.env = pure true:=by rfl)
  (hf:X.fn y = true∨X.env.scope.names.lookup y = some .local:=by first | exact .inl rfl | exact .inr rfl | assumption) :
  PS X (.Assign [.Name y py] (.ListComp elt [⟨target,iter,ifs,0⟩] scope pos) Ga) (AW (uV wi g tt te tg.length (fr.map (·.2))) (vX i)):=by
 intro pins s σ H D I hw
 rw [exec_Assign_Name_used _ _ _ _ Wg]
 refine wpAny_bind (wpAny_standAt (wpAny_bind ?_))
 show wpAny _ _ (do let _ ← comprehension (.ListComp elt [⟨target,iter,ifs,0⟩] scope pos) scope X.env _ (newList []) false (eval iter X.env) (some (assign (.Name y py) X.env))) _ _ s
 refine wpAny_bind (wpAny_mono (wpAny_comprehension_free (use:=some (assign (.Name y py) X.env)) (Q:=fun _ s'=>SP X pins D .next s') rfl hs B.Ij B.kind B.names
  (oE B hc hi hg ht he I hw (RR:=fun acc C=>compPost (model X.prog X.w) X.A X.xe (some (assign (.Name y py) X.env)) (fun _ s'=>SP X pins D .next s') acc C) fun R C s1 H5 m J hn f0 f1 f2 f3 f4 q=>?_)) (fun _ s' hq=>wpAny_pure (wpAny_pure hq)) fun _ _ z=>z)
 show wpAny _ _ (assign (.Name y py) X.env (.ref R)) _ _ _
 refine wpAny_assign_Name (nR (v:=.ref R) J hN hy hl rfl (fun s2 J2 ⟨a,sb,ha⟩=>?_) hf)
 have na:C≠a:=by
  rcases ha with z | z
  ·rw [z]; exact f1
  ·exact Ne.symm (f3 y a z)
 refine ⟨m,hn.sameBut sb na,fun h' TV=>⟨_,H5,?_,q⟩⟩
 exact J2.turned (t':=s2.toks) (fun b o hb e=>(TV.2 b hb).trans e) f0 f1 (.inr f2) f3 f4
end
end L2
end
section
namespace L2
open PySem PySem.Spec PySem.W PySem.Calls PyProof.Rows
section
variable {X:Cx}
def vv:V→List V→Hp→VK→Prop:=fun x vs H Q=>∃ l xs y,∃ k:Nat,x = .ref l∧vs = [.int k,y]∧H l = some (.lst xs)∧k≤xs.length∧xs.length < sizeLine∧Q .cV (upd H l (.lst (xs.take k ++ y :: xs.drop k)))
theorem jK:FK X "list.insert" vv:=by
 intro pins s σ H x vs v us Q I rx rv h
 obtain ⟨l,xs,y,k,rfl,rfl,hH,hk,hz,q⟩:=h
 cases rx
 obtain ⟨u1,u2,rfl,⟨t,rfl⟩,ru⟩:=vals2 rv
 obtain ⟨z,aL,n,r,hl,e⟩:=I.nj hH
 have RV:=gZ
 have fit:¬ (!Builtin.List.listFitsIndex (k:Int)) = true:=by
  have:Builtin.List.listFitsIndex (k:Int) = true:=by
   unfold Builtin.List.listFitsIndex
   simp only [Bool.and_eq_true,decide_eq_true_eq]
   constructor <;> omega
  rw [this]; decide
 have ek:(if (k:Int) < 0 then ((k:Int) + (aL.toArray.size:Int)).toNat else min (k:Int).toNat aL.toArray.size) = k:=by
  rw [if_neg (by omega),Int.toNat_natCast,List.size_toArray]
  omega
 have ee:(aL.toArray.extract 0 k).push u2 ++ aL.toArray.extract k = (aL.take k ++ u2 :: aL.drop k).toArray:=by
  apply Array.ext'
  simp
  rw [List.take_of_length_le (by rw [List.length_drop]; omega)]
 have rr:Vals (xs.take k ++ y :: xs.drop k) (aL.take k ++ u2 :: aL.drop k):=Vals.append (Vals.take k r) (.cons ru (Vals.drop k r))
 have Fw:(xs.take k ++ y :: xs.drop k).length≤sizeLine:=by
  rw [List.length_append,List.length_cons,List.length_take,List.length_drop]
  omega
 have sz:aL.toArray.size≤sizeLine:=by rw [List.size_toArray]; omega
 have fin:∀ f:Array Value→Array Value,f aL.toArray = (aL.take k ++ u2 :: aL.drop k).toArray→EP X pins σ Q Value.none { s with heap:=s.heap.update l (Obj.mapSeq f),toks:=s.toks }:=fun f hf=>
  ⟨.cV,_,I.BA (its':=aL.take k ++ u2 :: aL.drop k) (ys:=xs.take k ++ y :: xs.drop k) hH e hf rr Fw,rfl,q⟩
 have fin2:EP X pins σ Q Value.none { s with heap:=s.heap.update l (Obj.mapSeq fun xs=>have kk:=if (k:Int) < 0 then ((k:Int) + (xs.size:Int)).toNat else min (k:Int).toNat xs.size; (xs.extract 0 kk).push u2 ++ xs.extract kk),toks:=s.toks }:=by
  refine fin _ ?_
  dsimp only
  rw [ek]
  exact ee
 clear fin ek ee rr Fw q
 generalize (k:Int) = x at fit fin2 ⊢
 generalize aL.toArray = items at e sz
 exact call_meets F.slot_list_insert ⟨_,e,rfl⟩ F.entry_list_insert (F.args_list_insert_3 _ _ _) (AutoSeq1.list_insert_list_int_val_1 l items n x t u2 fit sz) ⟨e,fin2⟩
def Bh (K:Frag):List V→Hp→VK→Prop:=fun vs H Q=>∃ (a:Addr) (ns:List Int),vs = [.ref a]∧aD K H a (ns.map V.int)∧ns.length < 64∧∀ (pP:List Int) p,pP.Perm ns→pP.Pairwise (·≤·)→H p = none→Q (.ref p) (upd H p (.lst (pP.map V.int)))
end
section
variable {X:Cx}
theorem fG:fH X (.builtin "sorted") (Bh X.K):=by
 intro pins s σ H xs us Q I r h
 obtain ⟨a,ns,rfl,ha,hl,q⟩:=h
 obtain ⟨u,rfl,ru⟩:=vals1 r
 cases ru
 obtain ⟨aL,rv,pl,hz⟩:=I.list ha
 have hI:IntsAre aL ns:=intsAre_of rv
 have len:=rv.length
 rw [List.length_map] at len
 refine sorted_ints pl.isList hI (by omega) fun out pP h1 h2 h3=>?_
 have lo:=h1.length
 obtain ⟨ep,k1⟩:=sortedAll_at s.heap aL out
 have jv:=h2.length_eq
 have Fw:(pP.map V.int).length≤sizeLine:=by rw [List.length_map,PySem.sizeLine_eq]; omega
 have new:bP X.prog X.w (upd H (s.heap.objs.size + 1) (.lst (pP.map V.int))) (sortedAll s.heap aL out) (s.heap.objs.size + 1) (.lst (pP.map V.int)):=⟨Fw,out.toList,ep,jz h1,by simpa [seqObj] using k1⟩
 exact ⟨.ref (s.heap.objs.size + 1),_,I.laid (t':=s.toks) (fun b o e=>sortedAll_old e) (Nat.le_succ _) new,rfl,q pP _ h2 h3 (I.bS.fresh (Nat.le_succ _))⟩
end
mutual
inductive tJ (H:Hp):V→PyData→Prop where
 | int (i:Int):tJ H (.int i) (.int i)
 | lst {a:Addr} {vs:List V} {ds:List PyData}:H a = some (.lst vs)→fh H vs ds→tJ H (.ref a) (.list ds)
 | tup {a:Addr} {vs:List V} {ds:List PyData}:H a = some (.tup vs)→fh H vs ds→tJ H (.ref a) (.tuple ds)
inductive fh (H:Hp):List V→List PyData→Prop where
 | nil:fh H [] []
 | cons {v:V} {vs:List V} {d:PyData} {ds:List PyData}:tJ H v d→fh H vs ds→fh H (v :: vs) (d :: ds)
end
section
variable {X:Cx} {pins:List (Addr×Obj)} {σ : St} {H:Hp} {s:Shared}
mutual
theorem tJ.reads (I:Inv X pins σ H s):∀ {v:V} {d:PyData} {u:Value},tJ H v d→RelV v u→∃ as,Reads s.heap u d as
 | _,_,u,.int i,r=>by
  obtain ⟨t,rfl⟩:=r
  exact ⟨_,.int i t⟩
 | _,_,u,.lst (a:=a) (vs:=vs) e h,r=>by
  cases (show u = Value.ref a from r)
  obtain ⟨_,aL,n,rv,g⟩:=(show bP X.prog X.w H s.heap a (.lst vs) from I.bS a _ e)
  obtain ⟨as,ra⟩:=fh.reads I h rv
  exact ⟨_,.list g rfl rfl (by simpa using ra)⟩
 | _,_,u,.tup (a:=a) (vs:=vs) e h,r=>by
  cases (show u = Value.ref a from r)
  obtain ⟨_,aL,rv,o,g,hc,n,hd⟩:=(show bP X.prog X.w H s.heap a (.tup vs) from I.bS a _ e)
  obtain ⟨as,ra⟩:=fh.reads I h rv
  exact ⟨_,.tuple g hc hd (by simpa using ra)⟩
theorem fh.reads (I:Inv X pins σ H s):∀ {vs:List V} {ds:List PyData} {us:List Value},fh H vs ds→Vals vs us→∃ as,ReadsAll s.heap us ds as
 | _,_,_,.nil,.nil=>⟨_,.nil⟩
 | _,_,_,.cons h t,.cons r q=>by
  obtain ⟨as,ra⟩:=tJ.reads I h r
  obtain ⟨bs,rb⟩:=fh.reads I t q
  exact ⟨_,.cons ra rb⟩
end
end
def GA (neg:Bool):R2:=fun x y H Q=>∃ da db,tJ H x da∧tJ H y db∧SeqAt.shaped da = true∧SeqAt.shaped db = true∧Q (.bl (if neg then !PyData.eqv da db else PyData.eqv da db)) H
theorem DV {X:Cx} (hu:X.A.units + 64 < cLine):jT X (compareOp .Eq) (GA false):=by
 intro pins s σ H x y v u Q I rx ry h
 obtain ⟨da,db,ra,rb,ha,hb,q⟩:=h
 obtain ⟨as,r1⟩:=tJ.reads I ra rx
 obtain ⟨bs,r2⟩:=tJ.reads I rb ry
 exact SeqAt.compareEq_shaped r1 r2 ha hb hu (bc I q rfl)
theorem DS {X:Cx} (hu:X.A.units + 64 < cLine):jT X (compareOp .NotEq) (GA true):=by
 intro pins s σ H x y v u Q I rx ry h
 obtain ⟨da,db,ra,rb,ha,hb,q⟩:=h
 obtain ⟨as,r1⟩:=tJ.reads I ra rx
 obtain ⟨bs,r2⟩:=tJ.reads I rb ry
 exact SeqAt.compareNe_shaped r1 r2 ha hb hu (bc I q rfl)
def fF (l:List Int):PyData:=.list (l.map .int)
def zW (L:List (List Int)):PyData:=.list (L.map fF)
def Ie (p:Int×Int):PyData:=.tuple [.int p.1,.int p.2]
def Pb (L:List (Int×Int)):PyData:=.list (L.map Ie)
theorem lay_ints:∀ l:List Int,PyData.canLayAll0 (l.map .int) = true∧PyData.depthAll (l.map .int) = 0
 | []=>⟨by simp [PyData.canLayAll0],by simp [PyData.depthAll]⟩
 | i :: l=>by
  obtain ⟨h1,h2⟩:=lay_ints l
  simp [PyData.canLayAll0,PyData.depthAll,PyData.canLay0,PyData.depth,h1,h2]
theorem sN:∀ l m:List Int,PyData.eqvAll (l.map .int) (m.map .int) = decide (l = m)
 | [],[]=>by simp [PyData.eqvAll]
 | [],_ :: _=>by simp [PyData.eqvAll]
 | _ :: _,[]=>by simp [PyData.eqvAll]
 | i :: l,j :: m=>by
  simp only [List.map_cons,PyData.eqvAll,PyData.eqv,sN l m]
  by_cases h1:i = j <;> by_cases h2:l = m <;> simp [h1,h2]
end L2
end
section
namespace L2
open PySem PySem.Spec PySem.W PySem.Calls PyProof.Rows
theorem qB:bootBuiltins "min" = some (.builtin "min"):=by decide +kernel
theorem fX:bootBuiltins "sorted" = some (.builtin "sorted"):=by decide +kernel
theorem kT {i j:Int} (h1:0 < j) (h2:j < 2 ^ 250):Qq i j:=⟨h1,Sz.mono (m:=250) (by unfold Sz; omega) (by decide)⟩
theorem pO {ns:List Int} {k:Int} (h0:0≤k) (h1:k < ns.length):∃ n,kU (ns.map V.int) k = some (V.int n):=by
 obtain ⟨j,rfl⟩:=Int.eq_ofNat_of_zero_le h0
 have hj:j < ns.length:=by omega
 exact ⟨ns[j],ir (by simp [hj])⟩
end L2
end
section
namespace L2
open PySem PySem.Spec PySem.W PySem.Calls PyProof.Rows
theorem aE {α : Type} {p : α→Prop}:∀ x∈([]:List α),p x:=fun _ h=>by cases h
theorem ai {α : Type} {p : α→Prop} {a : α} {l:List α} (h:p a) (t:∀ x∈l,p x):∀ x∈a :: l,p x:=List.forall_mem_cons.mpr ⟨h,t⟩
end L2
namespace L2
open PySem PySem.Spec PySem.W PySem.Calls PyProof.Rows
section
variable {σ : St} {H:Hp} {Q:VK} {D:Ends} {K:Frag}
theorem Bf {T:String} {r:V→List V→Hp→VK→Prop} {to:TE} {t:TA} (h:to σ H fun x H1=>FQ K T x H1∧t σ H1 fun xs H2=>r x xs H2 Q):QH K T r to t σ H Q:=h
theorem vo {T:String} {r:V→List V→Hp→VK→Prop} {to:TE} (h:to σ H fun x H1=>FQ K T x H1∧r x [] H1 Q):F7 K T r to σ H Q:=h
theorem o9 {R:Bool→Hp→Prop} (h:R true H):Cw σ H R:=h
theorem cY {l:Addr} {xs:List V} {y:V} (h:H l = some (.lst xs)) (hl:xs.length < sizeLine) (q:Q .cV (upd H l (.lst (xs ++ [y])))):vz (.ref l) [y] H Q:=⟨l,xs,y,rfl,rfl,h,hl,q⟩
theorem lq {l:Addr} {xs:List V} {y:V} {i:Int} {k:Nat} (hi:i = k) (h:H l = some (.lst xs)) (hk:k≤xs.length) (hl:xs.length < sizeLine) (q:Q .cV (upd H l (.lst (xs.take k ++ y :: xs.drop k)))):vv (.ref l) [.int i,y] H Q:=⟨l,xs,y,k,rfl,by rw [hi],h,hk,hl,q⟩
theorem yE {l b:Addr} {xs zs:List V} (h:H l = some (.lst xs)) (hb:H b = some (.lst zs)) (hl:xs.length + zs.length≤sizeLine) (q:Q .cV (upd H l (.lst (xs ++ zs)))):vw (.ref l) [.ref b] H Q:=⟨l,b,xs,zs,rfl,rfl,h,hb,hl,q⟩
theorem wL {p:Addr} {x:Int} {ns:List Int} {neg:Bool} (h:aD K H p (ns.map V.int)) (q:Q (.bl (if neg then !decide (x∈ns) else decide (x∈ns))) H):Jt K neg (.int x) (.ref p) H Q:=by
 have e:JL (.int x) (ns.map V.int) = decide (x∈ns):=by
  unfold JL
  rw [List.any_map]
  have:(fun y=>B6 y (V.int x)) ∘ V.int = fun y=>y == x:=by funext y; rfl
  rw [this]
  clear this q h
  induction ns with
  | nil=>simp
  | cons a l ih=>
   rw [List.any_cons,ih]
   by_cases h1:a = x
   ·subst h1; simp
   ·have h2:¬ x = a:=fun z=>h1 z.symm
    simp [h1,h2]
 refine ⟨p,_,rfl,.inl h,rfl,?_,by rw [e]; exact q⟩
 rw [List.all_map]
 simp [jx]
theorem dN {n i:Nat} {A:Prop} (hi:i < n) (h:A):∃ m',m' < n - i∧(m' = n - (i + 1)∧i + 1≤n∧A):=⟨_,by omega,rfl,hi,h⟩
theorem gs {R:Hp→Prop} {acc:Addr} {lo:Int} {n:Nat} {g:TG} {tt:TT} {te:TE} (Pv:Nat→St→List V→Hp→Prop) (h0:Pv 0 σ [] H)
  (hs:∀ i σ ys H,i < n→Pv i σ ys H→g (.int (lo + i)) σ H fun σ2 H4=>tt σ2 H4 fun b H5=>if b = true then te σ2 H5 fun y H6=>H6 acc = some (.lst ys)∧ys.length < sizeLine∧∃ m',m' < n - i∧(m' = n - (i + 1)∧i + 1≤n∧Pv (i + 1) σ2 (ys ++ [y]) (upd H6 acc (.lst (ys ++ [y])))) else ∃ m',m' < n - i∧(m' = n - (i + 1)∧i + 1≤n∧Pv (i + 1) σ2 ys H5))
  (hd:∀ σ ys H,Pv n σ ys H→R H) :
  ∃ W:Nat→Nat→St→List V→Hp→Prop,(∃ m,W 0 m σ [] H)∧∀ i m σ' ys H2,W i m σ' ys H2→(((AJ lo n).stop i H2∧R H2)∨((AJ lo n).go i H2∧∀ x H3,(AJ lo n).xM i H2 x H3→g x σ' H3 fun σ2 H4=>tt σ2 H4 fun b H5=>
   if b = true then te σ2 H5 fun y H6=>H6 acc = some (.lst ys)∧ys.length < sizeLine∧∃ m',m' < m∧W (i + 1) m' σ2 (ys ++ [y]) (upd H6 acc (.lst (ys ++ [y]))) else ∃ m',m' < m∧W (i + 1) m' σ2 ys H5)):=by
 refine ⟨fun i m σ ys H=>m = n - i∧i≤n∧Pv i σ ys H,⟨n,by simp,Nat.zero_le _,h0⟩,?_⟩
 rintro i m σ ys H ⟨rfl,hi,p⟩
 by_cases eG:i < n
 ·refine .inr ⟨eG,fun x H' y=>?_⟩
  obtain ⟨e,y⟩:=y
  subst e y
  exact hs i σ ys _ eG p
 ·have e:i = n:=by omega
  subst e
  exact .inl ⟨Nat.le_refl _,hd σ ys H p⟩
theorem dG {R:Hp→Prop} {acc a:Addr} {xs:List V} {g:TG} {tt:TT} {te:TE} (Pv:Nat→St→List V→Hp→Prop) (h0:Pv 0 σ [] H) (hl:∀ i σ ys H,i≤xs.length→Pv i σ ys H→aD K H a xs)
  (hs:∀ i x σ ys H,xs[i]? = some x→i < xs.length→Pv i σ ys H→g x σ H fun σ2 H4=>tt σ2 H4 fun b H5=>if b = true then te σ2 H5 fun y H6=>H6 acc = some (.lst ys)∧ys.length < sizeLine∧∃ m',m' < xs.length - i∧(m' = xs.length - (i + 1)∧i + 1≤xs.length∧Pv (i + 1) σ2 (ys ++ [y]) (upd H6 acc (.lst (ys ++ [y])))) else ∃ m',m' < xs.length - i∧(m' = xs.length - (i + 1)∧i + 1≤xs.length∧Pv (i + 1) σ2 ys H5))
  (hd:∀ σ ys H,Pv xs.length σ ys H→R H) :
  ∃ W:Nat→Nat→St→List V→Hp→Prop,(∃ m,W 0 m σ [] H)∧∀ i m σ' ys H2,W i m σ' ys H2→(((Cn K a).stop i H2∧R H2)∨((Cn K a).go i H2∧∀ x H3,(Cn K a).xM i H2 x H3→g x σ' H3 fun σ2 H4=>tt σ2 H4 fun b H5=>
   if b = true then te σ2 H5 fun y H6=>H6 acc = some (.lst ys)∧ys.length < sizeLine∧∃ m',m' < m∧W (i + 1) m' σ2 (ys ++ [y]) (upd H6 acc (.lst (ys ++ [y]))) else ∃ m',m' < m∧W (i + 1) m' σ2 ys H5)):=by
 refine ⟨fun i m σ ys H=>m = xs.length - i∧i≤xs.length∧Pv i σ ys H,⟨xs.length,by simp,Nat.zero_le _,h0⟩,?_⟩
 rintro i m σ ys H ⟨rfl,hi,p⟩
 have q:=hl i σ ys H hi p
 by_cases eG:i < xs.length
 ·refine .inr ⟨⟨xs,xs[i],q,by simp [eG]⟩,fun x H' y=>?_⟩
  obtain ⟨e,y⟩:=y
  subst e
  exact hs i x σ ys _ (y xs q) eG p
 ·have e:i = xs.length:=by omega
  subst e
  exact .inl ⟨⟨xs,q,Nat.le_refl _⟩,hd σ ys H p⟩
theorem dR {wi:TI} {g:TG} {tt:TT} {te:TE} {n:Nat} {fr:List Nat} (h:wi σ H fun J H1=>∀ acc,H1 acc = none→∃ W:Nat→Nat→St→List V→Hp→Prop,(∃ m,W 0 m (iq n fr σ) [] (upd H1 acc (.lst [])))∧
 ∀ i m σ' ys H2,W i m σ' ys H2→((J.stop i H2∧Q (.ref acc) H2)∨(J.go i H2∧∀ x H3,J.xM i H2 x H3→g x σ' H3 fun σ2 H4=>tt σ2 H4 fun b H5=>
  if b = true then te σ2 H5 fun y H6=>H6 acc = some (.lst ys)∧ys.length < sizeLine∧∃ m',m' < m∧W (i + 1) m' σ2 (ys ++ [y]) (upd H6 acc (.lst (ys ++ [y]))) else ∃ m',m' < m∧W (i + 1) m' σ2 ys H5))):uV wi g tt te n fr σ H Q:=h
end
end L2
end
section
namespace Gm
open PySem L2
def put (l:List Int) (k:Nat) (x:Int):List Int:=l.take k ++ x :: l.drop k
theorem fP (l:List Int) (k:Nat) (x:Int):(put l k x).Perm (x :: l):=by
 unfold put
 refine List.perm_middle.trans ?_
 rw [List.take_append_drop]
theorem kL {l:List Int} {k:Nat} {x y:Int}:y∈put l k x↔y = x∨y∈l:=by rw [(fP l k x).mem_iff,List.mem_cons]
theorem wW {l:List Int} {k:Nat} {x:Int} (h:x∉l) (n:l.Nodup):(put l k x).Nodup:=(fP l k x).nodup_iff.mpr (List.nodup_cons.mpr ⟨h,n⟩)
theorem map_put {l:List Int} {k:Nat} {x:Int}:(l.map V.int).take k ++ V.int x :: (l.map V.int).drop k = (put l k x).map V.int:=by simp [put,List.map_take,List.map_drop]
structure aw (L:List (List Int)):Prop where
 nd:∀ (i:Nat) (l:List Int),L[i]? = some l→l.Nodup
 rg:∀ (i:Nat) (l:List Int),L[i]? = some l→∀ x∈l,0≤x∧x < L.length∧x≠i
 sy:∀ (i:Nat) (l:List Int),L[i]? = some l→∀ x∈l,∀ j:Nat,x = j→∀ m,L[j]? = some m→(i:Int)∈m
structure Made (n one other:Nat) (L:List (List Int)):Prop where
 len:L.length = n
 map:aw L
 bd:∀ (i:Nat) (l:List Int),L[i]? = some l→∀ x∈l,(i < one∧x < one)∨(i = one∧x < other)∨(x = one∧i < other)
structure aQ (H:Hp) (p:Addr) (as:List Addr) (L:List (List Int)):Prop where
 top:H p = some (.lst (as.map V.ref))
 len:as.length = L.length
 row:∀ (i:Nat) (a:Addr) (l:List Int),as[i]? = some a→L[i]? = some l→H a = some (.lst (l.map V.int))
section
variable {H H':Hp} {p:Addr} {as:List Addr} {L:List (List Int)}
theorem aQ.at (g:aQ H p as L) {i:Nat} (hi:i < L.length):∃ a l,as[i]? = some a∧L[i]? = some l∧H a = some (.lst (l.map V.int)):=by
 have h2:i < as.length:=by rw [g.len]; exact hi
 exact ⟨as[i],L[i],by simp [h2],by simp [hi],g.row i _ _ (by simp [h2]) (by simp [hi])⟩
theorem aQ.same (g:aQ H p as L) (e:ah H H'):aQ H' p as L:=⟨e _ _ g.top,g.len,fun i a l h1 h2=>e _ _ (g.row i a l h1 h2)⟩
theorem aQ.set (g:aQ H p as L) (nd:(p :: as).Nodup) {i:Nat} {a:Addr} {l':List Int} (hi:as[i]? = some a):aQ (upd H a (.lst (l'.map V.int))) p as (L.set i l'):=by
 have hp:p≠a:=fun z=>(List.nodup_cons.mp nd).1 (z▸List.mem_of_getElem? hi)
 refine ⟨by rw [ax hp]; exact g.top,by rw [List.length_set]; exact g.len,fun j b l h1 h2=>?_⟩
 by_cases hj:j = i
 ·subst hj
  rw [hi] at h1
  cases h1
  rw [List.getElem?_set,if_pos rfl] at h2
  split at h2
  ·cases h2; exact ae
  ·cases h2
 ·rw [List.getElem?_set_ne (fun z=>hj z.symm)] at h2
  have hb:b≠a:=fun z=>by
   subst z
   obtain ⟨q1,w1⟩:=List.getElem?_eq_some_iff.mp h1
   obtain ⟨q2,w2⟩:=List.getElem?_eq_some_iff.mp hi
   exact hj ((List.getElem_inj (List.nodup_cons.mp nd).2).mp (w1.trans w2.symm))
  rw [ax hb]
  exact g.row j b l h1 h2
theorem aQ.ix (g:aQ H p as L) {i:Nat} {a:Addr} (hi:as[i]? = some a):kU (as.map V.ref) (i:Int) = some (V.ref a):=ir (by rw [List.getElem?_map,hi]; rfl)
theorem rS {H:Hp}:∀ l:List Int,fh H (l.map V.int) (l.map PyData.int)
 | []=>.nil
 | i :: l=>.cons (.int i) (rS l)
theorem ie {a:Addr} {l:List Int} (h:H a = some (.lst (l.map V.int))):tJ H (.ref a) (fF l):=.lst h (rS l)
end
theorem ah.fresh {H H':Hp} {a:Addr} {o:HO} (e:ah H H') (h:H a = none):ah H (upd H' a o):=fun b u q=>by rw [ax (fun z=>by rw [z,h] at q; cases q)]; exact e b u q
inductive Reach (L:List (List Int)) (s:Int):Int→Prop where
 | here:Reach L s s
 | step {i:Nat} {l:List Int} {x:Int}:Reach L s i→L[i]? = some l→x∈l→Reach L s x
theorem bN {α : Type} [BEq α] [LawfulBEq α]:∀ {l r:List α},l.Nodup→(∀ x∈l,x∈r)→l.length≤r.length
 | [],_,_,_=>Nat.zero_le _
 | x :: l,r,n,h=>by
  have hx:x∈r:=h x List.mem_cons_self
  have n2:=List.nodup_cons.mp n
  have ih:=bN (r:=r.erase x) n2.2 fun y hy=>by
   have ne:y≠x:=fun z=>n2.1 (z▸hy)
   exact (List.mem_erase_of_ne ne).mpr (h y (List.mem_cons_of_mem _ hy))
  rw [List.length_erase_of_mem hx] at ih
  have:=List.length_pos_of_mem hx
  rw [List.length_cons]; omega
theorem bC {n:Nat} {l:List Int} (h:l.Nodup) (r:∀ x∈l,0≤x∧x < n):l.length≤n:=by
 have:=bN (r:=(List.range n).map fun i:Nat=>(i:Int)) h fun x hx=>by
  have:=r x hx
  exact List.mem_map.mpr ⟨x.toNat,List.mem_range.mpr (by omega),by omega⟩
 simpa using this
theorem len_eq {α : Type} [BEq α] [LawfulBEq α] {l r:List α} (h1:l.Nodup) (h2:r.Nodup) (h:∀ x,x∈l↔x∈r):l.length = r.length:=
 Nat.le_antisymm (bN h1 fun x=>(h x).mp) (bN h2 fun x=>(h x).mpr)
theorem Reach.rg {L:List (List Int)} {s x:Int} (h:Reach L s x) (m:aw L) (hs:0≤s∧s < L.length):0≤x∧x < L.length:=by
 cases h with
 | here=>exact hs
 | step _ e hx=>have:=m.rg _ _ e _ hx; exact ⟨this.1,this.2.1⟩
end Gm
namespace Gm
open PySem L2
theorem aB {n:Nat} (h:n≤1000):n < sizeLine:=by rw [PySem.sizeLine_eq]; omega
end Gm
end
section
namespace Gm
open PySem L2
def mX (i:Nat) (l:List Int):Nat→List Int
 | 0=>[]
 | j + 1=>mX i l j ++ (if ((i + 1 + j:Nat):Int)∈l then [((i + 1 + j:Nat):Int)] else [])
def eh (L:List (List Int)):Nat→List (Int×Int)
 | 0=>[]
 | k + 1=>eh L k ++ (mX k (L.getD k []) (L.length - (k + 1))).map fun x=>((k:Int),x)
theorem gT {i:Nat} {l:List Int}:∀ {j:Nat} {x:Int},x∈mX i l j↔(i:Int) < x∧x < (i + 1 + j:Nat)∧x∈l
 | 0,x=>by simp only [mX,List.not_mem_nil,false_iff]; intro h; omega
 | j + 1,x=>by
  rw [mX,List.mem_append,gT]
  by_cases h:((i + 1 + j:Nat):Int)∈l
  ·rw [if_pos h,List.mem_singleton]
   constructor
   ·rintro (⟨h1,h2,h3⟩ | rfl)
    ·exact ⟨h1,by omega,h3⟩
    ·exact ⟨by omega,by omega,h⟩
   ·rintro ⟨h1,h2,h3⟩
    by_cases e:x = ((i + 1 + j:Nat):Int)
    ·exact .inr e
    ·exact .inl ⟨h1,by omega,h3⟩
  ·rw [if_neg h]
   simp only [List.not_mem_nil,or_false]
   constructor
   ·rintro ⟨h1,h2,h3⟩
    exact ⟨h1,by omega,h3⟩
   ·rintro ⟨h1,h2,h3⟩
    have:x≠((i + 1 + j:Nat):Int):=fun z=>h (z▸h3)
    exact ⟨h1,by omega,h3⟩
theorem gJ {i:Nat} {l:List Int}:∀ j,(mX i l j).Pairwise (· < ·)
 | 0=>.nil
 | j + 1=>by
  rw [mX,List.pairwise_append]
  refine ⟨gJ j,by split <;> simp,fun a ha b hb=>?_⟩
  have:=gT.mp ha
  split at hb
  ·rw [List.mem_singleton] at hb; omega
  ·cases hb
theorem iI:∀ {l r:List Int},l.Pairwise (· < ·)→r.Pairwise (· < ·)→(∀ x,x∈l↔x∈r)→l = r
 | [],[],_,_,_=>rfl
 | [],b :: r,_,_,h=>absurd ((h b).mpr List.mem_cons_self) (by simp)
 | a :: l,[],_,_,h=>absurd ((h a).mp List.mem_cons_self) (by simp)
 | a :: l,b :: r,hl,hr,h=>by
  obtain ⟨l1,l2⟩:=List.pairwise_cons.mp hl
  obtain ⟨r1,r2⟩:=List.pairwise_cons.mp hr
  have e:a = b:=by
   rcases List.mem_cons.mp ((h a).mp List.mem_cons_self) with z | z
   ·exact z
   ·rcases List.mem_cons.mp ((h b).mpr List.mem_cons_self) with y | y
    ·exact y.symm
    ·have:=r1 a z; have:=l1 b y; omega
  subst e
  rw [iI l2 r2 fun x=>?_]
  constructor
  ·intro z
   rcases List.mem_cons.mp ((h x).mp (List.mem_cons_of_mem _ z)) with y | y
   ·have:=l1 x z; omega
   ·exact y
  ·intro z
   rcases List.mem_cons.mp ((h x).mpr (List.mem_cons_of_mem _ z)) with y | y
   ·have:=r1 x z; omega
   ·exact y
theorem strict {l:List Int} (h:l.Pairwise (·≤·)) (n:l.Nodup):l.Pairwise (· < ·):=by
 have:=h.and n
 exact this.imp fun ⟨x,y⟩=>by omega
theorem Dy {i n:Nat} {l s:List Int} (p:s.Perm l) (h:s.Pairwise (·≤·)) (n1:l.Nodup) (r:∀ x∈l,x < n) (hi:i < n):s.filter (fun x=>decide ((i:Int) < x)) = mX i l (n - (i + 1)):=by
 refine iI ((strict h (p.nodup_iff.mpr n1)).filter _) (gJ _) fun x=>?_
 rw [List.mem_filter,gT,p.mem_iff]
 simp only [decide_eq_true_eq]
 constructor
 ·rintro ⟨h1,h2⟩
  have:=r x h1
  exact ⟨h2,by omega,h1⟩
 ·rintro ⟨h1,h2,h3⟩
  exact ⟨h3,h1⟩
theorem sC {i:Nat} {l:List Int}:∀ j,(mX i l j).length≤j
 | 0=>Nat.le_refl _
 | j + 1=>by
  rw [mX,List.length_append]
  have:=sC (i:=i) (l:=l) j
  split <;> simp <;> omega
theorem sD {L:List (List Int)}:∀ k,(eh L k).length≤k * L.length
 | 0=>Nat.zero_le _
 | k + 1=>by
  rw [eh,List.length_append,List.length_map]
  have:=sD (L:=L) k
  have:=sC (i:=k) (l:=L.getD k []) (L.length - (k + 1))
  rw [Nat.succ_mul]; omega
abbrev PR (H:Hp):List Addr→List (Int×Int)→Prop:=Paired fun a x=>H a = some (.tup [.int x.1,.int x.2])
theorem PR.lst {H:Hp} {t:Addr} {xs zs:List V} {ps:List Addr} {T:List (Int×Int)} (h:PR H ps T) (ht:H t = some (.lst xs)):PR (upd H t (.lst zs)) ps T:=
 Paired.ki h fun a x e=>by
  rw [ax (fun z=>by rw [z,ht] at e; cases e)]; exact e
theorem PR.same {H H':Hp} {ps:List Addr} {T:List (Int×Int)} (h:PR H ps T) (e:ah H H'):PR H' ps T:=Paired.ki h fun a x q=>e _ _ q
theorem PR.app {H:Hp}:∀ {ps qs:List Addr} {T U:List (Int×Int)},PR H ps T→PR H qs U→PR H (ps ++ qs) (T ++ U)
 | _,_,_,_,.nil,h=>h
 | _,_,_,_,.cons r t,h=>.cons r (PR.app t h)
theorem PR.len {H:Hp} {ps:List Addr} {T:List (Int×Int)} (h:PR H ps T):ps.length = T.length:=Paired.length h
end Gm
end
section
namespace Gm
open PySem L2
structure Fl (L:List (List Int)) (s:Int) (ks ws:List Int):Prop where
 nd:ks.Nodup
 nw:ws.Nodup
 st:s∈ks
 re:∀ x∈ks,Reach L s x
 sub:∀ x∈ws,x∈ks
 cl:∀ (i:Nat) (l:List Int),(i:Int)∈ks→(i:Int)∉ws→L[i]? = some l→∀ x∈l,x∈ks
structure Fi (L:List (List Int)) (s:Int) (ks ws:List Int) (pl:Nat) (l:List Int) (k:Nat):Prop where
 nd:ks.Nodup
 nw:ws.Nodup
 st:s∈ks
 re:∀ x∈ks,Reach L s x
 sub:∀ x∈ws,x∈ks
 pk:(pl:Int)∈ks
 cl:∀ (i:Nat) (m:List Int),(i:Int)∈ks→(i:Int)∉ws→i≠pl→L[i]? = some m→∀ x∈m,x∈ks
 tk:∀ x∈l.take k,x∈ks
section
variable {L:List (List Int)} {s:Int} {ks ws:List Int} {pl k:Nat} {l:List Int} {x:Int}
theorem Fl.start:Fl L s [s] [s]:=⟨by simp,by simp,by simp,fun x h=>by rw [List.mem_singleton.mp h]; exact .here,fun x h=>h,fun i l h1 h2=>absurd h1 h2⟩
theorem ic {l:List Int} {x:Int}:(l ++ [x]).Nodup↔x∉l∧l.Nodup:=by
 rw [(List.perm_append_singleton x l).nodup_iff,List.nodup_cons]
theorem Fl.pop (h:Fl L s ks (ws ++ [(pl:Int)])):Fi L s ks ws pl l 0:=
 ⟨h.nd,(ic.mp h.nw).2,h.st,h.re,fun x hx=>h.sub x (List.mem_append_left _ hx),h.sub _ (by simp),fun i m h1 h2 h3 h4 x hx=>h.cl i m h1 (fun z=>by
  rcases List.mem_append.mp z with z | z
  ·exact h2 z
  ·have:=List.mem_singleton.mp z; omega) h4 x hx,fun x hx=>by simp at hx⟩
theorem qU {l:List Int} {k:Nat} {x y:Int} (h:l[k]? = some x) (hy:y∈l.take (k + 1)):y∈l.take k∨y = x:=by
 rw [List.take_succ,h] at hy
 simpa using hy
theorem Fi.add (h:Fi L s ks ws pl l k) (e:l[k]? = some x) (n:x∉ks) (hl:L[pl]? = some l):Fi L s (ks ++ [x]) (ws ++ [x]) pl l (k + 1):=by
 refine ⟨ic.mpr ⟨n,h.nd⟩,ic.mpr ⟨fun z=>n (h.sub _ z),h.nw⟩,List.mem_append_left _ h.st,fun y hy=>?_,fun y hy=>?_,List.mem_append_left _ h.pk,fun i m h1 h2 h3 h4 y hy=>?_,fun y hy=>?_⟩
 ·rcases List.mem_append.mp hy with z | z
  ·exact h.re y z
  ·rw [List.mem_singleton.mp z]; exact .step (h.re _ h.pk) hl (List.mem_of_getElem? e)
 ·rcases List.mem_append.mp hy with z | z
  ·exact List.mem_append_left _ (h.sub y z)
  ·exact List.mem_append_right _ z
 ·refine List.mem_append_left _ (h.cl i m ?_ (fun z=>h2 (List.mem_append_left _ z)) h3 h4 y hy)
  rcases List.mem_append.mp h1 with z | z
  ·exact z
  ·exact absurd (List.mem_append_right _ z) h2
 ·rcases qU e hy with z | z
  ·exact List.mem_append_left _ (h.tk y z)
  ·rw [z]; exact List.mem_append_right _ (by simp)
theorem Fi.skip (h:Fi L s ks ws pl l k) (e:l[k]? = some x) (n:x∈ks):Fi L s ks ws pl l (k + 1):=
 ⟨h.nd,h.nw,h.st,h.re,h.sub,h.pk,h.cl,fun y hy=>by
  rcases qU e hy with z | z
  ·exact h.tk y z
  ·rw [z]; exact n⟩
theorem Fi.done (h:Fi L s ks ws pl l l.length) (hl:L[pl]? = some l):Fl L s ks ws:=
 ⟨h.nd,h.nw,h.st,h.re,h.sub,fun i m h1 h2 h3 x hx=>by
  by_cases e:i = pl
  ·subst e
   rw [hl] at h3
   cases h3
   exact h.tk x (by rw [List.take_length]; exact hx)
  ·exact h.cl i m h1 h2 e h3 x hx⟩
theorem Fl.all (h:Fl L s ks []) (x:Int):x∈ks↔Reach L s x:=by
 refine ⟨h.re x,fun r=>?_⟩
 induction r with
 | here=>exact h.st
 | step _ e hx ih=>exact h.cl _ _ ih (by simp) e _ hx
theorem Fl.len (m:aw L) (hs:0≤s∧s < L.length) {ks:List Int} (nd:ks.Nodup) (re:∀ x∈ks,Reach L s x):ks.length≤L.length:=bC nd fun x hx=>(re x hx).rg m hs
theorem kZ:∀ (ks:List Int) (x:Int),(eE (ks.map fun x=>((Sum.inl x:Key),V.bl true)) (.inl x)).isSome = decide (x∈ks)
 | [],x=>rfl
 | y :: ks,x=>by
  rw [List.map_cons]
  by_cases e:y = x
  ·subst e
   rw [eZ rfl]
   simp
  ·rw [dI (fun z=>e (Sum.inl.inj z)),kZ ks x]
   have e':¬ x = y:=fun z=>e z.symm
   simp [e']
theorem yH {ks:List Int} {x:Int} (h:x∉ks):putK (ks.map fun x=>((Sum.inl x:Key),V.bl true)) (.inl x) (.bl true) = (ks ++ [x]).map fun x=>((Sum.inl x:Key),V.bl true):=by
 rw [i9,List.map_append]
 ·rfl
 ·have:=kZ ks x
  rw [decide_eq_false h] at this
  exact Option.isNone_iff_eq_none.mp (by rw [← Option.not_isSome,this]; rfl)
end
def SK (L:List (List Int)) (fs:List Int):Prop:=∀ (i:Nat) (l:List Int),L[i]? = some l→(∃ x,x∈l∧x∈fs)→(i:Int)∈fs
structure Pa (L:List (List Int)) (fs:List Int) (k:Nat):Prop where
 nd:fs.Nodup
 st:(0:Int)∈fs
 re:∀ x∈fs,Reach L 0 x
 gr:SK L fs∨k + 1≤fs.length
structure Pi (L:List (List Int)) (BY fs:List Int) (j:Nat):Prop where
 nd:fs.Nodup
 st:(0:Int)∈fs
 re:∀ x∈fs,Reach L 0 x
 kp:SK L BY→fs = BY
 gr:BY.length < fs.length∨(fs = BY∧∀ (i:Nat) (l:List Int),i < j→L[i]? = some l→(∃ x,x∈l∧x∈fs)→(i:Int)∈fs)
end Gm
namespace Gm
open PySem L2
theorem shaped_ints (l:List Int):SeqAt.shaped (fF l) = true:=by
 obtain ⟨h1,h2⟩:=lay_ints l
 unfold SeqAt.shaped fF
 simp [PyData.canLay0,PyData.depth,h1,h2]
theorem qv (l m:List Int):PyData.eqv (fF l) (fF m) = decide (l = m):=by unfold fF; rw [PyData.eqv]; exact sN l m
end Gm
end
section
namespace L2
open PySem PySem.Spec PySem.W PySem.Calls PyProof.Rows
section
variable {X:Cx} {K:Frag}
theorem ug (h:X.K = K):jT X (compareOp .In) (Jt K false):=h▸jJ
theorem jt (h:X.K = K):KJ X (Bi K):=h▸aO
theorem xF (h:X.K = K):fH X (.builtin "len") (fun xs H Q=>∃ x n,xs = [x]∧IY K x H n∧Q (.int n) H):=by subst h; exact az
end
end L2
end
section
namespace L2
open PySem PySem.Spec PySem.W PySem.Calls PyProof.Rows HT
section
open PySem.SeqAt
open PySem.AutoSeq1 (wpAny_loadPart')
open PySem.MeetsSeq PySem.MeetsSeq2 PySem.MeetsSeq3
theorem ju {vs:List Value} {ns:List Int} (h:IntsAre vs ns) {i:Nat} (hi:i < ns.length):∃ t,vs[i]? = some (.int ns[i] t):=by
 induction h generalizing i with
 | nil=>simp at hi
 | cons a t r ih=>
  cases i with
  | zero=>exact ⟨t,rfl⟩
  | succ i=>
   obtain ⟨u,hu⟩:=ih (i:=i) (by simpa using hi)
   exact ⟨u,by simpa using hu⟩
theorem By (l b:Addr) (us vs:Array Value) (n1 n2:Nat) (d1 d2:Option Addr) (s1 s2:Array (Option Value)) (ns ms:List Int) (hi:IntsAre us.toList ns) (hj:IntsAre vs.toList ms) (k:Nat) :
  ∀ i:Nat,us.size - i = k→i≤ns.length→i≤ms.length→Meets (Builtin.«list.__eq__.loop» ⟨[.ref l,.ref b,rawInt i,rawInt 0],[]⟩)
   (fun A R s=>s.heap.get? l = some { cls:=.type "list",dict:=d1,data:=.seq us n1,slots:=s1 }∧
    s.heap.get? b = some { cls:=.type "list",dict:=d2,data:=.seq vs n2,slots:=s2 }∧R (.ok (.ret (.bool (lexLt (ns.drop i) (ms.drop i))))) s):=by
 have z1:us.size = ns.length:=by rw [← hi.length]; simp
 have z2:vs.size = ms.length:=by rw [← hj.length]; simp
 have stop:∀ i,i≤ns.length→i≤ms.length→¬ (i < ns.length∧i < ms.length)→lexLt (ns.drop i) (ms.drop i) = decide (us.size < vs.size):=fun i h1 h2 h3=>by
  by_cases q:i < ns.length
  ·have q2:ms.drop i = []:=List.drop_eq_nil_of_le (by omega)
   rw [q2,List.drop_eq_getElem_cons q,hU]
   exact (decide_eq_false (by omega)).symm
  ·have q2:ns.drop i = []:=List.drop_eq_nil_of_le (by omega)
   rw [q2]
   by_cases q3:i < ms.length
   ·rw [List.drop_eq_getElem_cons q3,hJ]
    exact (decide_eq_true (by omega)).symm
   ·rw [List.drop_eq_nil_of_le (by omega),iB]
    exact (decide_eq_false (by omega)).symm
 have ends:∀ i,i≤ns.length→i≤ms.length→¬ (i < ns.length∧i < ms.length)→Meets (Builtin.«list.__eq__.loop» ⟨[.ref l,.ref b,rawInt i,rawInt 0],[]⟩)
   (fun A R s=>s.heap.get? l = some { cls:=.type "list",dict:=d1,data:=.seq us n1,slots:=s1 }∧
    s.heap.get? b = some { cls:=.type "list",dict:=d2,data:=.seq vs n2,slots:=s2 }∧R (.ok (.ret (.bool (lexLt (ns.drop i) (ms.drop i))))) s):=by
  intro i h1 h2 h3 prog w A R s h
  have e:=stop i h1 h2 h3
  obtain ⟨hp,g,d,tk,os⟩:=s; obtain ⟨hl,hb,h⟩:=h
  rw [e] at h
  wp_walk using wpAny_loadPart' hb,wpAny_loadPart' hl
  by_cases q:i < us.size
  ·have x1:us[((i:Nat):Int).toNat]? = some us[i]:=by simp [q]
   have x2:vs[((i:Nat):Int).toNat]? = none:=by simp; omega
   rw [x1,x2]
   wp_walk using wpAny_loadPart' hb,wpAny_loadPart' hl
   exact h
  ·have x1:us[((i:Nat):Int).toNat]? = none:=by simp; omega
   rw [x1]
   wp_walk using wpAny_loadPart' hb,wpAny_loadPart' hl
   exact h
 induction k with
 | zero=>exact fun i hk h1 h2=>ends i h1 h2 (by omega)
 | succ k ih=>
  intro i hk h1 h2
  by_cases BU:i < ms.length
  ·have EK:i < ns.length:=by omega
   intro prog w A R s h
   obtain ⟨hp,g,d,tk,os⟩:=s; obtain ⟨hl,hb,h⟩:=h
   obtain ⟨t1,e1⟩:=ju hi EK
   obtain ⟨t2,e2⟩:=ju hj BU
   have x1:us[((i:Nat):Int).toNat]? = some (.int ns[i] t1):=by simpa using e1
   have x2:vs[((i:Nat):Int).toNat]? = some (.int ms[i] t2):=by simpa using e2
   rw [List.drop_eq_getElem_cons EK,List.drop_eq_getElem_cons BU,dC] at h
   wp_walk using wpAny_loadPart' hb,wpAny_loadPart' hl
   rw [x1,x2]
   obtain ⟨e,he,zC⟩:=sO A.in1 ⟨hp,g,d,tk,os⟩ ns[i] t1 ms[i] t2
   refine wpAny_bind (he prog w _ _ ?_)
   have Oj:((i:Int) + 1) = ((i + 1:Nat):Int):=by omega
   cases e with
   | true=>
    rw [if_pos (zC.mp rfl)] at h
    wp_walk
    rw [Oj]
    refine ⟨plainId_quiet plain_eq_loop _,codeAny_builtin entry_eq_loop ?_⟩
    rw [Around.under_plainId plain_eq_loop _]
    exact ih (i + 1) (by omega) (by omega) (by omega) prog w A R _ ⟨hl,hb,h⟩
   | false=>
    rw [if_neg (fun q=>absurd (zC.mpr q) Bool.false_ne_true)] at h
    wp_walk using wpAny_loadPart' hb,wpAny_loadPart' hl
    rw [x1,x2]
    have NP:=yq A.in1 ⟨hp,g,d,tk,os⟩ ns[i] t1 ms[i] t2 prog w
    wp_walk using NP
    exact h
  ·exact ends i h1 h2 (by omega)
theorem jo (l b:Addr) (us vs:Array Value) (n1 n2:Nat) (d1 d2:Option Addr) (s1 s2:Array (Option Value)) (ns ms:List Int) (hi:IntsAre us.toList ns) (hj:IntsAre vs.toList ms) :
  Meets (Builtin.«list.__lt__» ⟨[.ref l,.ref b],[]⟩)
   (fun A R s=>s.heap.get? l = some { cls:=.type "list",dict:=d1,data:=.seq us n1,slots:=s1 }∧
    s.heap.get? b = some { cls:=.type "list",dict:=d2,data:=.seq vs n2,slots:=s2 }∧R (.ok (.ret (.bool (lexLt ns ms)))) s):=by
 intro prog w A R s h
 obtain ⟨hp,g,d,tk,os⟩:=s; obtain ⟨hl,hb,h⟩:=h
 have f3:=AutoSeq1.sub_list_list
 wp_walk using wpAny_loadPart' hb,wpAny_loadPart' hl
 refine ⟨plainId_quiet plain_eq_loop _,codeAny_builtin entry_eq_loop ?_⟩
 rw [Around.under_plainId plain_eq_loop _]
 exact By l b us vs n1 n2 d1 d2 s1 s2 ns ms hi hj _ 0 rfl (Nat.zero_le _) (Nat.zero_le _) prog w A R _ ⟨hl,hb,h⟩
end
end L2
end
section
namespace L2
open PySem PySem.Spec PySem.W PySem.Calls PyProof.Rows HT
section
variable {prog:Program} {w:World} {A:Around} {E:Value→Shared→Prop} {s:Shared} {l b:Addr} {us vs:Array Value} {ns ms:List Int}
theorem y6 {Q:Value→Shared→Prop} (hl:s.heap.IsList l us) (hb:s.heap.IsList b vs) (hi:IntsAre us.toList ns) (hj:IntsAre vs.toList ms) (hu:A.units < cLine) (h:Q (.bool (lexLt ns ms)) s) :
  wpAny (model prog w) A (compareOp .Lt (.ref l) (.ref b)) Q E s:=by
 obtain ⟨⟨c1,d1,a1,z1⟩,h1,k1,n1,q1⟩:=id hl
 obtain ⟨⟨c2,d2,a2,z2⟩,h2,k2,n2,q2⟩:=id hb
 dsimp only at k1 q1 k2 q2
 subst k1 q1 k2 q2
 exact richCompare_meets_room (op:=.Lt) ⟨_,h1,rfl⟩ ⟨_,h2,rfl⟩ PySem.F.slot_list_lt PySem.F.entry_list_lt (PySem.F.args_list_lt_2 _ _) (jo l b us vs n1 n2 d1 d2 z1 z2 ns ms hi hj)
  ⟨h1,h2,show Value.bool (lexLt ns ms)≠Value.notImplemented∧Q (.bool (lexLt ns ms)) s from ⟨nofun,h⟩⟩ hu
theorem sd {Q:Bool→Shared→Prop} (hl:s.heap.IsList l us) (hb:s.heap.IsList b vs) (hi:IntsAre us.toList ns) (hj:IntsAre vs.toList ms) (hu:A.units < cLine) (h:Q (lexLt ns ms) s) :
  wpAny (model prog w) A (oneLt' true (.ref l) (.ref b)) Q E s:=by
 obtain ⟨⟨c1,d1,a1,z1⟩,h1,k1,n1,q1⟩:=id hl
 obtain ⟨⟨c2,d2,a2,z2⟩,h2,k2,n2,q2⟩:=id hb
 dsimp only at k1 q1 k2 q2
 subst k1 q1 k2 q2
 rw [oneLt'_eq]
 simp only [if_true]
 refine wpAny_bind (wpAny_cRoomFor hu ?_)
 refine wpAny_bind (wpAny_callSpecialIfBound?_slot ⟨_,h1,rfl⟩ PySem.F.slot_list_lt (call_meets PySem.F.slot_list_lt ⟨_,h1,rfl⟩ PySem.F.entry_list_lt (PySem.F.args_list_lt_2 _ _) (jo l b us vs n1 n2 d1 d2 z1 z2 ns ms hi hj) ⟨h1,h2,?_⟩))
 exact wpAny_truthy_bool h
end
def Uc (K:Frag):R2:=fun x y H Q=>∃ (a b:Addr) (ns ms:List Int),x = .ref a∧y = .ref b∧aD K H a (ns.map V.int)∧aD K H b (ms.map V.int)∧Q (.bl (lexLt ns ms)) H
theorem kP:∀ a:List Int,lexLt a a = false
 | []=>rfl
 | x :: a=>by rw [dC,if_pos rfl]; exact kP a
theorem lex_trans:∀ {a b c:List Int},lexLt a b = true→lexLt b c = true→lexLt a c = true
 | [],[],_,h,_=>by cases h
 | [],_ :: _,[],_,h=>by cases h
 | [],_ :: _,_ :: _,_,_=>rfl
 | _ :: _,[],_,h,_=>by cases h
 | _ :: _,_ :: _,[],_,h=>by cases h
 | x :: a,y :: b,z :: c,h1,h2=>by
  rw [dC] at h1 h2 ⊢
  by_cases e1:x = y
  ·subst e1
   by_cases e2:x = z
   ·subst e2
    rw [if_pos rfl] at h1 h2 ⊢
    exact lex_trans h1 h2
   ·rw [if_neg e2] at h2 ⊢; exact h2
  ·rw [if_neg e1] at h1
   have g1:x < y:=of_decide_eq_true h1
   by_cases e2:y = z
   ·subst e2
    rw [if_neg e1]; exact h1
   ·rw [if_neg e2] at h2
    have g2:y < z:=of_decide_eq_true h2
    rw [if_neg (by omega)]
    exact decide_eq_true (by omega)
theorem js:∀ {a b:List Int},lexLt a b = false→lexLt b a = false→a = b
 | [],[],_,_=>rfl
 | [],_ :: _,h,_=>by cases h
 | _ :: _,[],_,h=>by cases h
 | x :: a,y :: b,h1,h2=>by
  rw [dC] at h1 h2
  by_cases e:x = y
  ·subst e
   rw [if_pos rfl] at h1 h2
   rw [js h1 h2]
  ·rw [if_neg e] at h1
   rw [if_neg (fun z=>e z.symm)] at h2
   have g1:=of_decide_eq_false h1
   have g2:=of_decide_eq_false h2
   omega
theorem sA {a b:List Int} (h:lexLt a b = true):lexLt b a = false:=by
 cases q:lexLt b a with
 | false=>rfl
 | true=>have:=lex_trans h q; rw [kP] at this; cases this
def Le (a b:List Int):Prop:=lexLt b a = false
theorem Le.refl (a:List Int):Le a a:=kP a
theorem Le.trans {a b c:List Int} (h1:Le a b) (h2:Le b c):Le a c:=by
 unfold Le at *
 cases q:lexLt c a with
 | false=>rfl
 | true=>
  by_cases e:lexLt a b = true
  ·have:=lex_trans q e; rw [h2] at this; cases this
  ·have e2:a = b:=js (by simpa using e) h1
   subst e2
   rw [h2] at q; cases q
theorem Le.of_lt {a b:List Int} (h:lexLt a b = true):Le a b:=sA h
theorem Le.IL {a b:List Int} (h1:Le a b) (h2:Le b a):a = b:=js h2 h1
end L2
end
section
namespace L2
open PySem PySem.Spec PySem.W PySem.Calls PyProof.Rows
section
variable {cmp:Nat→Nat→(Bool→Shared→Prop)→Shared→Prop} {n:Nat} {f:Nat→List Int} {s:Shared}
def qO (cmp:Nat→Nat→(Bool→Shared→Prop)→Shared→Prop) (n:Nat) (f:Nat→List Int) (s:Shared):Prop:=∀ i j C,i < n→j < n→C (HT.lexLt (f i) (f j)) s→cmp i j C s
structure Arr (n:Nat) (p:Array Nat):Prop where
 size:p.size = n
 perm:p.Perm (List.toArray (List.range n))
def kf (f:Nat→List Int) (p:Array Nat) (i:Nat):List Int:=f (p.getD i 0)
theorem Arr.lt {p:Array Nat} (h:Arr n p) {i:Nat} (hi:i < n):p.getD i 0 < n:=by
 have e:p.getD i 0 = p[i]'(by rw [h.size]; exact hi):=by simp [Array.getD,h.size,hi]
 have m:p[i]'(by rw [h.size]; exact hi)∈p:=Array.getElem_mem _
 have:=(h.perm.mem_iff).mp m
 rw [e]
 simpa using this
theorem kf_at {p q:Array Nat} {i j:Nat} (h:p[i]? = q[j]?):kf f p i = kf f q j:=by
 unfold kf
 rw [Array.getD_eq_getD_getElem?,Array.getD_eq_getD_getElem?,h]
theorem Arr.rev {p:Array Nat} (h:Arr n p) (i j:Nat):Arr n (kas_rev p i j):=⟨by unfold kas_rev; rw [mirror_size]; exact h.size,(mirror_perm _ _ _ _).trans h.perm⟩
theorem Arr.XY {p:Array Nat} (h:Arr n p) (i j:Nat):Arr n (bubble p i j):=⟨by rw [bubble_size]; exact h.size,(bubble_perm _ _ _).trans h.perm⟩
theorem pZ {p:Array Nat} (h:Arr n p) {i j:Nat} (hj:j≤n) (k:Nat):kf f (kas_rev p i j) k = if i≤k∧k < j then kf f p (i + j - 1 - k) else kf f p k:=by
 have e:=getElem?_mirror_all (xs:=p) (i:=i) (j:=j) (by rw [h.size]; exact hj) k
 by_cases q:i≤k∧k < j
 ·rw [if_pos q] at e ⊢; exact kf_at e
 ·rw [if_neg q] at e ⊢; exact kf_at e
def Up (f:Nat→List Int) (p:Array Nat) (m:Nat):Prop:=∀ i,i + 1 < m→Le (kf f p i) (kf f p (i + 1))
def Dn (f:Nat→List Int) (p:Array Nat) (m:Nat):Prop:=∀ i,i + 1 < m→Le (kf f p (i + 1)) (kf f p i)
theorem Up.le {p:Array Nat} {m:Nat} (h:Up f p m) {i j:Nat} (Ay:i≤j) (hj:j < m):Le (kf f p i) (kf f p j):=by
 induction j with
 | zero=>
      obtain rfl:i = 0:=by omega
      exact Le.refl _
 | succ j ih=>
  by_cases e:i = j + 1
  ·rw [e]; exact Le.refl _
  ·exact (ih (by omega) (by omega)).trans (h j hj)
theorem Dn.le {p:Array Nat} {m:Nat} (h:Dn f p m) {i j:Nat} (Ay:i≤j) (hj:j < m):Le (kf f p j) (kf f p i):=by
 induction j with
 | zero=>
      obtain rfl:i = 0:=by omega
      exact Le.refl _
 | succ j ih=>
  by_cases e:i = j + 1
  ·rw [e]; exact Le.refl _
  ·exact (h j hj).trans (ih (by omega) (by omega))
theorem uL (hc:qO cmp n f s) {p:Array Nat} (hp:Arr n p) {Q:Nat→Shared→Prop}:∀ (fu m:Nat),1≤m→m + fu≤n→Up f p m→(∀ m',m≤m'→m'≤m + fu→Up f p m'→(m' = m + fu∨HT.lexLt (kf f p m') (kf f p (m' - 1)) = true)→Q m' s)→(kas_asc p fu m).kasWp cmp Q s
 | 0,m,_,_,u,k=>k m (Nat.le_refl _) (Nat.le_refl _) u (.inl rfl)
 | fu + 1,m,h1,h2,u,k=>by
  refine hc _ _ _ (hp.lt (by omega)) (hp.lt (by omega)) ?_
  show (if _ then _ else _:KasT Nat).kasWp cmp Q s
  cases q:HT.lexLt (f (p.getD m 0)) (f (p.getD (m - 1) 0)) with
  | true=>rw [if_pos rfl]; exact k m (Nat.le_refl _) (by omega) u (.inr q)
  | false=>
   rw [if_neg (by decide)]
   refine uL hc hp fu (m + 1) (by omega) (by omega) (fun i hi=>?_) fun m' a1 a2 a3 a4=>k m' (by omega) (by omega) a3 (a4.imp (fun z=>by omega) id)
   by_cases e:i + 1 = m
   ·have:i = m - 1:=by omega
    rw [e,this]; exact q
   ·exact u i (by omega)
def Flt (f:Nat→List Int) (p:Array Nat) (m q:Nat):Prop:=∀ i,m - (q + 1)≤i→i < m→kf f p i = kf f p (m - 1)
theorem lj {p:Array Nat} (hp:Arr n p) {m q:Nat} (hm:m≤n) (hq:q + 1≤m) (h:Flt f p m q) (k:Nat):kf f (kas_rev p (m - (q + 1)) m) k = kf f p k:=by
 rw [pZ hp hm]
 by_cases e:m - (q + 1)≤k∧k < m
 ·rw [if_pos e,h _ (by omega) (by omega),← h k e.1 e.2]
 ·rw [if_neg e]
theorem kQ (hc:qO cmp n f s) {Q:Array Nat×Nat×Nat→Shared→Prop}:∀ (fu:Nat) (p:Array Nat) (m q:Nat),Arr n p→1≤m→m + fu≤n→q + 1≤m→Dn f p m→Flt f p m q→
  (∀ p' m' q',Arr n p'→1≤m'→m'≤m + fu→q' + 1≤m'→Dn f p' m'→Flt f p' m' q'→Q (p',m',q') s)→(kas_desc fu p m q).kasWp cmp Q s
 | 0,p,m,q,hp,h1,_,hq,d,fl,k=>k p m q hp h1 (Nat.le_refl _) hq d fl
 | fu + 1,p,m,q,hp,h1,h2,hq,d,fl,k=>by
  refine hc _ _ _ (hp.lt (by omega)) (hp.lt (by omega)) ?_
  show (if _ then _ else _:KasT _).kasWp cmp Q s
  cases c:HT.lexLt (f (p.getD m 0)) (f (p.getD (m - 1) 0)) with
  | true=>
   rw [if_pos rfl]
   have d2:∀ p',(∀ j,kf f p' j = kf f p j)→Dn f p' (m + 1):=fun p' e i hi=>by
    rw [e,e]
    by_cases z:i + 1 = m
    ·have:i = m - 1:=by omega
     rw [z,this]; exact Le.of_lt c
    ·exact d i (by omega)
   have f2:∀ p',Flt f p' (m + 1) 0:=fun p' i a b=>by
    have:i = m:=by omega
    rw [this]; rfl
   by_cases z:q > 0
   ·rw [if_pos z]
    refine kQ hc fu _ (m + 1) 0 (hp.rev _ _) (by omega) (by omega) (by omega) (d2 _ fun j=>lj hp (by omega) hq fl j) (f2 _) fun p' m' q' a1 a2 a3 a4 a5 a6=>k p' m' q' a1 a2 (by omega) a4 a5 a6
   ·rw [if_neg z]
    refine kQ hc fu _ (m + 1) 0 hp (by omega) (by omega) (by omega) (d2 _ fun _=>rfl) (f2 _) fun p' m' q' a1 a2 a3 a4 a5 a6=>k p' m' q' a1 a2 (by omega) a4 a5 a6
  | false=>
   rw [if_neg (by decide)]
   refine hc _ _ _ (hp.lt (by omega)) (hp.lt (by omega)) ?_
   show (if _ then _ else _:KasT _).kasWp cmp Q s
   cases c2:HT.lexLt (f (p.getD (m - 1) 0)) (f (p.getD m 0)) with
   | true=>rw [if_pos rfl]; exact k p m q hp h1 (by omega) hq d fl
   | false=>
    rw [if_neg (by decide)]
    have e:kf f p m = kf f p (m - 1):=js c c2
    refine kQ hc fu p (m + 1) (q + 1) hp (by omega) (by omega) (by omega) (fun i hi=>?_) (fun i a b=>?_) fun p' m' q' a1 a2 a3 a4 a5 a6=>k p' m' q' a1 a2 (by omega) a4 a5 a6
    ·by_cases z:i + 1 = m
     ·have:i = m - 1:=by omega
      rw [z,this,e]; exact Le.refl _
     ·exact d i (by omega)
    ·show kf f p i = kf f p (m + 1 - 1)
     rw [Nat.add_sub_cancel]
     by_cases z:i = m
     ·rw [z]
     ·rw [fl i (by omega) (by omega),e]
theorem qV (hc:qO cmp n f s) {p:Array Nat} (hp:Arr n p) {m:Nat} (h1:1≤m) (h2:m≤n) (d:Dn f p m) {Q:Nat×Array Nat→Shared→Prop} (k:∀ m' p',Arr n p'→m'≤n→1≤m'→Up f p' m'→Q (m',p') s):(kas_tail3 m n p).kasWp cmp Q s:=by
 unfold kas_tail3
 rw [KasT.kasWp_bind]
 refine uL hc (hp.rev 0 m) (n - m) m h1 (by omega) (fun i hi=>?_) fun m' a1 a2 a3 _=>k m' _ (hp.rev 0 m) (by omega) (by omega) a3
 rw [pZ hp h2,pZ hp h2,if_pos (by omega),if_pos (by omega)]
 exact d.le (by omega) (by omega)
theorem ka (hc:qO cmp n f s) {p:Array Nat} (hp:Arr n p) {m:Nat} (h2:m + 1≤n) (h1:1≤m) (d:Dn f p (m + 1)) {Q:Nat×Array Nat→Shared→Prop} (k:∀ m' p',Arr n p'→m'≤n→1≤m'→Up f p' m'→Q (m',p') s):(kas_descPart m n p).kasWp cmp Q s:=by
 unfold kas_descPart
 rw [KasT.kasWp_bind]
 refine kQ hc (n - (m + 1)) p (m + 1) 0 hp (by omega) (by omega) (by omega) d (fun i a b=>?_) fun p' m' q' a1 a2 a3 a4 a5 a6=>?_
 ·have:i = m:=by omega
  rw [this]; rfl
 ·dsimp only
  by_cases z:q' > 0
  ·rw [if_pos z]
   refine qV hc (a1.rev _ _) a2 (by omega) (fun i hi=>?_) k
   rw [lj a1 (by omega) a4 a6,lj a1 (by omega) a4 a6]
   exact a5 i hi
  ·rw [if_neg z]
   exact qV hc a1 a2 (by omega) a5 k
theorem zX (hc:qO cmp n f s) {p:Array Nat} (hp:Arr n p) (h1:1≤n) {Q:Nat×Array Nat→Shared→Prop} (k:∀ m' p',Arr n p'→m'≤n→1≤m'→Up f p' m'→Q (m',p') s):(kas_count n p).kasWp cmp Q s:=by
 unfold kas_count
 rw [KasT.kasWp_bind]
 refine uL hc hp (n - 1) 1 (Nat.le_refl _) (by omega) (fun i hi=>by omega) fun m a1 a2 a3 a4=>?_
 by_cases z:m = n
 ·rw [if_pos (by simpa using z)]
  exact k m p hp (by omega) a1 a3
 ·rw [if_neg (by simpa using z)]
  have st:HT.lexLt (kf f p m) (kf f p (m - 1)) = true:=a4.resolve_left (by omega)
  by_cases y:m > 1
  ·rw [if_pos y]
   refine hc _ _ _ (hp.lt (by omega)) (hp.lt (by omega)) ?_
   show (if _ then _ else _:KasT _).kasWp cmp Q s
   cases c:HT.lexLt (f (p.getD 0 0)) (f (p.getD (m - 1) 0)) with
   | true=>rw [if_pos rfl]; exact k m p hp (by omega) a1 a3
   | false=>
    rw [if_neg (by decide)]
    have al:∀ i,i < m→kf f p i = kf f p (m - 1):=fun i hi=>Le.IL (a3.le (by omega) (by omega)) (Le.trans (show Le (kf f p (m - 1)) (kf f p 0) from c) (a3.le (Nat.zero_le _) hi))
    have rv:∀ j,kf f (kas_rev p 0 m) j = kf f p j:=fun j=>by
     rw [pZ hp (by omega)]
     by_cases e:0≤j∧j < m
     ·rw [if_pos e,al _ (by omega),← al j e.2]
     ·rw [if_neg e]
    refine ka hc (hp.rev 0 m) (by omega) a1 (fun i hi=>?_) k
    rw [rv,rv]
    by_cases e:i + 1 = m
    ·have:i = m - 1:=by omega
     rw [e,this]; exact Le.of_lt st
    ·rw [al i (by omega),al (i + 1) (by omega)]; exact Le.refl _
  ·rw [if_neg y]
   refine ka hc hp (by omega) a1 (fun i hi=>?_) k
   have:i + 1 = m:=by omega
   have e2:i = m - 1:=by omega
   rw [this,e2]; exact Le.of_lt st
theorem lE (hc:qO cmp n f s) {p:Array Nat} (hp:Arr n p) {k:Nat} (hk:k < n) (u:Up f p k) {Q:Nat→Shared→Prop}:∀ (fu l r:Nat),r - l≤fu→l≤r→r≤k→(∀ i,i < l→Le (kf f p i) (kf f p k))→(∀ i,r≤i→i < k→Le (kf f p k) (kf f p i))→
  (∀ l',l'≤k→(∀ i,i < l'→Le (kf f p i) (kf f p k))→(∀ i,l'≤i→i < k→Le (kf f p k) (kf f p i))→Q l' s)→(kas_place p k fu l r).kasWp cmp Q s
 | 0,l,r,h1,h2,h3,h4,h5,q=>q l (by omega) h4 fun i a b=>h5 i (by omega) b
 | fu + 1,l,r,h1,h2,h3,h4,h5,q=>by
  unfold kas_place
  by_cases z:l≥r
  ·rw [if_pos z]
   exact q l (by omega) h4 fun i a b=>h5 i (by omega) b
  ·rw [if_neg z]
   refine hc _ _ _ (hp.lt hk) (hp.lt (by omega)) ?_
   show (if _ then _ else _:KasT _).kasWp cmp Q s
   cases c:HT.lexLt (f (p.getD k 0)) (f (p.getD ((l + r) / 2) 0)) with
   | true=>
    rw [if_pos rfl]
    exact lE hc hp hk u fu l ((l + r) / 2) (by omega) (by omega) (by omega) h4 (fun i a b=>Le.trans (Le.of_lt c) (u.le a b)) q
   | false=>
    rw [if_neg (by decide)]
    exact lE hc hp hk u fu ((l + r) / 2 + 1) r (by omega) (by omega) h3 (fun i a=>Le.trans (u.le (by omega) (by omega)) (show Le (kf f p ((l + r) / 2)) (kf f p k) from c)) h5 q
theorem Ac (hc:qO cmp n f s) {Q:Array Nat→Shared→Prop}:∀ (fu:Nat) (p:Array Nat) (k:Nat),Arr n p→k + fu = n→Up f p k→(∀ p',Arr n p'→Up f p' n→Q p' s)→(kas_bin fu p k).kasWp cmp Q s
 | 0,p,k,hp,h1,u,q=>q p hp (by rw [← h1]; exact u)
 | fu + 1,p,k,hp,h1,u,q=>by
  unfold kas_bin
  rw [KasT.kasWp_bind]
  refine lE hc hp (by omega) u k 0 k (by omega) (Nat.zero_le _) (Nat.le_refl _) (fun i h=>by omega) (fun i a b=>by omega) fun l hl lo hi=>?_
  have ek:∀ j,kf f (bubble p k (k - l)) j = if j = l then kf f p k else if l < j∧j≤k then kf f p (j - 1) else kf f p j:=fun j=>by
   have e:=getElem?_bubble (xs:=p) (src:=k) (by rw [hp.size]; omega) (k - l) (by omega) j
   have el:k - (k - l) = l:=by omega
   rw [el] at e
   by_cases a:j = l
   ·rw [if_pos a] at e ⊢; exact kf_at e
   ·rw [if_neg a] at e ⊢
    by_cases b:l < j∧j≤k
    ·rw [if_pos b] at e ⊢; exact kf_at e
    ·rw [if_neg b] at e ⊢; exact kf_at e
  refine Ac hc fu _ (k + 1) (hp.XY _ _) (by omega) (fun i xQ=>?_) q
  rw [ek,ek]
  by_cases a:i + 1 < l
  ·rw [if_neg (by omega),if_neg (by omega),if_neg (by omega),if_neg (by omega)]
   exact u i (by omega)
  ·by_cases b:i + 1 = l
   ·rw [if_neg (by omega),if_neg (by omega),if_pos b]
    exact lo i (by omega)
   ·by_cases c:i = l
    ·rw [if_pos c,if_neg (by omega),if_pos (by omega)]
     show Le (kf f p k) (kf f p (i + 1 - 1))
     rw [Nat.add_sub_cancel]
     exact hi i (by omega) (by omega)
    ·rw [if_neg c,if_pos (by omega),if_neg (by omega),if_pos (by omega)]
     have:i + 1 - 1 = (i - 1) + 1:=by omega
     rw [this]
     exact u (i - 1) (by omega)
theorem A1 (hc:qO cmp n f s) (h1:1≤n) {Q:Array Nat→Shared→Prop} (q:∀ p,Arr n p→Up f p n→Q p s):(kas_sort n).kasWp cmp Q s:=by
 unfold kas_sort
 rw [KasT.kasWp_bind]
 refine zX hc (p:=List.toArray (List.range n)) ⟨by simp,Array.Perm.refl _⟩ h1 fun m p hp a1 a2 u=>?_
 dsimp only
 by_cases z:m < n
 ·rw [if_pos z]
  have e:max m 1 = m:=by omega
  rw [e]
  exact Ac hc (n - m) p m hp (by omega) u q
 ·rw [if_neg z]
  have e:m = n:=by omega
  exact q p hp (e▸u)
end
end L2
end
section
namespace L2
open PySem PySem.Spec PySem.W PySem.Calls PyProof.Rows
theorem PM (n:Nat):Arr n (List.toArray (List.range n)):=⟨by simp,Array.Perm.refl _⟩
def fL (h:Heap) (vs:List Value) (f:Nat→List Int):Prop:=∀ i,i < vs.length→∃ b us,vs[i]? = some (.ref b)∧h.IsList b us∧IntsAre us.toList (f i)
theorem fL.keep {h h':Heap} {vs:List Value} {f:Nat→List Int} (r:fL h vs f) (k:∀ (i:Nat) (b:Addr),vs[i]? = some (.ref b)→∀ o,h.get? b = some o→h'.get? b = some o):fL h' vs f:=fun i hi=>by
 obtain ⟨b,us,e,l,q⟩:=r i hi
 exact ⟨b,us,e,l.at fun o z=>k i b e o z,q⟩
def fU (vs:List Value) (p:Array Nat):Array Value:=List.toArray (p.toList.map fun i=>vs.getD i Value.none)
theorem ot (vs:List Value):fU vs (List.toArray (List.range vs.length)) = vs.toArray:=by
 unfold fU
 congr 1
 apply List.ext_getElem?
 intro i
 rw [List.getElem?_map]
 by_cases h:i < vs.length
 ·simp [h]
 ·simp [h]
theorem uQ:∀ l:List Value,(l.zip l).map (fun x=>x.snd) = l
 | []=>rfl
 | x :: l=>by rw [List.zip_cons_cons,List.map_cons,uQ l]
def sr (h:Heap) (a:Addr) (vs:List Value):Heap:=((h.update a (Obj.mapSeq fun _=>#[])).push (seqObj "tuple" vs.toArray 0)).push (seqObj "list" #[] 0)
theorem Bv {h:Heap} {a:Addr} {vs:List Value} {b:Addr} {o:Obj} (hb:b≠a) (e:h.get? b = some o):(sr h a vs).get? b = some o:=by
 have l:=Heap.lt_size e
 unfold sr
 rw [Heap.get?_push_ne,Heap.get?_push_ne,Heap.get?_update_ne _ _ _ _ hb]
 ·exact e
 ·rw [Heap.size_update]; exact Nat.ne_of_lt l
 ·rw [size_push',Heap.size_update]; exact Nat.ne_of_lt (Nat.lt_succ_of_lt l)
section
variable {prog:Program} {w:World} {A:Around} {E:Value→Shared→Prop} {s:Shared} {vs:List Value} {f:Nat→List Int}
theorem Ce (hr:fL s.heap vs f) (hu:A.units < cLine):qO (kas_cmp prog w A oneType' (pairsOf vs)) vs.length f s:=by
 intro i j C hi hj c
 obtain ⟨b1,u1,e1,l1,q1⟩:=hr i hi
 obtain ⟨b2,u2,e2,l2,q2⟩:=hr j hj
 rw [← kas_ask_eq]
 unfold kas_ask
 have g1:vs.getD i Value.none = .ref b1:=by rw [List.getD_eq_getElem?_getD,e1]; rfl
 have g2:vs.getD j Value.none = .ref b2:=by rw [List.getD_eq_getElem?_getD,e2]; rfl
 rw [g1,g2,keyLt'_oneType]
 exact sd l1 l2 q1 q2 hu c
theorem A2 {a:Addr} {n:Nat} {P:PySem.Fin→Shared→Prop} (ho:s.heap.get? a = some (seqObj "list" vs.toArray n)) (JW:vs.length < 64) (hu:A.units < cLine) (hr:fL s.heap vs f) (gD:∀ (i:Nat) (b:Addr),vs[i]? = some (.ref b)→b≠a)
  (k:∀ p:Array Nat,Arr vs.length p→Up f p vs.length→P (.done (.ret .none)) { s with heap:=sortedHeap s.heap a vs (fU vs p) }) :
  wpAny (model prog w) A (Builtin.«list.sort» ⟨[.ref a],[]⟩) P E s:=by
 have Ee:vs.length≤sizeLine:=by rw [sizeLine_eq]; omega
 obtain ⟨ep,RE⟩:∃ ep,(s.heap.update a (Obj.mapSeq fun _=>#[])).get? a = some (seqObj "list" #[] ep):=⟨_,get?_update_seq ho (fun _=>#[])⟩
 have JP:(sr s.heap a vs).get? a = some (seqObj "list" #[] ep):=Heap.get?_push_of_some _ (Heap.get?_push_of_some _ RE)
 have r3:fL (sr s.heap a vs) vs f:=hr.keep fun i b e o z=>Bv (gD i b e) z
 rw [list_sort_plain]
 refine wpAny_bind (listItems_at ho rfl (wpAny_bind (listUpdate_at ho rfl (wpAny_bind (seqEpoch_at RE rfl (wpAny_bind (wpAny_newTuple (wpAny_bind (wpAny_newList (wpAny_holding ?_) (Nat.zero_le _))) Ee)))) (by rw [List.size_toArray]; exact Ee) (Nat.zero_le _))))
 show wpAny (model prog w) A _ P E { s with heap:=sr s.heap a vs }
 dsimp only
 by_cases h2:vs.toArray.size < 2
 ·rw [if_pos h2,if_pos h2]
  refine wpAny_bind (wpAny_pure ?_)
  rw [StateT.run_pure]
  refine wpAny_bind (wpAny_pure (wpAny_bind (seqEpoch_at JP rfl ?_)))
  have eo:(arrOf (SortSt.mk' general' (vs.toArray.zip vs.toArray) #[] 7 none)).map (·.2) = fU vs (List.toArray (List.range vs.length)):=by
   rw [ot]
   show (vs.toArray.zip vs.toArray).map (·.2) = vs.toArray
   apply Array.ext'
   simp
   exact uQ vs
  dsimp only
  rw [eo]
  refine wpAny_bind (listUpdate_at JP rfl ?_ (Nat.zero_le _) (by rw [ot,List.size_toArray]; exact Nat.le_succ_of_le Ee))
  simp only [bne_self_eq_false,Bool.false_eq_true,if_false]
  refine wpAny_pure (k _ (PM _) fun i hi=>?_)
  rw [List.size_toArray] at h2
  omega
 ·rw [if_neg h2,if_neg h2]
  have vW:2≤vs.length:=by rw [List.size_toArray] at h2; omega
  refine wpAny_bind (kas_kind (T:=.type "list") vW (fun v hv=>?_) rfl rfl ?_)
  ·obtain ⟨i,hi,rfl⟩:=List.mem_iff_getElem.mp hv
   obtain ⟨b,us,e,l,q⟩:=r3 i hi
   rw [List.getElem?_eq_getElem hi] at e
   rw [Option.some.inj e]
   obtain ⟨o,z1,z2,z3⟩:=l
   intro A' Q' E' s' kk qq
   exact wpAny_typeOf (T:= "list") ⟨o,kk _ _ z1,z2⟩ qq
  ·have Xf:SortSt.mk' oneType' (vs.toArray.zip vs.toArray) #[] 7 none = kas_st oneType' (pairsOf vs) (List.toArray (List.range vs.length)):=by
    have e:=kas_range (pairsOf vs)
    rw [pairsOf_size] at e
    unfold kas_st
    rw [e]
    rfl
   have run:=kas_runs (prog:=prog) (w:=w) (A:=A) (κ:=oneType') (it:=pairsOf vs) (E:=E) (Q:=fun _ yd s'=>s' = { s with heap:=sr s.heap a vs }∧∃ p:Array Nat,Arr vs.length p∧Up f p vs.length∧arrOf yd = p.map (kas_item (pairsOf vs))∧failedOf yd = none)
    (G:=fun p s'=>s' = { s with heap:=sr s.heap a vs }∧Arr vs.length p∧Up f p vs.length) vW JW (fun p' yd s' a1 a2 a3 a4=>⟨a4.1,p',a4.2.1,a4.2.2,a2,a3⟩) (A1 (Ce (s:={ s with heap:=sr s.heap a vs }) r3 hu) (by omega) fun p h1 h3=>⟨rfl,h1,h3⟩)
   rw [← Xf] at run
   refine wpAny_bind (wpAny_mono run ?_ fun _ _ e=>e)
   rintro ⟨⟨⟩,yd⟩ s' ⟨rfl,p,hp,Et,WT,hf⟩
   dsimp only
   have eo:(arrOf yd).map (·.2) = fU vs p:=by
    unfold fU
    apply Array.toList_inj.mp
    rw [WT,Array.map_map,Array.toList_map]
    refine List.map_congr_left fun i _=>?_
    rw [Function.comp_apply,kas_item_eq]
   rw [eo]
   have zo:(fU vs p).size = vs.length:=by unfold fU; rw [List.size_toArray,List.length_map,Array.length_toList,hp.size]
   refine wpAny_bind (seqEpoch_at JP rfl (wpAny_bind (listUpdate_at JP rfl ?_ (Nat.zero_le _) (by rw [zo]; exact Nat.le_succ_of_le Ee))))
   rw [hf]
   simp only [bne_self_eq_false,Bool.false_eq_true,if_false]
   exact wpAny_pure (k p hp Et)
theorem wI {l:Addr} {Q:Value→Shared→Prop} (hl:s.heap.IsList l vs.toArray) (JW:vs.length < 64) (hu:A.in1.in1.units < cLine) (hr:fL s.heap vs f)
  (k:∀ p:Array Nat,Arr vs.length p→Up f p vs.length→Q (.ref (s.heap.objs.size + 1)) { s with heap:=sortedAll s.heap vs (fU vs p) }) :
  wpAny (model prog w) A (call (.builtin "sorted") [.ref l]) Q E s:=by
 have Ee:vs.length≤sizeLine:=by rw [sizeLine_eq]; omega
 refine Calls.call_function_entry kind_sorted plain_sorted entry_sorted (args_sorted1 _) ?_
 unfold Builtin.«sorted»
 refine wpAny_bind (m:=checkCount "sorted" 1 1 _) (wpAny_pure (wpAny_bind (collect_list hl (wpAny_bind (wpAny_newList ?_ Ee)) Ee)))
 generalize hh:(s.heap.push (seqObj "list" #[] 0)).update s.heap.objs.size (Obj.mapSeq (· ++ vs.toArray)) = h1
 have z1:h1.objs.size = s.heap.objs.size + 1:=by rw [← hh,Heap.size_update,size_push']
 have o1:(h1.push (seqObj "list" vs.toArray 0)).get? (s.heap.objs.size + 1) = some (seqObj "list" vs.toArray 0):=by rw [← z1]; exact Heap.get?_push_size _ rfl
 have old:∀ b o,s.heap.get? b = some o→(h1.push (seqObj "list" vs.toArray 0)).get? b = some o:=fun b o q=>by
  have lt:=Heap.lt_size q
  rw [Heap.get?_push_ne _ _ _ (by rw [z1]; exact Nat.ne_of_lt (Nat.lt_succ_of_lt lt)),← hh,Heap.get?_update_ne _ _ _ _ (Nat.ne_of_lt lt),Heap.get?_push_ne _ _ _ (Nat.ne_of_lt lt)]
  exact q
 show wpAny _ _ _ _ _ { s with heap:=h1.push (seqObj "list" vs.toArray 0) }
 rw [z1]
 refine wpAny_bind (wpAny_holding (wpAny_call_entry slot_list_sort ⟨_,o1,rfl⟩ entry_list_sort (A2 (f:=f) o1 JW hu (hr.keep fun i b e o z=>old b o z) (fun i b e=>?_) fun p hp Et=>⟨_,rfl,?_⟩) (args_list_sort _)))
 ·obtain ⟨hi,_⟩:=List.getElem?_eq_some_iff.mp e
  obtain ⟨b',us,e',⟨o,z,_⟩,_⟩:=hr i hi
  rw [e] at e'
  cases e'
  exact Nat.ne_of_lt (Nat.lt_succ_of_lt (Heap.lt_size z))
 ·refine wpAny_pure ⟨_,rfl,?_⟩
  have:=k p hp Et
  unfold sortedAll at this
  rw [hh] at this
  exact this
end
end L2
end
section
namespace L2
open PySem PySem.Spec PySem.W PySem.Calls PyProof.Rows
section
variable {prog:Program} {w:World} {A:Around} {R:Result→Shared→Prop} {I:Addr} {fp wr:List Addr} {n:Nat} {P:Nat→Value→Prop} {St:Nat→Heap→Prop} {Kp:Heap→Prop} {bt:Nat→Nat→Bool} {S:Addr}
def Dd (prog:Program) (w:World) (A:Around) (P:Nat→Value→Prop) (Kp:Heap→Prop) (bt:Nat→Nat→Bool):Prop:=
 ∀ (i j:Nat) (x y:Value) (t:Shared) (Q E:Value→Shared→Prop),P i x→P j y→Kp t.heap→Q (.bool (bt i j)) t→wpAny (model prog w) A (richCompare .Lt x y) Q E t
theorem uq (W:Walks prog w A.in1 I fp wr n P St) (hc:Dd prog w A.in1 P Kp bt) (nf:S∉fp) (iu:∀ h h',Kp h→(∀ b o,b∉wr→b≠S→h.get? b = some o→h'.get? b = some o)→Kp h') :
  ∀ (k j:Nat) (t:Shared) (x:Value) (c:Nat),n - (j + 1) = k→j + 1≤n→St (j + 1) t.heap→Kp t.heap→P (argBest bt j) x→t.heap.get? S = some { cls:=.type "list",dict:=none,data:=.seq #[x,x] c,slots:=#[] }→
  (∀ v h' tk,P (argBest bt (n - 1)) v→(∀ b o,b∉wr→b≠S→t.heap.get? b = some o→h'.get? b = some o)→R (.ok (.ret v)) { t with heap:=h',toks:=tk })→codeAny (model prog w) A (.builtin "min.loop" ⟨[.ref I,.none,.ref S],[]⟩) R t:=by
 have nw:S∉wr:=fun z=>nf (W.sub _ z)
 have nm:(toString "min" ++ toString ".loop" : String) = "min.loop":=by decide
 intro k
 induction k with
 | zero=>
  intro j t x c hk hj st kp px hS hR
  have jn:j + 1 = n:=by omega
  refine codeAny_builtin F.entry_min_loop ?_
  rw [Around.under_plainId F.plain_min_loop _]
  show wpAny _ A.in1 (seqItems? (.ref S) >>= _) _ _ t
  refine wpAny_bind (wpAny_seqItems hS rfl ?_)
  show wpAny _ A.in1 (tryCatch (pyNext (.ref I)) _ >>= _) _ _ t
  refine wpAny_bind (wpAny_tryCatch (W.done t _ _ (jn▸st) fun h' tk kk=>?_))
  have tF:=kk S _ nw hS
  show wpAny _ A.in1 (updateSeq S (fun _=>#[]) >>= _) _ _ _
  refine wpAny_bind (wpAny_updateSeq tF rfl (wpAny_bind (wpAny_letGo (wpAny_pure (hR x _ tk (by rw [← jn]; exact px) fun b o b1 b2 e=>?_)))))
  rw [Heap.get?_update_other _ _ (Ne.symm b2)]
  exact kk b o b1 e
 | succ k ih=>
  intro j t x c hk hj st kp px hS hR
  have lt:j + 1 < n:=by omega
  refine codeAny_builtin F.entry_min_loop ?_
  rw [Around.under_plainId F.plain_min_loop _]
  show wpAny _ A.in1 (seqItems? (.ref S) >>= _) _ _ t
  refine wpAny_bind (wpAny_seqItems hS rfl ?_)
  show wpAny _ A.in1 (tryCatch (pyNext (.ref I)) _ >>= _) _ _ t
  refine wpAny_bind (wpAny_tryCatch (W.item (j + 1) t _ _ lt st fun v h' tk pv Fg kk=>?_))
  have tF:=kk S _ nw hS
  have GY:Kp h':=iu _ _ kp fun b o b1 _ e=>kk b o b1 e
  show wpAny _ A.in1 (tryCatch (holding [v,v] (richCompare .Lt v x >>= _)) _ >>= _) _ _ _
  refine wpAny_bind (wpAny_tryCatch (wpAny_holding (wpAny_bind (hc (j + 1) (argBest bt j) v x _ _ _ pv px GY (wpAny_bind (wpAny_holding (wpAny_truthy_bool (wpAny_bind (wpAny_letGo (wpAny_pure ?_))))))))))
  cases hb:bt (j + 1) (argBest bt j) with
  | true=>
   simp only [if_true]
   refine wpAny_bind (wpAny_updateSeq tF rfl (wpAny_bind (wpAny_letGo ?_)))
   rw [nm]
   have up:∀ b o,b≠S→h'.get? b = some o→(h'.update S (Obj.mapSeq fun _=>#[v,v])).get? b = some o:=fun b o b2 e=>by rw [Heap.get?_update_other _ _ (Ne.symm b2)]; exact e
   refine wpAny_pure ⟨plainId_quiet F.plain_min_loop _,ih (j + 1) _ v _ (by omega) lt (W.frame _ _ _ Fg fun b bf o e=>up b o (fun z=>nf (z▸bf)) e) (iu _ _ GY fun b o _ b2 e=>up b o b2 e) (by simp only [argBest,hb,if_true]; exact pv) (Heap.get?_update_self _ tF rfl) fun v2 h2 FV p2 k2=>?_⟩
   exact hR v2 h2 FV p2 fun b o b1 b2 e=>k2 b o b1 b2 (up b o b2 (kk b o b1 e))
  | false=>
   simp only [Bool.false_eq_true,if_false]
   refine wpAny_bind (wpAny_letGo ?_)
   rw [nm]
   exact wpAny_pure ⟨plainId_quiet F.plain_min_loop _,ih (j + 1) _ x c (by omega) lt Fg GY (by simp only [argBest,hb,Bool.false_eq_true,if_false]; exact px) tF fun v2 h2 FV p2 k2=>hR v2 h2 FV p2 fun b o b1 b2 e=>k2 b o b1 b2 (kk b o b1 e)⟩
theorem sE (W:Walks prog w A.in1 I fp wr n P St) (hc:Dd prog w A.in1 P Kp bt) (nf:S∉fp) (iu:∀ h h',Kp h→(∀ b o,b∉wr→b≠S→h.get? b = some o→h'.get? b = some o)→Kp h') (n0:0 < n)
  {t:Shared} {c:Nat} (st:St 0 t.heap) (kp:Kp t.heap) (hS:t.heap.get? S = some { cls:=.type "list",dict:=none,data:=.seq #[] c,slots:=#[] })
  (hR:∀ v h' tk,P (argBest bt (n - 1)) v→(∀ b o,b∉wr→b≠S→t.heap.get? b = some o→h'.get? b = some o)→R (.ok (.ret v)) { t with heap:=h',toks:=tk }):codeAny (model prog w) A (.builtin "min.loop" ⟨[.ref I,.none,.ref S],[]⟩) R t:=by
 have nw:S∉wr:=fun z=>nf (W.sub _ z)
 have nm:(toString "min" ++ toString ".loop" : String) = "min.loop":=by decide
 refine codeAny_builtin F.entry_min_loop ?_
 rw [Around.under_plainId F.plain_min_loop _]
 show wpAny _ A.in1 (seqItems? (.ref S) >>= _) _ _ t
 refine wpAny_bind (wpAny_seqItems hS rfl ?_)
 show wpAny _ A.in1 (tryCatch (pyNext (.ref I)) _ >>= _) _ _ t
 refine wpAny_bind (wpAny_tryCatch (W.item 0 t _ _ n0 st fun v h' tk pv Fg kk=>?_))
 have tF:=kk S _ nw hS
 show wpAny _ A.in1 (updateSeq S (fun _=>#[v,v]) >>= _) _ _ _
 refine wpAny_bind (wpAny_updateSeq tF rfl ?_)
 rw [nm]
 have up:∀ b o,b≠S→h'.get? b = some o→(h'.update S (Obj.mapSeq fun _=>#[v,v])).get? b = some o:=fun b o b2 e=>by rw [Heap.get?_update_other _ _ (Ne.symm b2)]; exact e
 have GY:Kp h':=iu _ _ kp fun b o b1 _ e=>kk b o b1 e
 exact wpAny_pure ⟨plainId_quiet F.plain_min_loop _,uq W hc nf iu _ 0 _ v _ rfl n0 (W.frame _ _ _ Fg fun b bf o e=>up b o (fun z=>nf (z▸bf)) e) (iu _ _ GY fun b o _ b2 e=>up b o b2 e) pv (Heap.get?_update_self _ tF rfl)
  fun v2 h2 FV p2 k2=>hR v2 h2 FV p2 fun b o b1 b2 e=>k2 b o b1 b2 (up b o b2 (kk b o b1 e))⟩
end
theorem wj (f:Nat→List Int):∀ k,argBest (fun i j=>HT.lexLt (f i) (f j)) k≤k∧∀ j,j≤k→Le (f (argBest (fun i j=>HT.lexLt (f i) (f j)) k)) (f j)
 | 0=>⟨Nat.le_refl _,fun j hj=>by
                    obtain rfl:j = 0:=by omega
                    exact Le.refl _⟩
 | k + 1=>by
  obtain ⟨h1,h2⟩:=wj f k
  unfold argBest
  cases q:HT.lexLt (f (k + 1)) (f (argBest (fun i j=>HT.lexLt (f i) (f j)) k)) with
  | true=>
   rw [if_pos rfl]
   refine ⟨Nat.le_refl _,fun j hj=>?_⟩
   by_cases e:j = k + 1
   ·rw [e]; exact Le.refl _
   ·exact Le.trans (Le.of_lt q) (h2 j (by omega))
  | false=>
   rw [if_neg (by decide)]
   refine ⟨by omega,fun j hj=>?_⟩
   by_cases e:j = k + 1
   ·rw [e]; exact q
   ·exact h2 j (by omega)
section
variable {prog:Program} {w:World} {A:Around} {E:Value→Shared→Prop} {s:Shared} {vs:List Value} {f:Nat→List Int} {l:Addr}
theorem zk {Q:Value→Shared→Prop} (hh:A.handled = none) (hl:s.heap.IsList l vs.toArray) (hu:A.in1.units < cLine) (hr:fL s.heap vs f) (h0:0 < vs.length)
  (k:∀ (i:Nat) (v:Value) h' tk,vs[i]? = some v→(∀ j,j < vs.length→Le (f i) (f j))→(∀ b o,s.heap.get? b = some o→h'.get? b = some o)→Q v { s with heap:=h',toks:=tk }) :
  wpAny (model prog w) A (call (.builtin "min") [.ref l]) Q E s:=by
 have nm:(toString "min" ++ toString ".loop" : String) = "min.loop":=by decide
 have ll:l < s.heap.objs.size:=by obtain ⟨_,e,_⟩:=id hl; exact Heap.lt_size e
 have low:∀ (i:Nat) (b:Addr),vs[i]? = some (.ref b)→b < s.heap.objs.size:=fun i b e=>by
  obtain ⟨b',us,e',⟨o,z,_⟩,_⟩:=hr i (List.getElem?_eq_some_iff.mp e).1
  rw [e] at e'
  cases e'
  exact Heap.lt_size z
 refine call_function_tree F.kind_min F.plain_min F.entry_min (F.args_min1 _) ?_
 show wpAny _ A.in1 (Builtin.Builtins.bindParams "min" ["key", "default"] 0 ⟨[],[]⟩ >>= _) _ _ s
 refine wpAny_bind (wpAny_of_eq (show Builtin.Builtins.bindParams "min" ["key", "default"] 0 ⟨[],[]⟩ = pure [none,none] from rfl) (wpAny_bind (wpAny_pure (wpAny_bind (wpAny_pyIter_list hl (wpAny_bind (wpAny_newObj_type ?_)))))))
 rw [nm]
 generalize hg:s.heap.push { cls:=.type "list_iterator",data:=.fields #[.ref l,.int 0 0] } = g
 have zg:g.objs.size = s.heap.objs.size + 1:=by rw [← hg,Heap.size_push]
 have og:∀ b o,s.heap.get? b = some o→g.get? b = some o:=fun b o e=>hg▸Heap.get?_push_of_some _ e
 have il:g.IsListIter s.heap.objs.size l 0:=hg▸⟨_,Heap.get?_push_size _ rfl,rfl,rfl⟩
 refine wpAny_pure ⟨plainId_quiet F.plain_min_loop _,sE (Kp:=fun h=>fL h vs f) (bt:=fun i j=>HT.lexLt (f i) (f j)) (W:=Walks.list (A:=A.in1) hh s.heap.objs.size l (Nat.ne_of_lt ll) vs.toArray) (S:=g.objs.size)
  (fun i j x y t Q' E' px py kp q=>?_) (fun z=>?_) (fun h h' r kk=>?_) (by simpa using h0) ⟨il.at fun o e=>Heap.get?_push_of_some _ e,hl.at fun o e=>Heap.get?_push_of_some _ (og _ _ e)⟩ (hr.keep fun i b _ o e=>Heap.get?_push_of_some _ (og _ _ e)) (Heap.get?_push_size _ rfl) fun v h' tk pv kk=>?_⟩
 ·have Q2:vs[i]? = some x:=by simpa using px
  have Q1:vs[j]? = some y:=by simpa using py
  obtain ⟨b1,u1,e1,l1,q1⟩:=kp i (List.getElem?_eq_some_iff.mp Q2).1
  obtain ⟨b2,u2,e2,l2,q2⟩:=kp j (List.getElem?_eq_some_iff.mp Q1).1
  rw [Q2] at e1
  rw [Q1] at e2
  cases e1
  cases e2
  exact y6 l1 l2 q1 q2 hu q
 ·have:g.objs.size = s.heap.objs.size∨g.objs.size = l:=by simpa using z
  rcases this with e | e
  ·exact absurd (zg.symm.trans e) (Nat.succ_ne_self _)
  ·exact absurd (zg.symm.trans e) (Nat.ne_of_gt (Nat.lt_succ_of_lt ll))
 ·refine r.keep fun i b e o z=>kk b o (fun y=>?_) (fun y=>?_) z
  ·have:b = s.heap.objs.size:=by simpa using y
   exact absurd (low i b e) (by rw [this]; exact Nat.lt_irrefl _)
  ·exact absurd (low i b e) (by rw [y,zg]; exact Nat.lt_asymm (Nat.lt_succ_self _))
 ·have Uk:vs[argBest (fun i j=>HT.lexLt (f i) (f j)) (vs.length - 1)]? = some v:=by simpa using pv
  have bl:=wj f (vs.length - 1)
  refine k _ v h' tk Uk (fun j hj=>bl.2 j (by omega)) fun b o e=>kk b o ?_ ?_ (Heap.get?_push_of_some _ (og b o e))
  ·intro z
   have:b = s.heap.objs.size:=by simpa using z
   exact absurd (Heap.lt_size e) (by rw [this]; exact Nat.lt_irrefl _)
  ·intro z
   exact absurd (Heap.lt_size e) (by rw [z,zg]; exact Nat.lt_asymm (Nat.lt_succ_self _))
end
theorem qZ:∀ (l:List Int) (x:Int),(l ++ [x]).sum = l.sum + x
 | [],x=>by simp
 | y :: l,x=>by rw [List.cons_append,List.sum_cons,List.sum_cons,qZ l x]; omega
theorem oz:∀ (l:List Int) (y:Int) (m:Nat) (h:m < l.length),m < l.idxOf y→l[m]≠y
 | [],_,m,h,_=>by simp at h
 | z :: l,y,m,h,hm=>by
  rw [List.idxOf_cons] at hm
  by_cases e:z = y
  ·rw [e] at hm; simp at hm
  ·have e2:(z == y) = false:=beq_false_of_ne e
   rw [e2] at hm
   cases m with
   | zero=>exact e
   | succ m=>
    have h2:m < l.length:=by simpa using h
    have h3:m < l.idxOf y:=by simpa using hm
    exact oz l y m h2 h3
section
variable {X:Cx}
theorem u6 {pins:List (Addr×Obj)} {σ : St} {H:Hp} {s:Shared} (I:Inv X pins σ H s):∀ {as:List Addr} {L:List (List Int)} {aL:List Value},Vals (as.map V.ref) aL→as.length = L.length→(∀ (i:Nat) (a:Addr) (l:List Int),as[i]? = some a→L[i]? = some l→aD X.K H a (l.map V.int))→fL s.heap aL (fun i=>L.getD i []):=by
 intro as L aL rv hl hs i hi
 have z:=rv.length
 rw [List.length_map] at z
 have ha:i < as.length:=by omega
 have hL:i < L.length:=by omega
 obtain ⟨u,hu,ru⟩:=rv.get (i:=i) (show (as.map V.ref)[i]? = some (V.ref as[i]) by simp [ha])
 cases ru
 obtain ⟨rs,rr,rp,_⟩:=I.list (hs i as[i] L[i] (by simp [ha]) (by simp [hL]))
 refine ⟨as[i],rs.toArray,hu,rp.isList,?_⟩
 have e:L.getD i [] = L[i]:=by simp [hL]
 dsimp only
 rw [e]
 exact intsAre_of rr
def pick {α : Type} (d : α) (L:List α) (p:Array Nat):List α:=p.toList.map fun i=>L.getD i d
def yG (K:Frag):List V→Hp→VK→Prop:=fun vs H Q=>∃ (a:Addr) (as:List Addr) (L:List (List Int)),vs = [.ref a]∧aD K H a (as.map V.ref)∧as.length = L.length∧(∀ (i:Nat) (b:Addr) (l:List Int),as[i]? = some b→L[i]? = some l→aD K H b (l.map V.int))∧as.length < 64∧
 ∀ (p:Array Nat) (q:Addr),Arr L.length p→Up (fun i=>L.getD i []) p L.length→H q = none→Q (.ref q) (upd H q (.lst ((pick 0 as p).map V.ref)))
theorem qA (hu:X.A.units + 64 < cLine):fH X (.builtin "sorted") (yG X.K):=by
 intro pins s σ H xs us Q I r h
 obtain ⟨a,as,L,rfl,ha,hl,hs,JW,q⟩:=h
 obtain ⟨u,rfl,ru⟩:=vals1 r
 cases ru
 obtain ⟨aL,rv,pl,hz⟩:=I.list ha
 have z:=rv.length
 rw [List.length_map] at z
 refine wI (f:=fun i=>L.getD i []) pl.isList (by omega) (by simp only [Around.in1_units]; omega) (u6 I rv hl hs) fun p hp Et=>?_
 obtain ⟨ep,k1⟩:=sortedAll_at s.heap aL (fU aL p)
 have Ha:Arr L.length p:=by rw [← hl,z]; exact hp
 have Fw:((pick 0 as p).map V.ref).length≤sizeLine:=by unfold pick; rw [List.length_map,List.length_map,Array.length_toList,hp.size,PySem.sizeLine_eq]; omega
 have T3:Vals ((pick 0 as p).map V.ref) (fU aL p).toList:=by
  have go:∀ l:List Nat,(∀ i∈l,i < aL.length)→Vals ((l.map fun i=>as.getD i 0).map V.ref) (l.map fun i=>aL.getD i Value.none):=by
   intro l
   induction l with
   | nil=>intro _; exact .nil
   | cons i l ih=>
    intro h
    refine .cons ?_ (ih fun j hj=>h j (List.mem_cons_of_mem _ hj))
    have hi:=h i List.mem_cons_self
    have xQ:i < as.length:=by omega
    obtain ⟨u,hu,ru⟩:=rv.get (i:=i) (show (as.map V.ref)[i]? = some (V.ref as[i]) by simp [xQ])
    have e1:as.getD i 0 = as[i]:=by simp [xQ]
    have e2:aL.getD i Value.none = u:=by rw [List.getD_eq_getElem?_getD,hu]; rfl
    dsimp only
    rw [e1,e2]
    exact ru
  refine go _ fun i hi=>?_
  have:=(hp.perm.mem_iff).mp (Array.mem_toList_iff.mp hi)
  simpa using this
 have new:bP X.prog X.w (upd H (s.heap.objs.size + 1) (.lst ((pick 0 as p).map V.ref))) (sortedAll s.heap aL (fU aL p)) (s.heap.objs.size + 1) (.lst ((pick 0 as p).map V.ref)):=⟨Fw,(fU aL p).toList,ep,T3,by simpa [seqObj] using k1⟩
 exact ⟨.ref (s.heap.objs.size + 1),_,I.laid (t':=s.toks) (fun b o e=>sortedAll_old e) (Nat.le_succ _) new,rfl,q p _ Ha (by rw [← hl,z]; exact Et) (I.bS.fresh (Nat.le_succ _))⟩
def Gy (K:Frag):List V→Hp→VK→Prop:=fun vs H Q=>∃ (a:Addr) (as:List Addr) (L:List (List Int)),vs = [.ref a]∧aD K H a (as.map V.ref)∧as.length = L.length∧(∀ (i:Nat) (b:Addr) (l:List Int),as[i]? = some b→L[i]? = some l→aD K H b (l.map V.int))∧0 < as.length∧
 ∀ (i:Nat) (b:Addr) (l:List Int),as[i]? = some b→L[i]? = some l→(∀ m∈L,Le l m)→Q (.ref b) H
theorem oG (hc:X.calm = true) (hu:X.A.units + 64 < cLine):fH X (.builtin "min") (Gy X.K):=by
 intro pins s σ H xs us Q I r h
 obtain ⟨a,as,L,rfl,ha,hl,hs,h0,q⟩:=h
 obtain ⟨u,rfl,ru⟩:=vals1 r
 cases ru
 obtain ⟨aL,rv,pl,hz⟩:=I.list ha
 have z:=rv.length
 rw [List.length_map] at z
 refine zk (f:=fun i=>L.getD i []) (I.ok.hd hc) pl.isList (by simp only [Around.in1_units]; omega) (u6 I rv hl hs) (by omega) fun i v h' tk hv hle kk=>?_
 have hi:i < aL.length:=(List.getElem?_eq_some_iff.mp hv).1
 have xQ:i < as.length:=by omega
 have RL:i < L.length:=by omega
 obtain ⟨u,hu,ru⟩:=rv.get (i:=i) (show (as.map V.ref)[i]? = some (V.ref as[i]) by simp [xQ])
 rw [hv] at hu
 cases hu
 cases ru
 refine ⟨.ref as[i],H,I.kept kk,rfl,q i as[i] L[i] (by simp [xQ]) (by simp [RL]) fun m hm=>?_⟩
 obtain ⟨j,hj,rfl⟩:=List.mem_iff_getElem.mp hm
 have:=hle j (by omega)
 have e1:L.getD i [] = L[i]:=by simp [RL]
 have e2:L.getD j [] = L[j]:=by simp [hj]
 rw [e1,e2] at this
 exact this
def Gz (K:Frag):List V→Hp→VK→Prop:=fun vs H Q=>∃ (a:Addr) (ns:List Int),vs = [.ref a]∧aD K H a (ns.map V.int)∧ns≠[]∧∀ m,m∈ns→(∀ x∈ns,m≤x)→Q (.int m) H
theorem xC (hc:X.calm = true):fH X (.builtin "min") (Gz X.K):=by
 intro pins s σ H xs us Q I r h
 obtain ⟨a,ns,rfl,ha,h0,q⟩:=h
 obtain ⟨u,rfl,ru⟩:=vals1 r
 cases ru
 obtain ⟨aL,rv,pl,hz⟩:=I.list ha
 have hi:IntsAre aL ns:=intsAre_of rv
 obtain ⟨xs,e⟩:=hi.allInts.items
 have Av:ns = xs.toList.map (·.1):=by rw [← hi.numsOf,← nums_intItems,← e]
 have hl:=pl.isList
 rw [e] at hl
 have h1:0 < xs.size:=by
  have:=List.length_pos_iff.mpr h0
  rw [Av,List.length_map,Array.length_toList] at this
  exact this
 refine min_intList (I.ok.hd hc) hl h1 fun v h' tk hv kk=>?_
 obtain ⟨t,rfl⟩:=intItems_at hv
 obtain ⟨g1,g2⟩:=argBest_lt (numAt xs) (xs.size - 1)
 refine ⟨.int _,H,I.kept kk,⟨t,rfl⟩,q _ ?_ fun x hx=>?_⟩
 ·rw [Av,numAt_eq]; exact getD_mem (by rw [List.length_map,Array.length_toList]; omega)
 ·rw [Av] at hx
  obtain ⟨j,hj,rfl⟩:=mem_getD hx
  rw [List.length_map,Array.length_toList] at hj
  rw [← numAt_eq]
  exact g2 j (by omega)
def T7 (K:Frag):List V→Hp→VK→Prop:=fun vs H Q=>∃ (a:Addr) (ns:List Int),vs = [.ref a]∧aD K H a (ns.map V.int)∧ns.length≤1000∧(∀ x∈ns,0≤x∧x≤100000)∧Q (.int ns.sum) H
def DI (K:Frag):V→List V→Hp→VK→Prop:=fun x vs H Q=>∃ (l:Addr) (ns:List Int) (y:Int),x = .ref l∧vs = [.int y]∧H l = some (.lst (ns.map V.int))∧y∈ns∧Q (.int (ns.idxOf y:Nat)) H
theorem fV:FK X "list.index" (DI X.K):=by
 intro pins s σ H x vs v us Q I rx rv h
 obtain ⟨l,ns,y,rfl,rfl,hH,hy,q⟩:=h
 cases rx
 obtain ⟨u,rfl,t,rfl⟩:=rv.one
 obtain ⟨z,aL,n,r,hl,e⟩:=I.nj hH
 have hi:IntsAre aL ns:=intsAre_of r
 have zl:=hi.length
 have RV:=gZ
 have hj:ns.idxOf y < ns.length:=List.idxOf_lt_length_of_mem hy
 rw [List.length_map] at z
 let ev:Value→Bool:=fun v=>match v with | .int i _=>i == y | _=>false
 have at_:∀ m (hm:m < ns.length),∃ t,aL[m]? = some (.int ns[m] t):=fun m hm=>ju hi hm
 refine call_meets F.slot_list_index ⟨_,e,rfl⟩ F.entry_list_index (F.args_list_index_2 _ _) (SeqAt.list_indexAt l aL.toArray n none #[] (.int y t) ev (ns.idxOf y) (by rw [List.size_toArray]; omega) (by omega) ?_ ?_) ⟨e,?_,?_⟩
 ·obtain ⟨t1,e1⟩:=at_ _ hj
  have:aL.toArray[ns.idxOf y]'(by rw [List.size_toArray]; omega) = .int ns[ns.idxOf y] t1:=by
   have:=(List.getElem?_eq_some_iff.mp e1).2
   simpa using this
  rw [this]
  show (ns[ns.idxOf y] == y) = true
  rw [List.getElem_idxOf hj]
  simp
 ·intro m hm eG
  obtain ⟨t1,e1⟩:=at_ m (by omega)
  have:aL.toArray[m] = .int (ns[m]'(by omega)) t1:=by
   have:=(List.getElem?_eq_some_iff.mp e1).2
   simpa using this
  rw [this]
  show (ns[m]'(by omega) == y) = false
  exact beq_false_of_ne (oz ns y m (by omega) eG)
 ·intro w hw
  have V9:w∈aL:=by simpa using hw
  obtain ⟨m,hm,rfl⟩:=List.mem_iff_getElem.mp V9
  obtain ⟨t1,e1⟩:=at_ m (by omega)
  rw [(List.getElem?_eq_some_iff.mp e1).2]
  exact SeqAt.EqAt.int_int _ _ _ _
 ·exact ⟨.int (ns.idxOf y:Nat),H,I.tok _,⟨_,rfl⟩,q⟩
end
section
variable {X:Cx} {K:Frag}
theorem rN (h:X.K = K):Ql X (wM K):=h▸fY
end
end L2
end
section
namespace Gm
open PySem L2
def cy (r:List Int) (j:Nat):Int:=r.getD (j % r.length) 0
theorem cw {r:List Int} {i j:Nat} (h:i % r.length = j % r.length):cy r i = cy r j:=by unfold cy; rw [h]
theorem dk {r:List Int} {j:Nat} (h:j < r.length):cy r j = r[j]:=by unfold cy; rw [Nat.mod_eq_of_lt h]; simp [h]
theorem gp {r:List Int} {j:Nat} (h:0 < r.length):cy r j∈r:=by
 have hm:=Nat.mod_lt j h
 have:cy r j = r[j % r.length]:=by unfold cy; simp [hm]
 rw [this]; exact List.getElem_mem _
theorem gu {r:List Int} {i:Int} {j:Nat} (h1 : -(r.length:Int)≤i) (h2:i < r.length) (e:(j:Int) = i∨(j:Int) = i + r.length):kU (r.map V.int) i = some (V.int (cy r j)):=by
 unfold kU Aq
 rw [List.length_map]
 by_cases h0:0≤i
 ·rw [if_pos h0,if_pos h2]
  have hi:i.toNat < r.length:=by omega
  have em:j % r.length = i.toNat:=by
   rcases e with e | e
   ·rw [Nat.mod_eq_of_lt (by omega)]; omega
   ·have:j = i.toNat + r.length:=by omega
    rw [this,Nat.add_mod_right,Nat.mod_eq_of_lt hi]
  show (r.map V.int)[i.toNat]? = _
  unfold cy
  rw [em]
  simp [hi]
 ·rw [if_neg h0,if_pos h1]
  have hj:(i + (r.length:Int)).toNat = j:=by omega
  have hl:j < r.length:=by omega
  show (r.map V.int)[(i + (r.length:Int)).toNat]? = _
  rw [hj,dk hl]
  simp [hl]
theorem uK {r q:List Int} (hl:r.length = q.length) (h:∀ j,cy r j = cy q j):r = q:=by
 refine List.ext_getElem hl fun i h1 h2=>?_
 have:=h i
 rw [dk h1,dk h2] at this
 exact this
def bM (r:List Int) (k:Nat):List Int:=r.drop k ++ r.take k
theorem bF {r:List Int} {k:Nat} (h:k≤r.length):(bM r k).length = r.length:=by unfold bM; simp; omega
theorem nF {a b n:Nat} (ha:a < n) (hb:b < n):(a + b) % n = if a + b < n then a + b else a + b - n:=by
 by_cases h:a + b < n
 ·rw [if_pos h,Nat.mod_eq_of_lt h]
 ·rw [if_neg h,Nat.mod_eq_sub_mod (by omega),Nat.mod_eq_of_lt (by omega)]
theorem dW {r:List Int} {k:Nat} (h:k < r.length) (j:Nat):cy (bM r k) j = cy r (j + k):=by
 have hm:=Nat.mod_lt j (show 0 < r.length by omega)
 have e:(j + k) % r.length = if j % r.length + k < r.length then j % r.length + k else j % r.length + k - r.length:=by
  rw [← nF hm h,Nat.mod_add_mod]
 unfold cy
 rw [bF (by omega),e]
 unfold bM
 rw [List.getD_eq_getElem?_getD,List.getD_eq_getElem?_getD]
 congr 1
 by_cases c:j % r.length + k < r.length
 ·rw [if_pos c,List.getElem?_append_left (by rw [List.length_drop]; omega),List.getElem?_drop,Nat.add_comm]
 ·rw [if_neg c,List.getElem?_append_right (by rw [List.length_drop]; omega),List.length_drop,List.getElem?_take,if_pos (by omega)]
  congr 1
  omega
theorem kC {r:List Int} {k i:Nat} (hk:k < r.length) (hi:i < r.length):bM (bM r k) i = bM r ((i + k) % r.length):=by
 have hl:(bM r k).length = r.length:=bF (by omega)
 have hm:=Nat.mod_lt (i + k) (show 0 < r.length by omega)
 refine uK (by rw [bF (by rw [hl]; omega),hl,bF (by omega)]) fun j=>?_
 rw [dW (by rw [hl]; exact hi),dW hk,dW hm]
 refine cw ?_
 rw [Nat.add_assoc,Nat.add_mod_mod]
abbrev aj:=Int×Int
def rowOf (L:List (List Int)) (a:Int):List Int:=L.getD a.toNat []
def pre (l:List Int) (x:Int):Int:=cy l (l.idxOf x + l.length - 1)
structure Dt (L:List (List Int)) (d:aj):Prop where
 lo:0≤d.1
 hi:d.1 < L.length
 mem:d.2∈rowOf L d.1
def nx (L:List (List Int)) (d:aj):aj:=(d.2,pre (rowOf L d.2) d.1)
theorem aq {L:List (List Int)} {a:Int} (h0:0≤a) (h1:a < L.length):L[a.toNat]? = some (rowOf L a):=by
 unfold rowOf
 have:a.toNat < L.length:=by omega
 simp [this]
theorem Bl {l:List Int} {x:Int} (h:x∈l):pre l x∈l:=gp (List.length_pos_of_mem h)
theorem md {i n:Nat} (h:i < n):(i + n - 1) % n = if i = 0 then n - 1 else i - 1:=by
 by_cases e:i = 0
 ·rw [if_pos e,e,Nat.zero_add,Nat.mod_eq_of_lt (by omega)]
 ·rw [if_neg e]
  have:i + n - 1 = (i - 1) + n:=by omega
  rw [this,Nat.add_mod_right,Nat.mod_eq_of_lt (by omega)]
theorem vA {l:List Int} {x y:Int} (n:l.Nodup) (hx:x∈l) (hy:y∈l) (h:pre l x = pre l y):x = y:=by
 have ix:=List.idxOf_lt_length_of_mem hx
 have iy:=List.idxOf_lt_length_of_mem hy
 have p0:0 < l.length:=by omega
 unfold pre cy at h
 have mx:=Nat.mod_lt (l.idxOf x + l.length - 1) p0
 have my:=Nat.mod_lt (l.idxOf y + l.length - 1) p0
 have e1:l.getD ((l.idxOf x + l.length - 1) % l.length) 0 = l[(l.idxOf x + l.length - 1) % l.length]:=by simp [mx]
 have e2:l.getD ((l.idxOf y + l.length - 1) % l.length) 0 = l[(l.idxOf y + l.length - 1) % l.length]:=by simp [my]
 rw [e1,e2] at h
 have e:=(List.getElem_inj n).mp h
 rw [md ix,md iy] at e
 have ei:l.idxOf x = l.idxOf y:=by split at e <;> split at e <;> omega
 have g1:=List.getElem_idxOf ix
 have g2:=List.getElem_idxOf iy
 rw [← g1,← g2]
 congr 1
theorem wo {l:List Int} {x:Int} (h:x∈l):kU (l.map V.int) ((l.idxOf x:Int) - 1) = some (V.int (pre l x)):=by
 have ix:=List.idxOf_lt_length_of_mem h
 exact gu (by omega) (by omega) (.inr (by omega))
section
variable {L:List (List Int)} {d e:aj}
theorem Dt.back (h:Dt L d) (m:aw L):0≤d.2∧d.2 < L.length∧d.2≠d.1∧d.1∈rowOf L d.2:=by
 have r:=aq h.lo h.hi
 have g:=m.rg _ _ r _ h.mem
 have e1:((d.1.toNat:Nat):Int) = d.1:=Int.toNat_of_nonneg h.lo
 refine ⟨g.1,g.2.1,by rw [e1] at g; exact g.2.2,?_⟩
 have:=m.sy _ _ r _ h.mem d.2.toNat (by omega) _ (aq g.1 g.2.1)
 rwa [e1] at this
theorem Dt.nx (h:Dt L d) (m:aw L):Dt L (nx L d):=by
 obtain ⟨a,b,c,f⟩:=h.back m
 exact ⟨a,b,Bl f⟩
theorem dA (m:aw L) (h1:Dt L d) (h2:Dt L e) (h:Gm.nx L d = Gm.nx L e):d = e:=by
 obtain ⟨a,b,c,f⟩:=h1.back m
 obtain ⟨a',b',c',f'⟩:=h2.back m
 unfold Gm.nx at h
 have e2:d.2 = e.2:=congrArg Prod.fst h
 have e3:pre (rowOf L d.2) d.1 = pre (rowOf L e.2) e.1:=congrArg Prod.snd h
 rw [← e2] at e3 f'
 exact Prod.ext (vA (m.nd _ _ (aq a b)) f f' e3) e2
def cT (L:List (List Int)):Nat→List aj
 | 0=>[]
 | k + 1=>cT L k ++ (rowOf L k).map fun x=>((k:Int),x)
theorem ip:∀ {k:Nat},d∈cT L k↔0≤d.1∧d.1 < k∧d.2∈rowOf L d.1
 | 0=>by simp only [cT,List.not_mem_nil,false_iff]; intro h; omega
 | k + 1=>by
  rw [cT,List.mem_append,ip,List.mem_map]
  constructor
  ·rintro (⟨h1,h2,h3⟩ | ⟨x,hx,rfl⟩)
   ·exact ⟨h1,by omega,h3⟩
   ·exact ⟨by simp,by simp; omega,hx⟩
  ·rintro ⟨h1,h2,h3⟩
   by_cases e:d.1 = k
   ·right
    rw [e] at h3
    exact ⟨d.2,h3,Prod.ext e.symm rfl⟩
   ·left; exact ⟨h1,by omega,h3⟩
theorem cF (m:aw L):∀ {k:Nat},k≤L.length→(cT L k).Nodup
 | 0,_=>.nil
 | k + 1,h=>by
  rw [cT,List.nodup_append]
  refine ⟨cF m (by omega),?_,fun a ha b hb z=>?_⟩
  ·have n:=m.nd _ _ (aq (L:=L) (a:=(k:Int)) (by omega) (by omega))
   exact List.Pairwise.map _ (fun x y nv z=>nv (congrArg Prod.snd z)) n
  ·have:=(ip.mp ha).2.1
   obtain ⟨x,_,rfl⟩:=List.mem_map.mp hb
   rw [z] at this
   simp at this
theorem vM:∀ {k:Nat},k≤L.length→((cT L k).length:Int) = ((L.take k).map (fun l=>(l.length:Int))).sum
 | 0,_=>by simp [cT]
 | k + 1,h=>by
  have hk:k < L.length:=by omega
  have e:rowOf L (k:Int) = L[k]:=by unfold rowOf; simp [hk]
  rw [cT,List.length_append,List.length_map,show L.take (k + 1) = L.take k ++ [L[k]] by rw [List.take_succ,List.getElem?_eq_getElem hk]; rfl,List.map_append,List.map_singleton,qZ,← vM (by omega),e]
  omega
theorem Dt.all (h:Dt L d):d∈cT L L.length:=ip.mpr ⟨h.lo,h.hi,h.mem⟩
theorem Dt.of (h:d∈cT L L.length):Dt L d:=by have:=ip.mp h; exact ⟨this.1,this.2.1,this.2.2⟩
def it (L:List (List Int)) (d:aj):Nat→aj
 | 0=>d
 | k + 1=>Gm.nx L (it L d k)
theorem j6 (m:aw L) (h:Dt L d):∀ k,Dt L (it L d k)
 | 0=>h
 | k + 1=>(j6 m h k).nx m
theorem lY (i:Nat):∀ k,it L d (i + k) = it L (it L d i) k
 | 0=>rfl
 | k + 1=>by show Gm.nx L (it L d (i + k)) = Gm.nx L (it L (it L d i) k); rw [lY i k]
theorem vR (m:aw L) (h:Dt L d) {k:Nat}:∀ i,it L d i = it L d (i + k)→it L d k = d
 | 0,e=>by rw [Nat.zero_add] at e; exact e.symm
 | i + 1,e=>by
  rw [Nat.add_right_comm] at e
  exact vR m h i (dA m (j6 m h _) (j6 m h _) e)
def h8 (L:List (List Int)) (d:aj) (k:Nat):Prop:=∀ i,0 < i→i < k→it L d i≠d
def tr (L:List (List Int)) (d:aj) (k:Nat):List aj:=(List.range k).map (it L d)
theorem iV (m:aw L) (h:Dt L d) {k:Nat} (n:h8 L d k):(tr L d k).Nodup:=by
 unfold tr
 refine List.Pairwise.map _ (R:=fun a b=>a < b∧a < k∧b < k) (fun a b C1 z=>?_) ?_
 ·obtain ⟨j,rfl⟩:∃ j,b = a + j:=⟨b - a,by omega⟩
  exact n j (by omega) (by omega) (vR m h a z)
 ·have:=List.pairwise_lt_range (n:=k)
  refine List.Pairwise.imp_of_mem (fun ha hb C1=>⟨C1,List.mem_range.mp ha,List.mem_range.mp hb⟩) this
theorem lP (m:aw L) (h:Dt L d) {k:Nat} (n:h8 L d k):k≤(cT L L.length).length:=by
 have:=bN (iV m h n) (r:=cT L L.length) fun x hx=>by
  obtain ⟨i,_,rfl⟩:=List.mem_map.mp hx
  exact (j6 m h i).all
 simpa [tr] using this
def dj (r:List Int) (j:Nat):aj:=(cy r j,cy r (j + 1))
structure Good (L:List (List Int)) (r:List Int):Prop where
 two:2≤r.length
 dt:∀ j,Dt L (dj r j)
 st:∀ j,Gm.nx L (dj r j) = dj r (j + 1)
def sh (s:Nat) (r:List Int):List aj:=(List.range r.length).map fun j=>dj r (j + s)
theorem ck {r:List Int} {i j:Nat} (h:i % r.length = j % r.length):dj r i = dj r j:=by
 unfold dj
 rw [cw h,cw (show (i + 1) % r.length = (j + 1) % r.length by rw [Nat.add_mod,h,← Nat.add_mod])]
theorem A5 (r:List Int) (s:Nat):(sh (s + 1) r).Perm (sh s r):=by
 unfold sh
 cases hn:r.length with
 | zero=>exact List.Perm.refl _
 | succ n=>
  have e1:(List.range (n + 1)).map (fun j=>dj r (j + (s + 1))) = (List.range n).map (fun j=>dj r (j + (s + 1))) ++ [dj r (n + (s + 1))]:=by rw [List.range_succ,List.map_append]; rfl
  have e2:(List.range (n + 1)).map (fun j=>dj r (j + s)) = dj r s :: (List.range n).map (fun j=>dj r (j + (s + 1))):=by
   rw [List.range_succ_eq_map,List.map_cons,List.map_map,Nat.zero_add]
   congr 1
   refine List.map_congr_left fun j _=>?_
   show dj r (j + 1 + s) = _
   congr 1
   omega
  have e3:dj r (n + (s + 1)) = dj r s:=ck (by rw [hn,show n + (s + 1) = s + (n + 1) by omega,Nat.add_mod_right])
  rw [e1,e2,e3]
  exact List.perm_append_singleton _ _
theorem eL (r:List Int):∀ s,(sh s r).Perm (sh 0 r)
 | 0=>List.Perm.refl _
 | s + 1=>(A5 r s).trans (eL r s)
theorem cG {r:List Int} {s:Nat} (h0:0 < r.length):d∈sh s r↔∃ j,d = dj r j:=by
 rw [(eL r s).mem_iff]
 unfold sh
 rw [List.mem_map]
 constructor
 ·rintro ⟨j,_,rfl⟩; exact ⟨_,rfl⟩
 ·rintro ⟨j,rfl⟩
  exact ⟨j % r.length,List.mem_range.mpr (Nat.mod_lt _ h0),ck (by rw [Nat.add_zero,Nat.mod_mod])⟩
theorem mF {r:List Int} {k:Nat} (h:k < r.length) (j:Nat):dj (bM r k) j = dj r (j + k):=by
 unfold dj
 rw [dW h,dW h]
 congr 2
 omega
theorem yf {r:List Int} {k:Nat} (h:k < r.length):sh 0 (bM r k) = sh k r:=by
 unfold sh
 rw [bF (by omega)]
 exact List.map_congr_left fun j _=>mF h j
theorem Good.bM {r:List Int} {k:Nat} (g:Good L r) (h:k < r.length):Good L (Gm.bM r k):=by
 refine ⟨by rw [bF (by omega)]; exact g.two,fun j=>by rw [mF h]; exact g.dt _,fun j=>?_⟩
 rw [mF h,mF h,g.st]
 congr 1
 omega
def aF (L:List (List Int)) (d:aj) (k:Nat):List Int:=(List.range k).map fun i=>(it L d i).1
theorem El {k:Nat} (e:it L d k = d) (j:Nat):it L d (j + k) = it L d j:=by rw [Nat.add_comm,lY,e]
theorem ux {k:Nat} (e:it L d k = d) (j:Nat):it L d (j % k) = it L d j:=by
 have go:∀ q,it L d (j % k + k * q) = it L d (j % k):=by
  intro q
  induction q with
  | zero=>rfl
  | succ q ih=>rw [Nat.mul_succ,← Nat.add_assoc,El e,ih]
 rw [← go (j / k),Nat.mod_add_div]
theorem wg {k:Nat} (hk:0 < k) (e:it L d k = d) (j:Nat):cy (aF L d k) j = (it L d j).1:=by
 have hl:(aF L d k).length = k:=by unfold aF; simp
 have hm:=Nat.mod_lt j hk
 unfold cy
 rw [hl]
 unfold aF
 rw [List.getD_eq_getElem?_getD,List.getElem?_map,List.getElem?_range hm]
 show (it L d (j % k)).1 = _
 rw [ux e]
theorem gn {k:Nat} (hk:0 < k) (e:it L d k = d) (j:Nat):dj (aF L d k) j = it L d j:=by
 unfold dj
 rw [wg hk e,wg hk e]
 rfl
theorem oe (m:aw L) (h:Dt L d) {k:Nat} (hk:0 < k) (e:it L d k = d):Good L (aF L d k):=by
 refine ⟨?_,fun j=>by rw [gn hk e]; exact j6 m h j,fun j=>by rw [gn hk e,gn hk e]; rfl⟩
 have hl:(aF L d k).length = k:=by unfold aF; simp
 rw [hl]
 by_cases z:k = 1
 ·subst z
  have:=(h.back m).2.2.1
  exact absurd (congrArg Prod.fst e) this
 ·omega
theorem tQ (m:aw L) (h:Dt L d) {k:Nat} (hk:0 < k) (e:it L d k = d) (n:h8 L d k):(sh 0 (aF L d k)).Nodup:=by
 have hl:(aF L d k).length = k:=by unfold aF; simp
 have:sh 0 (aF L d k) = tr L d k:=by
  unfold sh tr
  rw [hl]
  exact List.map_congr_left fun j _=>by rw [gn hk e,Nat.add_zero]
 rw [this]
 exact iV m h n
def wz (r:List Int):Prop:=∀ k,k < r.length→Le r (bM r k)
theorem w9 {r:List Int} {k:Nat} (hk:k < r.length) (h:∀ j,j < r.length→Le (bM r k) (bM r j)):wz (bM r k):=fun i hi=>by
 rw [bF (by omega)] at hi
 rw [kC hk hi]
 exact h _ (Nat.mod_lt _ (by omega))
structure bq (L R:List (List Int)):Prop where
 good:∀ r∈R,Good L r
 least:∀ r∈R,wz r
 sorted:R.Pairwise (fun a b=>HT.lexLt a b = true)
 nd:(R.flatMap (sh 0)).Nodup
 all:∀ d,Dt L d→d∈R.flatMap (sh 0)
structure Lp (L R:List (List Int)) (ks:List aj):Prop where
 good:∀ r∈R,Good L r
 least:∀ r∈R,wz r
 nd:ks.Nodup
 pm:ks.Perm (R.flatMap (sh 0))
 two:2 * R.length≤ks.length
theorem Lp.start:Lp L [] []:=⟨by simp,by simp,.nil,.nil,Nat.le_refl _⟩
theorem Lp.dt {R:List (List Int)} {ks:List aj} (p:Lp L R ks) (h:d∈ks):Dt L d:=by
 obtain ⟨r,hr,hd⟩:=List.mem_flatMap.mp (p.pm.mem_iff.mp h)
 obtain ⟨j,rfl⟩:=(cG (by have:=(p.good r hr).two; omega)).mp hd
 exact (p.good r hr).dt j
theorem Lp.len {R:List (List Int)} {ks:List aj} (p:Lp L R ks):ks.length≤(cT L L.length).length:=bN p.nd fun x hx=>(p.dt hx).all
theorem Lp.on {R:List (List Int)} {ks:List aj} (p:Lp L R ks) (h:d∈ks):∀ t,it L d t∈ks:=by
 intro t
 obtain ⟨r,hr,hd⟩:=List.mem_flatMap.mp (p.pm.mem_iff.mp h)
 have g:=p.good r hr
 have r0:0 < r.length:=by have:=g.two; omega
 obtain ⟨j,rfl⟩:=(cG r0).mp hd
 have e:it L (dj r j) t = dj r (j + t):=by
  induction t with
  | zero=>rfl
  | succ t ih=>show Gm.nx L (it L (dj r j) t) = _; rw [ih,g.st]; rfl
 rw [e]
 exact p.pm.mem_iff.mpr (List.mem_flatMap.mpr ⟨r,hr,(cG r0).mpr ⟨_,rfl⟩⟩)
theorem Lp.new {R:List (List Int)} {ks:List aj} (p:Lp L R ks) {k:Nat} (hk:0 < k) (e:it L d k = d) (n:d∉ks) (j:Nat):it L d j∉ks:=by
 intro h
 refine n ?_
 have:=p.on h (k * j - j)
 rw [← lY,show j + (k * j - j) = k * j from by have:=Nat.le_mul_of_pos_left j hk; omega,Nat.mul_comm] at this
 have z:=ux e (j * k)
 rw [Nat.mul_mod_left] at z
 rw [← z] at this
 exact this
theorem Lp.add {R:List (List Int)} {ks:List aj} (m:aw L) (p:Lp L R ks) (h:Dt L d) {k c:Nat} (hk:0 < k) (e:it L d k = d) (nr:h8 L d k) (n:d∉ks) (hc:c < k) (hl:∀ j,j < k→Le (Gm.bM (aF L d k) c) (Gm.bM (aF L d k) j)) :
  Lp L (R ++ [Gm.bM (aF L d k) c]) (ks ++ sh (k - 1) (aF L d k)):=by
 have zl:(aF L d k).length = k:=by unfold aF; simp
 have g:=oe m h hk e
 have qh:c < (aF L d k).length:=by rw [zl]; exact hc
 refine ⟨fun r hr=>?_,fun r hr=>?_,?_,?_,?_⟩
 ·rcases List.mem_append.mp hr with z | z
  ·exact p.good r z
  ·rw [List.mem_singleton.mp z]; exact g.bM qh
 ·rcases List.mem_append.mp hr with z | z
  ·exact p.least r z
  ·rw [List.mem_singleton.mp z]; exact w9 qh (by rw [zl]; exact hl)
 ·rw [List.nodup_append]
  refine ⟨p.nd,((eL _ _).nodup_iff).mpr (tQ m h hk e nr),fun a ha b hb z=>?_⟩
  obtain ⟨j,rfl⟩:=(cG (by omega)).mp hb
  rw [gn hk e] at z
  exact p.new hk e n j (z▸ha)
 ·rw [List.flatMap_append,List.flatMap_singleton,yf qh]
  exact p.pm.append ((eL _ _).trans (eL _ _).symm)
 ·have:=g.two
  have:=p.two
  rw [List.length_append,List.length_append,List.length_singleton]
  unfold sh
  rw [List.length_map,List.length_range]
  omega
end
theorem uD {R:List (List Int)} (h:(R.flatMap (sh 0)).Nodup) (n:∀ r∈R,2≤r.length):R.Nodup:=by
 have:=(List.pairwise_flatMap.mp h).2
 refine List.Pairwise.imp_of_mem (fun {a b} ha hb C1 z=>?_) this
 subst z
 have r0:0 < a.length:=by have:=n a ha; omega
 exact C1 (dj a 0) ((cG r0).mpr ⟨0,rfl⟩) (dj a 0) ((cG r0).mpr ⟨0,rfl⟩) rfl
end Gm
end
section
namespace Gm
open PySem L2
theorem vC {α : Type} {d : α} {L:List α} {p:Array Nat} (i:Nat):(pick d L p)[i]? = (p[i]?).map fun j=>L.getD j d:=by unfold pick; simp
theorem range_getD {α : Type} {d : α} (L:List α):((List.range L.length).map fun i=>L.getD i d) = L:=by
 apply List.ext_getElem?
 intro i
 rw [List.getElem?_map]
 by_cases h:i < L.length
 ·simp [h]
 ·simp [h]
theorem om {α : Type} {d : α} {L:List α} {p:Array Nat} (h:Arr L.length p):(pick d L p).Perm L:=by
 have e:=range_getD (d:=d) L
 have:p.toList.Perm (List.range L.length):=by have:=h.perm; rw [Array.perm_iff_toList_perm] at this; simpa using this
 have q:=this.map fun i=>L.getD i d
 rw [e] at q
 exact q
theorem lG {α : Type} {d : α} {L:List α} {p:Array Nat} {n:Nat} (h:Arr n p):(pick d L p).length = n:=by unfold pick; simp [h.size]
theorem aQ.pick {H:Hp} {t q:Addr} {as:List Addr} {R:List (List Int)} {p:Array Nat} (g:aQ H t as R) (h:Arr R.length p) (hq:H q = none):aQ (upd H q (.lst ((pick 0 as p).map V.ref))) q (pick 0 as p) (pick [] R p):=by
 refine ⟨ae,by rw [lG h,lG h],fun i a l h1 h2=>?_⟩
 rw [vC] at h1 h2
 cases e:p[i]? with
 | none=>rw [e] at h1; cases h1
 | some j=>
  rw [e] at h1 h2
  have hi:i < p.size:=by
   rcases Nat.lt_or_ge i p.size with z | z
   ·exact z
   ·rw [Array.getElem?_eq_none z] at e; cases e
  have hj:j < R.length:=by
   have:=h.lt (i:=i) (by rw [← h.size]; exact hi)
   rw [Array.getD_eq_getD_getElem?,e] at this
   exact this
  have BQ:j < as.length:=by rw [g.len]; exact hj
  have e1:as.getD j 0 = as[j]:=by simp [BQ]
  have e2:R.getD j [] = R[j]:=by simp [hj]
  have AA:as.getD j 0 = a:=Option.some.inj h1
  have vW:R.getD j [] = l:=Option.some.inj h2
  have:=g.row j as[j] R[j] (by simp [BQ]) (by simp [hj])
  rw [← e1,← e2,AA,vW] at this
  rw [ax (aA this hq)]
  exact this
theorem Lp.lands {L R:List (List Int)} {ks:List aj} {p:Array Nat} (h:Lp L R ks) (hp:Arr R.length p) (up:Up (fun i=>R.getD i []) p R.length) (all:∀ d,Dt L d→d∈ks):bq L (pick [] R p):=by
 have pm:=om (d:=([]:List Int)) hp
 have nd:((pick [] R p).flatMap (sh 0)).Nodup:=((pm.flatMap_right (sh 0)).nodup_iff).mpr ((h.pm.nodup_iff).mp h.nd)
 have good:∀ r∈pick [] R p,Good L r:=fun r hr=>h.good r (pm.mem_iff.mp hr)
 refine ⟨good,fun r hr=>h.least r (pm.mem_iff.mp hr),?_,nd,fun d hd=>((pm.flatMap_right (sh 0)).mem_iff).mpr (h.pm.mem_iff.mp (all d hd))⟩
 have n2:=uD nd fun r hr=>(good r hr).two
 refine List.pairwise_iff_getElem.mpr fun i j hi hj Ay=>?_
 have hl:=lG (d:=([]:List Int)) (L:=R) hp
 have at_:∀ k (hk:k < (pick [] R p).length),(pick [] R p)[k] = kf (fun i=>R.getD i []) p k:=fun k hk=>by
  have e:=vC (d:=([]:List Int)) (L:=R) (p:=p) k
  rw [List.getElem?_eq_getElem hk] at e
  unfold kf
  rw [Array.getD_eq_getD_getElem?]
  cases z:p[k]? with
  | none=>rw [z] at e; cases e
  | some m=>rw [z] at e; exact Option.some.inj e
 have le:Le (pick [] R p)[i] (pick [] R p)[j]:=by rw [at_ i hi,at_ j hj]; exact up.le (by omega) (by omega)
 cases q:HT.lexLt (pick [] R p)[i] (pick [] R p)[j] with
 | true=>rfl
 | false=>
  have:=(List.getElem_inj n2).mp (js q le)
  omega
def eR (d:aj):List Key:=[.inl d.1,.inl d.2]
def kD (ks:List aj):List (List Key×V):=ks.map fun d=>(eR d,V.bl true)
theorem lX {d e:aj} (h:eR d = eR e):d = e:=by
 unfold eR at h
 simp only [List.cons.injEq,Sum.inl.injEq,and_true] at h
 exact Prod.ext h.1 h.2
theorem fN:∀ (ks:List aj) (d:aj),(eE (kD ks) (eR d)).isSome = decide (d∈ks)
 | [],d=>rfl
 | e :: ks,d=>by
  unfold kD
  rw [List.map_cons]
  by_cases z:e = d
  ·subst z
   rw [eZ rfl]
   simp
  ·rw [dI (fun y=>z (lX y))]
   have:=fN ks d
   unfold kD at this
   rw [this]
   have z2:¬ d = e:=fun y=>z y.symm
   simp [z2]
theorem rT {ks:List aj} {d:aj} (h:d∉ks):putK (kD ks) (eR d) (.bl true) = kD (ks ++ [d]):=by
 rw [i9]
 ·unfold kD; rw [List.map_append]; rfl
 ·have:=fN ks d
  rw [decide_eq_false h] at this
  exact Option.isNone_iff_eq_none.mp (by rw [← Option.not_isSome,this]; rfl)
theorem zt (ks:List aj):(kD ks).length = ks.length:=by unfold kD; simp
theorem mJ {r:List Int} {k:Nat} (h:k≤r.length):qz (r.map V.int) (some (k:Int)) none = (r.drop k).map V.int:=by
 unfold qz HT.o4
 rw [List.length_map]
 dsimp only
 rw [if_neg (by omega),show min ((k:Int).toNat) r.length = k by omega,List.take_of_length_le (by rw [List.length_drop,List.length_map]; omega),List.map_drop]
theorem mH {r:List Int} {k:Nat} (h:k≤r.length):qz (r.map V.int) none (some (k:Int)) = (r.take k).map V.int:=by
 unfold qz HT.o4
 rw [List.length_map]
 dsimp only
 rw [if_neg (by omega),show min ((k:Int).toNat) r.length = k by omega,List.drop_zero,Nat.sub_zero,List.map_take]
section
variable {σ : St} {H:Hp} {Q:VK} {K:PySem.W.Frag}
theorem lz {ty td:TE} (h:ty σ H fun y H1=>td σ H1 fun x H2=>∃ a o,x = .ref a∧eD H2 a y o∧Q (.bl (!o.isSome)) H2):uU ty td σ H Q:=h
theorem tU {td ty tv:TE} {D:Ends} (h:tv σ H fun v H1=>td σ H1 fun x H2=>ty σ H2 fun y H3=>∃ a H4,x = .ref a∧jV H3 a y v H4∧D.nx σ H4):CG td ty tv D σ H:=h
theorem oj {a:Addr} {i k n:Nat} {r:List Int} (h1 : σ[i]? = some (some (.ref a))) (h2 : σ[k]? = some (some (.int (n:Int)))) (hs:aD K H a (r.map V.int)) (hn:n≤r.length) (q:∀ p,H p = none→Q (.ref p) (upd H p (.lst ((r.drop n).map V.int)))) :
  Ff (wM K) (oS i) (qW (oS k)) iW σ H Q:=⟨_,h1,⟨_,h2,⟨_,rfl,⟨a,_,rfl,hs,fun p hp=>by rw [mJ hn]; exact q p hp⟩⟩⟩⟩
theorem vn {a:Addr} {i k n:Nat} {r:List Int} (h1 : σ[i]? = some (some (.ref a))) (h2 : σ[k]? = some (some (.int (n:Int)))) (hs:aD K H a (r.map V.int)) (hn:n≤r.length) (q:∀ p,H p = none→Q (.ref p) (upd H p (.lst ((r.take n).map V.int)))) :
  Ff (wM K) (oS i) iW (qW (oS k)) σ H Q:=⟨_,h1,⟨_,h2,⟨_,rfl,⟨a,_,rfl,hs,fun p hp=>by rw [mH hn]; exact q p hp⟩⟩⟩⟩
end
theorem aQ.snoc {H:Hp} {t b:Addr} {bs:List Addr} {R:List (List Int)} {l:List Int} (g:aQ H t bs R) (nt:t∉bs) (nb:b≠t) (hb:H b = some (.lst (l.map V.int))):aQ (upd H t (.lst (bs.map V.ref ++ [.ref b]))) t (bs ++ [b]) (R ++ [l]):=by
 refine ⟨by rw [List.map_append]; exact ae,by rw [List.length_append,List.length_append,g.len]; rfl,fun i a m h1 h2=>?_⟩
 rcases Nat.lt_or_ge i bs.length with hi | hi
 ·rw [List.getElem?_append_left hi] at h1
  rw [List.getElem?_append_left (by rw [← g.len]; exact hi)] at h2
  have am:=List.mem_of_getElem? h1
  have ne:a≠t:=fun z=>nt (by rw [← z]; exact am)
  rw [ax ne]
  exact g.row i a m h1 h2
 ·rw [List.getElem?_append_right hi] at h1
  rw [List.getElem?_append_right (by rw [← g.len]; exact hi),← g.len] at h2
  have:i - bs.length = 0:=by
   have:=(List.getElem?_eq_some_iff.mp h1).1
   rw [List.length_singleton] at this
   omega
  rw [this] at h1 h2
  simp at h1 h2
  subst h1 h2
  rw [ax nb]
  exact hb
theorem aQ.other {H:Hp} {t g:Addr} {bs:List Addr} {R:List (List Int)} {aI:List (List Key×V)} {o:HO} (h:aQ H t bs R) (hg:H g = some (.dT aI)):aQ (upd H g o) t bs R:=by
 refine ⟨?_,h.len,fun i a l h1 h2=>?_⟩
 ·rw [ax (fun z=>by have:=h.top; rw [z,hg] at this; cases this)]; exact h.top
 ·have:=h.row i a l h1 h2
  rw [ax (fun z=>by rw [z,hg] at this; cases this)]; exact this
theorem aQ.iA {H:Hp} {t b:Addr} {bs:List Addr} {R:List (List Int)} (g:aQ H t bs R) (hb:H b = none):b∉t :: bs:=fun z=>by
 rcases List.mem_cons.mp z with z | z
 ·rw [z,g.top] at hb; cases hb
 ·obtain ⟨k,hk,Hk⟩:=List.mem_iff_getElem.mp z
  have kl:k < R.length:=by rw [← g.len]; exact hk
  have:=g.row k b _ (by rw [List.getElem?_eq_getElem hk,Hk]) (List.getElem?_eq_getElem kl)
  rw [hb] at this; cases this
theorem dJ {α : Type} {A B:List α} {x : α} {j:Nat} (h:(A ++ B).Nodup) (e:B[j]? = some x):x∉A ++ B.take j:=by
 obtain ⟨h1,h2,h3⟩:=List.nodup_append.mp h
 intro z
 rcases List.mem_append.mp z with z | z
 ·exact h3 x z x (List.mem_of_getElem? e) rfl
 ·obtain ⟨hj,ex⟩:=List.getElem?_eq_some_iff.mp e
  obtain ⟨i,hi,ei⟩:=List.mem_iff_getElem.mp z
  rw [List.getElem_take] at ei
  rw [List.length_take] at hi
  have:=(List.getElem_inj h2).mp (ei.trans ex.symm)
  omega
theorem bQ (s:Nat) (r:List Int):(sh s r).length = r.length:=by unfold sh; simp
theorem n6 {s:Nat} {r:List Int} {j:Nat} (h:j < r.length):(sh s r)[j]? = some (dj r (j + s)):=by unfold sh; simp [h]
theorem take_snoc {α : Type} {l:List α} {j:Nat} {x : α} (h:l[j]? = some x):l.take (j + 1) = l.take j ++ [x]:=by rw [List.take_succ,h]; rfl
theorem i5 {l:List Addr} {x:Addr}:(l ++ [x]).Nodup↔x∉l∧l.Nodup:=by rw [(List.perm_append_singleton x l).nodup_iff,List.nodup_cons]
def Z0 (g:Addr) (H H':Hp):Prop:=∀ b o,b≠g→H b = some o→H' b = some o
def fl (R:List (List Int)) (k:Nat):List aj:=(R.take k).flatMap fun r=>sh (r.length - 2) r
theorem zP {L:List (List Int)} (m:aw L):∀ {k:Nat},k≤L.length→(cT L k).length≤k * (L.length - 1)
 | 0,_=>Nat.zero_le _
 | k + 1,h=>by
  have i:=zP m (k:=k) (by omega)
  have e:=aq (L:=L) (a:=(k:Int)) (by omega) (by omega)
  have n:(rowOf L (k:Int)).length≤L.length - 1:=by
   have n1:((k:Int) :: rowOf L (k:Int)).Nodup:=List.nodup_cons.mpr ⟨fun z=>by have:=m.rg _ _ e _ z; rw [Int.toNat_natCast] at this; exact this.2.2 rfl,m.nd _ _ e⟩
   have:=bC (n:=L.length) n1 fun x hx=>by
    rcases List.mem_cons.mp hx with z | z
    ·omega
    ·have:=m.rg _ _ e _ z; exact ⟨this.1,this.2.1⟩
   rw [List.length_cons] at this
   omega
  rw [cT,List.length_append,List.length_map,Nat.succ_mul]
  omega
theorem xr {L:List (List Int)} (m:aw L) (h:L.length≤11):(cT L L.length).length < 128:=by
 have h1:=zP m (Nat.le_refl L.length)
 have h2:L.length * (L.length - 1)≤11 * 10:=Nat.mul_le_mul h (by omega)
 omega
theorem gR {r:List Int} {i:Nat} (hi:i < r.length):bM r i = cy r i :: (r.drop (i + 1) ++ r.take i):=by
 unfold bM
 rw [List.drop_eq_getElem_cons hi,dk hi]
 rfl
theorem DB {r:List Int} {i j:Nat} (hi:i < r.length) (hj:j < r.length) (h:cy r i < cy r j):HT.lexLt (bM r i) (bM r j) = true:=by
 rw [gR hi,gR hj,HT.dC,if_neg (by omega)]
 exact decide_eq_true h
end Gm
end
section
namespace Gm
open PySem L2
def dY:Int→List Int→Int→Int
 | p,[],_=>p
 | p,h :: t,x=>if h = x then p else dY h t x
def lst (l:List Int):Int:=l.getD (l.length - 1) 0
theorem lT (h:Int) {t:List Int} (n:t≠[]):lst (h :: t) = lst t:=by
 unfold lst
 cases t with
 | nil=>exact absurd rfl n
 | cons a t=>simp
theorem gi (u:List Int) {v:List Int} (n:v≠[]):lst (u ++ v) = lst v:=by
 induction u with
 | nil=>rfl
 | cons h t ih=>rw [List.cons_append,lT h (by simp [n]),ih]
theorem Bz {l:List Int} (n:l≠[]):lst l∈l:=by
 unfold lst
 have:l.length - 1 < l.length:=by have:=List.length_pos_iff.mpr n; omega
 simp [this]
theorem vE:∀ {l:List Int} {p x:Int},x∈l→dY p l x = if l.idxOf x = 0 then p else l.getD (l.idxOf x - 1) 0
 | [],_,_,h=>by cases h
 | h :: t,p,x,hx=>by
  unfold dY
  rw [List.idxOf_cons]
  by_cases e:h = x
  ·rw [if_pos e,e]; simp
  ·rw [if_neg e]
   have e2:(h == x) = false:=beq_false_of_ne e
   rw [e2]
   have sH:x∈t:=(List.mem_cons.mp hx).resolve_left (fun z=>e z.symm)
   rw [vE sH]
   simp only [cond_false]
   rw [if_neg (Nat.succ_ne_zero _)]
   cases q:t.idxOf x with
   | zero=>simp
   | succ k=>simp
theorem jd {l:List Int} {x:Int} (h:x∈l):pre l x = dY (lst l) l x:=by
 have ix:=List.idxOf_lt_length_of_mem h
 rw [vE h]
 unfold pre cy lst
 rw [md ix]
 split <;> rfl
theorem pD:∀ (l:List Int) (p x:Int),dY p l x = p∨dY p l x∈l
 | [],p,x=>.inl rfl
 | h :: t,p,x=>by
  unfold dY
  by_cases e:h = x
  ·rw [if_pos e]; exact .inl rfl
  ·rw [if_neg e]
   rcases pD t h x with z | z
   ·rw [z]; exact .inr List.mem_cons_self
   ·exact .inr (List.mem_cons_of_mem _ z)
theorem oo:∀ {l:List Int} {p x y:Int},l.Nodup→p≠y→x∈l→x≠y→dY p (l.erase y) x = if dY p l x = y then dY p l y else dY p l x
 | [],_,_,_,_,_,h,_=>by cases h
 | h :: t,p,x,y,n,hp,hx,nv=>by
  obtain ⟨n1,n2⟩:=List.nodup_cons.mp n
  by_cases e:h = y
  ·subst e
   rw [List.erase_cons_head]
   have sH:x∈t:=(List.mem_cons.mp hx).resolve_left nv
   have a1:dY p (h :: t) x = dY h t x:=by show (if h = x then p else dY h t x) = _; rw [if_neg (fun z=>nv z.symm)]
   have a2:dY p (h :: t) h = p:=by show (if h = h then p else dY h t h) = _; rw [if_pos rfl]
   rw [a1,a2]
   cases t with
   | nil=>cases sH
   | cons k s=>
    by_cases e2:k = x
    ·have b1:dY p (k :: s) x = p:=by show (if k = x then p else dY k s x) = _; rw [if_pos e2]
     have b2:dY h (k :: s) x = h:=by show (if k = x then h else dY k s x) = _; rw [if_pos e2]
     rw [b1,b2,if_pos rfl]
    ·have b1:dY p (k :: s) x = dY k s x:=by show (if k = x then p else dY k s x) = _; rw [if_neg e2]
     have b2:dY h (k :: s) x = dY k s x:=by show (if k = x then h else dY k s x) = _; rw [if_neg e2]
     rw [b1,b2,if_neg]
     intro z
     rcases pD s k x with y | y
     ·rw [y] at z; exact n1 (by rw [← z]; exact List.mem_cons_self)
     ·rw [z] at y; exact n1 (List.mem_cons_of_mem _ y)
  ·rw [List.erase_cons_tail (by simpa using e)]
   by_cases e2:h = x
   ·have b1:∀ s,dY p (h :: s) x = p:=fun s=>by show (if h = x then p else dY h s x) = _; rw [if_pos e2]
    rw [b1,b1,if_neg hp]
   ·have sH:x∈t:=(List.mem_cons.mp hx).resolve_left (fun z=>e2 z.symm)
    have b1:∀ s,dY p (h :: s) x = dY h s x:=fun s=>by show (if h = x then p else dY h s x) = _; rw [if_neg e2]
    have b2:dY p (h :: t) y = dY h t y:=by show (if h = y then p else dY h t y) = _; rw [if_neg e]
    rw [b1,b1,b2]
    exact oo n2 e sH nv
theorem rY:∀ {u:List Int} {w:List Int} {p x:Int},x∈u→dY p (u ++ w) x = dY p u x
 | [],_,_,_,h=>by cases h
 | h :: t,w,p,x,hx=>by
  show (if h = x then p else dY h (t ++ w) x) = if h = x then p else dY h t x
  by_cases e:h = x
  ·rw [if_pos e,if_pos e]
  ·rw [if_neg e,if_neg e]
   exact rY ((List.mem_cons.mp hx).resolve_left (fun z=>e z.symm))
theorem vF:∀ {u:List Int} {p y:Int},y∉u→dY p (u ++ [y]) y = if u = [] then p else lst u
 | [],p,y,_=>by show (if y = y then p else dY y [] y) = _; rw [if_pos rfl,if_pos rfl]
 | h :: t,p,y,n=>by
  have e:h≠y:=fun z=>n (by rw [z]; exact List.mem_cons_self)
  show (if h = y then p else dY h (t ++ [y]) y) = _
  rw [if_neg e,if_neg (by simp),vF (fun z=>n (List.mem_cons_of_mem _ z))]
  by_cases q:t = []
  ·subst q; rw [if_pos rfl]; rfl
  ·rw [if_neg q,lT h q]
theorem jF {l:List Int} {x y:Int} (n:l.Nodup) (hx:x∈l) (hy:y∈l) (nv:x≠y):pre (l.erase y) x = if pre l x = y then pre l y else pre l x:=by
 have V6:x∈l.erase y:=(List.mem_erase_of_ne nv).mpr hx
 rw [jd V6,jd hx,jd hy]
 obtain ⟨u,v,rfl⟩:=List.append_of_mem hy
 obtain ⟨n1,n2,n3⟩:=List.nodup_append.mp n
 obtain ⟨n4,n5⟩:=List.nodup_cons.mp n2
 have yu:y∉u:=fun z=>n3 y z y List.mem_cons_self rfl
 have ee:(u ++ y :: v).erase y = u ++ v:=by rw [List.erase_append_right _ yu,List.erase_cons_head]
 by_cases q:v = []
 ·subst q
  rw [ee,List.append_nil]
  have xu:x∈u:=by
   rcases List.mem_append.mp hx with z | z
   ·exact z
   ·exact absurd (List.mem_singleton.mp z) nv
  have u0:u≠[]:=fun z=>by rw [z] at xu; cases xu
  rw [gi u (v:=[y]) (by simp),rY xu,vF yu,if_neg u0]
  show dY (lst u) u x = if dY y u x = y then lst u else dY y u x
  cases u with
  | nil=>cases xu
  | cons h t=>
   by_cases e:h = x
   ·have b:∀ q,dY q (h :: t) x = q:=fun q=>by show (if h = x then q else dY h t x) = _; rw [if_pos e]
    rw [b,b,if_pos rfl]
   ·have b:∀ q,dY q (h :: t) x = dY h t x:=fun q=>by show (if h = x then q else dY h t x) = _; rw [if_neg e]
    rw [b,b,if_neg]
    intro z
    rcases pD t h x with w | w
    ·rw [w] at z; exact yu (by rw [← z]; exact List.mem_cons_self)
    ·rw [z] at w; exact yu (List.mem_cons_of_mem _ w)
 ·have e1:lst (u ++ y :: v) = lst v:=by rw [gi u (by simp),lT y q]
  have e2:lst ((u ++ y :: v).erase y) = lst v:=by rw [ee,gi u q]
  rw [e1,e2]
  exact oo n (fun z=>n4 (by rw [← z]; exact Bz q)) hx nv
theorem lD {l:List Int} {x:Int} (n:l.Nodup) (hx:x∈l) (h:pre l x = x):l = [x]:=by
 have ix:=List.idxOf_lt_length_of_mem hx
 unfold pre cy at h
 have mx:=Nat.mod_lt (l.idxOf x + l.length - 1) (show 0 < l.length by omega)
 have e1:l.getD ((l.idxOf x + l.length - 1) % l.length) 0 = l[(l.idxOf x + l.length - 1) % l.length]:=by simp [mx]
 rw [e1] at h
 have g:=List.getElem_idxOf ix
 have e:=(List.getElem_inj n).mp (h.trans g.symm)
 rw [md ix] at e
 have l1:l.length = 1:=by split at e <;> omega
 match l,l1,hx with
 | [z],_,hx=>rw [List.mem_singleton.mp hx]
theorem hW {L:List (List Int)} (h:∀ x:Int,0≤x→x < L.length→(rowOf L x).Nodup∧∀ y∈rowOf L x,0≤y∧y < L.length∧y≠x∧x∈rowOf L y):aw L:=by
 have at_:∀ (i:Nat) (l:List Int),L[i]? = some l→rowOf L (i:Int) = l∧(i:Int) < L.length:=fun i l e=>by
  have hi:=(List.getElem?_eq_some_iff.mp e).1
  have:=aq (L:=L) (a:=(i:Int)) (by omega) (by omega)
  rw [Int.toNat_natCast,e] at this
  exact ⟨(Option.some.inj this).symm,by omega⟩
 refine ⟨fun i l e=>?_,fun i l e x hx=>?_,fun i l e x hx j hj m em=>?_⟩
 ·obtain ⟨e1,e2⟩:=at_ i l e
  rw [← e1]; exact (h i (by omega) e2).1
 ·obtain ⟨e1,e2⟩:=at_ i l e
  rw [← e1] at hx
  have:=(h i (by omega) e2).2 x hx
  exact ⟨this.1,this.2.1,this.2.2.1⟩
 ·obtain ⟨e1,e2⟩:=at_ i l e
  obtain ⟨e3,e4⟩:=at_ j m em
  rw [← e1] at hx
  have:=((h i (by omega) e2).2 x hx).2.2.2
  rw [hj,e3] at this
  exact this
def rem (L:List (List Int)) (a b:Int):List (List Int):=(L.set a.toNat ((rowOf L a).erase b)).set b.toNat ((rowOf L b).erase a)
section
variable {L:List (List Int)} {a b:Int}
theorem eO:(rem L a b).length = L.length:=by unfold rem; simp
theorem kE (m:aw L) (h:Dt L (a,b)) {x:Int} (hx:0≤x):rowOf (rem L a b) x = if x = b then (rowOf L b).erase a else if x = a then (rowOf L a).erase b else rowOf L x:=by
 obtain ⟨b0,b1,b2,b3⟩:=h.back m
 have a0:=h.lo
 have a1:=h.hi
 dsimp only at a0 a1 b0 b1 b2 b3
 show (rem L a b).getD x.toNat [] = _
 unfold rem
 rw [List.getD_eq_getElem?_getD,List.getElem?_set]
 by_cases e:x = b
 ·subst e
  rw [if_pos rfl,if_pos rfl,if_pos (by rw [List.length_set]; omega)]
  rfl
 ·rw [if_neg (by omega),if_neg e,List.getElem?_set]
  by_cases e2:x = a
  ·subst e2
   rw [if_pos rfl,if_pos rfl,if_pos (by omega)]
   rfl
  ·rw [if_neg (by omega),if_neg e2,← List.getD_eq_getElem?_getD]
   rfl
theorem kG (m:aw L) (h:Dt L (a,b)) {x y:Int} (hx:0≤x) (Rv:x < L.length):y∈rowOf (rem L a b) x↔y∈rowOf L x∧¬ (x = a∧y = b)∧¬ (x = b∧y = a):=by
 obtain ⟨b0,b1,b2,b3⟩:=h.back m
 have a0:=h.lo
 have a1:=h.hi
 dsimp only at a0 a1 b0 b1 b2 b3
 rw [kE m h hx]
 by_cases e:x = b
 ·subst e
  rw [if_pos rfl,(m.nd _ _ (aq hx Rv)).mem_erase_iff]
  constructor
  ·rintro ⟨h1,h2⟩; exact ⟨h2,fun z=>b2 z.1,fun z=>h1 z.2⟩
  ·rintro ⟨h1,h2,h3⟩; exact ⟨fun z=>h3 ⟨rfl,z⟩,h1⟩
 ·rw [if_neg e]
  by_cases e2:x = a
  ·subst e2
   rw [if_pos rfl,(m.nd _ _ (aq hx Rv)).mem_erase_iff]
   constructor
   ·rintro ⟨h1,h2⟩; exact ⟨h2,fun z=>h1 z.2,fun z=>e z.1⟩
   ·rintro ⟨h1,h2,h3⟩; exact ⟨fun z=>h2 ⟨rfl,z⟩,h1⟩
  ·rw [if_neg e2]
   exact ⟨fun z=>⟨z,fun y=>e2 y.1,fun y=>e y.1⟩,fun z=>z.1⟩
theorem bR (m:aw L) (h:Dt L (a,b)) {d:aj}:Dt (rem L a b) d↔Dt L d∧d≠(a,b)∧d≠(b,a):=by
 constructor
 ·intro q
  have hi:=q.hi
  rw [eO] at hi
  have:=(kG m h q.lo hi).mp q.mem
  exact ⟨⟨q.lo,hi,this.1⟩,fun z=>this.2.1 ⟨congrArg Prod.fst z,congrArg Prod.snd z⟩,fun z=>this.2.2 ⟨congrArg Prod.fst z,congrArg Prod.snd z⟩⟩
 ·rintro ⟨q,h1,h2⟩
  refine ⟨q.lo,by rw [eO]; exact q.hi,(kG m h q.lo q.hi).mpr ⟨q.mem,fun z=>h1 (Prod.ext z.1 z.2),fun z=>h2 (Prod.ext z.1 z.2)⟩⟩
theorem va (m:aw L) (h:Dt L (a,b)):aw (rem L a b):=by
 refine hW fun x x0 x1=>?_
 rw [eO] at x1
 have n:=m.nd _ _ (aq x0 x1)
 refine ⟨?_,fun y hy=>?_⟩
 ·rw [kE m h x0]
  split
  ·rename_i e; rw [← e]; exact n.erase _
  ·split
   ·rename_i e; rw [← e]; exact n.erase _
   ·exact n
 ·have q:=(kG m h x0 x1).mp hy
  obtain ⟨c0,c1,c2,c3⟩:=Dt.back (d:=(x,y)) ⟨x0,x1,q.1⟩ m
  rw [eO]
  refine ⟨c0,c1,c2,(kG m h c0 c1).mpr ⟨c3,fun z=>q.2.2 ⟨z.2,z.1⟩,fun z=>q.2.1 ⟨z.2,z.1⟩⟩⟩
theorem iJ (m:aw L) (h:Dt L (a,b)) {d:aj} (hd:Dt (rem L a b) d) :
  nx (rem L a b) d = if nx L d = (b,a) then nx L (a,b) else if nx L d = (a,b) then nx L (b,a) else nx L d:=by
 obtain ⟨q,h1,h2⟩:=(bR m h).mp hd
 obtain ⟨b0,b1,b2,b3⟩:=h.back m
 obtain ⟨c0,c1,c2,c3⟩:=q.back m
 obtain ⟨x,y⟩:=d
 dsimp only at b0 b1 b2 b3 c0 c1 c2 c3
 have Hg:=h.mem
 dsimp only at Hg
 unfold nx
 dsimp only
 rw [kE m h c0]
 by_cases e:y = b
 ·subst e
  have xa:x≠a:=fun z=>h1 (by rw [z])
  rw [if_pos rfl,jF (m.nd _ _ (aq c0 c1)) c3 b3 xa]
  by_cases z:pre (rowOf L y) x = a
  ·rw [if_pos z,z,if_pos rfl]
  ·rw [if_neg z,if_neg (fun w=>z (congrArg Prod.snd w)),if_neg (fun w=>b2 (congrArg Prod.fst w))]
 ·rw [if_neg e]
  by_cases e2:y = a
  ·subst e2
   have xb:x≠b:=fun z=>h2 (by rw [z])
   rw [if_pos rfl,jF (m.nd _ _ (aq c0 c1)) c3 Hg xb]
   rw [if_neg (fun w=>e (congrArg Prod.fst w))]
   by_cases z:pre (rowOf L y) x = b
   ·rw [if_pos z,z,if_pos rfl]
   ·rw [if_neg z,if_neg (fun w=>z (congrArg Prod.snd w))]
  ·rw [if_neg e2,if_neg (fun w=>e (congrArg Prod.fst w)),if_neg (fun w=>e2 (congrArg Prod.fst w))]
end
end Gm
end
section
namespace Gm
open PySem L2
inductive Wk (f:aj→aj):aj→List aj→aj→Prop where
 | nil (x:aj):Wk f x [] x
 | cons {x y:aj} {l:List aj}:Wk f (f x) l y→Wk f x (x :: l) y
section
variable {f g:aj→aj} {x y z w d:aj} {l m:List aj}
theorem Wk.append (h:Wk f x l y) (k:Wk f y m z):Wk f x (l ++ m) z:=by
 induction h with
 | nil _=>exact k
 | cons _ ih=>exact .cons (ih k)
theorem Wk.split:∀ {l:List aj} {x:aj},Wk f x (l ++ m) z→∃ y,Wk f x l y∧Wk f y m z
 | [],x,h=>⟨x,.nil x,h⟩
 | a :: l,x,h=>by
  cases h with
  | cons h=>
   obtain ⟨y,h1,h2⟩:=Wk.split h
   exact ⟨y,.cons h1,h2⟩
theorem Wk.nil_eq (h:Wk f x [] y):x = y:=by cases h; rfl
theorem Wk.hd (h:Wk f x (d :: l) y):d = x:=by cases h; rfl
theorem Wk.tl (h:Wk f x (d :: l) y):Wk f (f x) l y:=by cases h; assumption
theorem Wk.on (h:Wk f x l y):∀ d∈l,f d∈l∨f d = y:=by
 induction h with
 | nil _=>intro d hd; cases hd
 | @cons x y l h ih=>
  intro d hd
  rcases List.mem_cons.mp hd with e | e
  ·subst e
   cases h with
   | nil _=>exact .inr rfl
   | cons h=>exact .inl (List.mem_cons_of_mem _ List.mem_cons_self)
  ·rcases ih d e with q | q
   ·exact .inl (List.mem_cons_of_mem _ q)
   ·exact .inr q
theorem Wk.new (h:Wk f x l y) (n:l≠[]) (hy:y∉l) (h1:∀ d∈l,f d = y→g d = w) (h2:∀ d∈l,f d≠y→g d = f d):Wk g x l w:=by
 induction h with
 | nil _=>exact absurd rfl n
 | @cons x y l h ih=>
  cases h with
  | nil _=>
   have:g x = w:=h1 x List.mem_cons_self rfl
   rw [← this]
   exact .cons (.nil _)
  | @cons _ _ l2 h=>
   have ne:f x≠y:=fun q=>hy (by rw [← q]; exact List.mem_cons_of_mem _ List.mem_cons_self)
   have e:=h2 x List.mem_cons_self ne
   refine .cons ?_
   rw [e]
   exact ih (by simp) (fun q=>hy (List.mem_cons_of_mem _ q)) (fun d hd=>h1 d (List.mem_cons_of_mem _ hd)) fun d hd=>h2 d (List.mem_cons_of_mem _ hd)
theorem Wk.congr (h:Wk f x l y) (e:∀ d∈l,g d = f d):Wk g x l y:=by
 induction h with
 | nil _=>exact .nil _
 | @cons x y l h ih=>
  refine .cons ?_
  rw [e x List.mem_cons_self]
  exact ih fun d hd=>e d (List.mem_cons_of_mem _ hd)
end
def jW (f:aj→aj) (c:List aj):Prop:=∃ x l,c = x :: l∧Wk f x c x
section
variable {f:aj→aj} {c:List aj} {d:aj}
theorem jW.ne (h:jW f c):c≠[]:=by obtain ⟨x,l,rfl,_⟩:=h; simp
theorem jW.on (h:jW f c) (hd:d∈c):f d∈c:=by
 obtain ⟨x,l,rfl,k⟩:=h
 rcases k.on d hd with q | q
 ·exact q
 ·rw [q]; exact List.mem_cons_self
theorem jW.turn (h:jW f c) (hd:d∈c):∃ v,(d :: v).Perm c∧Wk f (f d) v d:=by
 obtain ⟨x,l,e,k⟩:=h
 obtain ⟨u,v,rfl⟩:=List.append_of_mem hd
 obtain ⟨y,k1,k2⟩:=k.split
 have:=k2.hd
 subst this
 exact ⟨v ++ u,by rw [← List.cons_append]; exact List.perm_append_comm,k2.tl.append k1⟩
end
structure Dec (L:List (List Int)) (R:List (List aj)):Prop where
 hZ:∀ c∈R,jW (nx L) c
 nd:R.flatten.Nodup
 mem:∀ d,d∈R.flatten↔Dt L d
theorem lH {α : Type} {x : α} {l:List α} (h:x∈l):∃ r,l.Perm (x :: r):=by
 obtain ⟨u,v,rfl⟩:=List.append_of_mem h
 exact ⟨u ++ v,List.perm_middle⟩
theorem Dec.perm {L:List (List Int)} {R S:List (List aj)} (h:Dec L R) (p:R.Perm S):Dec L S:=
 ⟨fun c hc=>h.hZ c (p.mem_iff.mpr hc),(p.flatten.nodup_iff).mp h.nd,fun d=>by rw [← p.flatten.mem_iff]; exact h.mem d⟩
theorem Dec.swap {L:List (List Int)} {R:List (List aj)} {c e:List aj} (h:Dec L (c :: R)) (p:e.Perm c) (k:jW (nx L) e):Dec L (e :: R):=by
 have q:(e :: R).flatten.Perm (c :: R).flatten:=by rw [List.flatten_cons,List.flatten_cons]; exact p.append_right _
 refine ⟨fun s hs=>?_,q.nodup_iff.mpr h.nd,fun d=>by rw [q.mem_iff]; exact h.mem d⟩
 rcases List.mem_cons.mp hs with z | z
 ·rw [z]; exact k
 ·exact h.hZ s (List.mem_cons_of_mem _ z)
theorem Dec.front {L:List (List Int)} {R:List (List aj)} {d:aj} (h:Dec L R) (hd:Dt L d):∃ v S,Dec L ((d :: v) :: S)∧R.length = S.length + 1∧Wk (nx L) (nx L d) v d∧(∀ c∈S,c∈R):=by
 obtain ⟨c,hc,WJ⟩:=List.mem_flatten.mp ((h.mem d).mpr hd)
 obtain ⟨S,p⟩:=lH hc
 obtain ⟨v,pv,k⟩:=(h.hZ c hc).turn WJ
 exact ⟨v,S,(h.perm p).swap pv ⟨d,v,rfl,.cons k⟩,p.length_eq,k,fun s hs=>p.mem_iff.mpr (List.mem_cons_of_mem _ hs)⟩
section
variable {L:List (List Int)} {a b:Int}
theorem i8 (m:aw L) (h:Dt L (a,b)):(cT L L.length).Perm ((a,b) :: (b,a) :: cT (rem L a b) (rem L a b).length)∧(cT L L.length).length = (cT (rem L a b) (rem L a b).length).length + 2:=by
 obtain ⟨b0,b1,b2,b3⟩:=h.back m
 have hb:Dt L (b,a):=⟨b0,b1,b3⟩
 have n2:((a,b) :: (b,a) :: cT (rem L a b) (rem L a b).length).Nodup:=by
  refine List.nodup_cons.mpr ⟨fun z=>?_,List.nodup_cons.mpr ⟨fun z=>?_,cF (va m h) (Nat.le_refl _)⟩⟩
  ·rcases List.mem_cons.mp z with z | z
   ·exact b2 (congrArg Prod.fst z).symm
   ·exact ((bR m h).mp (Dt.of z)).2.1 rfl
  ·exact ((bR m h).mp (Dt.of z)).2.2 rfl
 have e:∀ x,x∈cT L L.length↔x∈(a,b) :: (b,a) :: cT (rem L a b) (rem L a b).length:=fun x=>by
  constructor
  ·intro z
   by_cases e1:x = (a,b)
   ·rw [e1]; exact List.mem_cons_self
   ·by_cases e2:x = (b,a)
    ·rw [e2]; exact List.mem_cons_of_mem _ List.mem_cons_self
    ·exact List.mem_cons_of_mem _ (List.mem_cons_of_mem _ ((bR m h).mpr ⟨Dt.of z,e1,e2⟩).all)
  ·intro z
   rcases List.mem_cons.mp z with z | z
   ·rw [z]; exact h.all
   ·rcases List.mem_cons.mp z with z | z
    ·rw [z]; exact hb.all
    ·exact ((bR m h).mp (Dt.of z)).1.all
 have n1:=cF m (Nat.le_refl L.length)
 have l:=len_eq n1 n2 e
 refine ⟨?_,by rw [l]; rfl⟩
 exact (List.perm_iff_count.mpr fun x=>by
  have c:∀ {l:List aj},l.Nodup→l.count x = if x∈l then 1 else 0:=fun {l} hn=>by
   by_cases hx:x∈l
   ·rw [if_pos hx]
    have h1:=List.nodup_iff_count.mp hn x
    have h2:=List.count_pos_iff.mpr hx
    omega
   ·rw [if_neg hx,List.count_eq_zero.mpr hx]
  rw [c n1,c n2]
  by_cases hx:x∈cT L L.length
  ·rw [if_pos hx,if_pos ((e x).mp hx)]
  ·rw [if_neg hx,if_neg (fun z=>hx ((e x).mpr z))])
theorem o6 {R:List (List aj)} (m:aw L) (h:Dt L (a,b)) (D:Dec L R) :
  (∃ A B S,Dec (rem L a b) ((if A = [] then [] else [A]) ++ (if B = [] then [] else [B]) ++ S)∧R.length = S.length + 1∧Wk (nx L) (nx L (a,b)) A (b,a)∧Wk (nx L) (nx L (b,a)) B (a,b))∨
  (∃ A B S,Dec (rem L a b) ((A ++ B) :: S)∧R.length = S.length + 2∧A≠[]∧B≠[]∧Wk (nx (rem L a b)) (nx L (a,b)) A (nx L (b,a))∧Wk (nx (rem L a b)) (nx L (b,a)) B (nx L (a,b))∧(∀ d∈A ++ B,Dt (rem L a b) d)):=by
 obtain ⟨b0,b1,b2,b3⟩:=h.back m
 have hb:Dt L (b,a):=⟨b0,b1,b3⟩
 have ne:(a,b)≠(b,a):=fun z=>b2 (congrArg Prod.fst z).symm
 have spec:∀ d,Dt L d→d≠(a,b)→d≠(b,a)→nx (rem L a b) d = if nx L d = (b,a) then nx L (a,b) else if nx L d = (a,b) then nx L (b,a) else nx L d:=fun d h0 h1 h2=>iJ m h ((bR m h).mpr ⟨h0,h1,h2⟩)
 obtain ⟨v,S,D1,GX,kv,_⟩:=D.front h
 have ou:=D1.nd
 rw [List.flatten_cons,List.cons_append,List.nodup_cons,List.mem_append] at ou
 obtain ⟨uj,Bu⟩:=ou
 obtain ⟨Va,Vd,U9⟩:=List.nodup_append.mp Bu
 have HY:∀ d∈v,Dt L d:=fun d hd=>(D1.mem d).mp (by rw [List.flatten_cons]; exact List.mem_append_left _ (List.mem_cons_of_mem _ hd))
 by_cases q:(b,a)∈v
 ·left
  obtain ⟨A,B,rfl⟩:=List.append_of_mem q
  obtain ⟨y,kA,kB⟩:=kv.split
  have:=kB.hd
  subst this
  have kB:=kB.tl
  obtain ⟨nA,nB,nX⟩:=List.nodup_append.mp Va
  obtain ⟨M8,Zg⟩:=List.nodup_cons.mp nB
  have PL:(b,a)∉A:=fun z=>nX _ z _ List.mem_cons_self rfl
  have Qi:(a,b)∉A:=fun z=>uj (.inl (List.mem_append_left _ z))
  have Qh:(a,b)∉B:=fun z=>uj (.inl (List.mem_append_right _ (List.mem_cons_of_mem _ z)))
  refine ⟨A,B,S,⟨fun c hc=>?_,?_,fun d=>?_⟩,GX,kA,kB⟩
  ·rcases List.mem_append.mp hc with hc | hc
   ·rcases List.mem_append.mp hc with hc | hc
    ·by_cases z:A = []
     ·rw [if_pos z] at hc; cases hc
     ·rw [if_neg z] at hc
      rw [List.mem_singleton.mp hc]
      have k2:Wk (nx (rem L a b)) (nx L (a,b)) A (nx L (a,b)):=kA.new z PL (fun d hd e=>by rw [spec d (HY d (List.mem_append_left _ hd)) (fun y=>Qi (y▸hd)) (fun y=>PL (y▸hd)),if_pos e]) fun d hd e=>by
       rw [spec d (HY d (List.mem_append_left _ hd)) (fun y=>Qi (y▸hd)) (fun y=>PL (y▸hd)),if_neg e,if_neg]
       intro y
       rcases kA.on d hd with w | w
       ·exact Qi (y▸w)
       ·exact e w
      cases A with
      | nil=>exact absurd rfl z
      | cons p A=>have:=k2.hd; subst this; exact ⟨_,_,rfl,k2⟩
    ·by_cases z:B = []
     ·rw [if_pos z] at hc; cases hc
     ·rw [if_neg z] at hc
      rw [List.mem_singleton.mp hc]
      have dB:∀ d∈B,Dt L d:=fun d hd=>HY d (List.mem_append_right _ (List.mem_cons_of_mem _ hd))
      have k2:Wk (nx (rem L a b)) (nx L (b,a)) B (nx L (b,a)):=kB.new z Qh (fun d hd e=>by rw [spec d (dB d hd) (fun y=>Qh (y▸hd)) (fun y=>M8 (y▸hd)),e,if_neg ne,if_pos rfl]) fun d hd e=>by
       rw [spec d (dB d hd) (fun y=>Qh (y▸hd)) (fun y=>M8 (y▸hd)),if_neg,if_neg e]
       intro y
       rcases kB.on d hd with w | w
       ·exact M8 (y▸w)
       ·exact e w
      cases B with
      | nil=>exact absurd rfl z
      | cons p B=>have:=k2.hd; subst this; exact ⟨_,_,rfl,k2⟩
   ·have cy:=D1.hZ c (List.mem_cons_of_mem _ hc)
    have NH:∀ d∈c,d∈S.flatten:=fun d hd=>List.mem_flatten.mpr ⟨c,hc,hd⟩
    have Ea:(a,b)∉c:=fun z=>uj (.inr (NH _ z))
    have wX:(b,a)∉c:=fun z=>U9 _ q _ (NH _ z) rfl
    obtain ⟨p,r,rfl,k⟩:=id cy
    refine ⟨p,r,rfl,k.congr fun d hd=>?_⟩
    have dd:Dt L d:=(D1.mem d).mp (by rw [List.flatten_cons]; exact List.mem_append_right _ (NH d hd))
    have on:=cy.on hd
    have o1:nx L d≠(b,a):=fun y=>wX (by rw [← y]; exact on)
    have o2:nx L d≠(a,b):=fun y=>Ea (by rw [← y]; exact on)
    rw [spec d dd (fun y=>Ea (y▸hd)) (fun y=>wX (y▸hd)),if_neg o1,if_neg o2]
  ·have fA:∀ A:List aj,(if A = [] then ([]:List (List aj)) else [A]).flatten = A:=fun A=>by
    by_cases z:A = []
    ·rw [if_pos z,z]; rfl
    ·rw [if_neg z]; simp
   rw [List.flatten_append,List.flatten_append,fA,fA,List.append_assoc]
   have:(A ++ (B ++ S.flatten)).Perm (A ++ (B ++ S.flatten)):=List.Perm.refl _
   have e:((A ++ (b,a) :: B) ++ S.flatten).Perm ((b,a) :: (A ++ (B ++ S.flatten))):=by
    rw [List.append_assoc,List.cons_append]
    exact List.perm_middle
   exact (List.nodup_cons.mp (e.nodup_iff.mp Bu)).2
  ·have fA:∀ A:List aj,(if A = [] then ([]:List (List aj)) else [A]).flatten = A:=fun A=>by
    by_cases z:A = []
    ·rw [if_pos z,z]; rfl
    ·rw [if_neg z]; simp
   rw [List.flatten_append,List.flatten_append,fA,fA,List.append_assoc,bR m h,← D1.mem]
   have e:((A ++ (b,a) :: B) ++ S.flatten).Perm ((b,a) :: (A ++ (B ++ S.flatten))):=by
    rw [List.append_assoc,List.cons_append]
    exact List.perm_middle
   have e2:=List.nodup_cons.mp (e.nodup_iff.mp Bu)
   rw [List.flatten_cons,List.cons_append]
   have e3:(a,b)∉A ++ (B ++ S.flatten):=fun z=>uj (List.mem_append.mp (e.mem_iff.mpr (List.mem_cons_of_mem _ z)))
   constructor
   ·intro z
    exact ⟨List.mem_cons_of_mem _ (e.mem_iff.mpr (List.mem_cons_of_mem _ z)),fun y=>e3 (y▸z),fun y=>e2.1 (y▸z)⟩
   ·rintro ⟨z,z1,z2⟩
    rcases List.mem_cons.mp z with z | z
    ·exact absurd z z1
    ·rcases List.mem_cons.mp (e.mem_iff.mp z) with z | z
     ·exact absurd z z2
     ·exact z
 ·right
  have q2:(b,a)∈S.flatten:=by
   have:=(D1.mem (b,a)).mpr hb
   rw [List.flatten_cons,List.cons_append] at this
   rcases List.mem_cons.mp this with z | z
   ·exact absurd z.symm ne
   ·rcases List.mem_append.mp z with z | z
    ·exact absurd z q
    ·exact z
  obtain ⟨c,hc,WO⟩:=List.mem_flatten.mp q2
  obtain ⟨T,pT⟩:=lH hc
  obtain ⟨w,pw,kw⟩:=(D1.hZ c (List.mem_cons_of_mem _ hc)).turn WO
  have pS:S.flatten.Perm (((b,a) :: w) ++ T.flatten):=by
   refine pT.flatten.trans ?_
   rw [List.flatten_cons]
   exact pw.symm.append_right _
  have nS:=pS.nodup_iff.mp Vd
  rw [List.cons_append,List.nodup_cons,List.mem_append] at nS
  obtain ⟨Vf,Zf⟩:=nS
  have Yc:(a,b)∉S.flatten:=fun z=>uj (.inr z)
  have Qe:(a,b)∉w:=fun z=>Yc (pS.mem_iff.mpr (List.mem_append_left _ (List.mem_cons_of_mem _ z)))
  have PJ:(b,a)∉w:=fun z=>Vf (.inl z)
  have Qf:(a,b)∉v:=fun z=>uj (.inl z)
  have Sn:∀ d∈w,Dt L d:=fun d hd=>(D1.mem d).mp (by rw [List.flatten_cons]; exact List.mem_append_right _ (pS.mem_iff.mpr (List.mem_append_left _ (List.mem_cons_of_mem _ hd))))
  have v0:v≠[]:=fun z=>by
   rw [z] at kv
   have:nx L (a,b) = (a,b):=kv.nil_eq
   exact b2 (congrArg Prod.fst this)
  have w0:w≠[]:=fun z=>by
   rw [z] at kw
   have:nx L (b,a) = (b,a):=kw.nil_eq
   exact b2 (congrArg Prod.fst this).symm
  have k1:Wk (nx (rem L a b)) (nx L (a,b)) v (nx L (b,a)):=kv.new v0 Qf (fun d hd e=>by rw [spec d (HY d hd) (fun y=>Qf (y▸hd)) (fun y=>q (y▸hd)),e,if_neg ne,if_pos rfl]) fun d hd e=>by
   rw [spec d (HY d hd) (fun y=>Qf (y▸hd)) (fun y=>q (y▸hd)),if_neg,if_neg e]
   intro y
   rcases kv.on d hd with u | u
   ·exact q (y▸u)
   ·exact e u
  have k2:Wk (nx (rem L a b)) (nx L (b,a)) w (nx L (a,b)):=kw.new w0 PJ (fun d hd e=>by rw [spec d (Sn d hd) (fun y=>Qe (y▸hd)) (fun y=>PJ (y▸hd)),if_pos e]) fun d hd e=>by
   rw [spec d (Sn d hd) (fun y=>Qe (y▸hd)) (fun y=>PJ (y▸hd)),if_neg e,if_neg]
   intro y
   rcases kw.on d hd with u | u
   ·exact Qe (y▸u)
   ·exact e u
  have pe:((a,b) :: (v ++ S.flatten)).Perm ((a,b) :: (b,a) :: ((v ++ w) ++ T.flatten)):=by
   refine List.Perm.cons _ ?_
   rw [List.append_assoc]
   exact (pS.append_left v).trans (by rw [List.cons_append]; exact List.perm_middle)
  have nA:((a,b) :: (b,a) :: ((v ++ w) ++ T.flatten)).Nodup:=pe.nodup_iff.mp (List.nodup_cons.mpr ⟨fun z=>uj (List.mem_append.mp z),Bu⟩)
  obtain ⟨Rk,Vh⟩:=List.nodup_cons.mp nA
  obtain ⟨Rj,Vg⟩:=List.nodup_cons.mp Vh
  have mm:∀ d,d∈(v ++ w) ++ T.flatten↔Dt (rem L a b) d:=fun d=>by
   rw [bR m h,← D1.mem,List.flatten_cons,List.cons_append,pe.mem_iff]
   constructor
   ·intro z
    exact ⟨List.mem_cons_of_mem _ (List.mem_cons_of_mem _ z),fun y=>Rk (List.mem_cons_of_mem _ (y▸z)),fun y=>Rj (y▸z)⟩
   ·rintro ⟨z,z1,z2⟩
    rcases List.mem_cons.mp z with z | z
    ·exact absurd z z1
    ·rcases List.mem_cons.mp z with z | z
     ·exact absurd z z2
     ·exact z
  refine ⟨v,w,T,⟨fun s hs=>?_,by rw [List.flatten_cons]; exact Vg,fun d=>by rw [List.flatten_cons]; exact mm d⟩,by rw [GX,pT.length_eq]; rfl,v0,w0,k1,k2,fun d hd=>(mm d).mp (List.mem_append_left _ hd)⟩
  rcases List.mem_cons.mp hs with z | z
  ·rw [z]
   have k:=k1.append k2
   cases v with
   | nil=>exact absurd rfl v0
   | cons p v=>have:=k1.hd; subst this; exact ⟨_,_,rfl,k⟩
  ·have Wh:s∈S:=pT.mem_iff.mpr (List.mem_cons_of_mem _ z)
   have cy:=D1.hZ s (List.mem_cons_of_mem _ Wh)
   have NG:∀ d∈s,d∈T.flatten:=fun d hd=>List.mem_flatten.mpr ⟨s,z,hd⟩
   have Ea:(a,b)∉s:=fun y=>Rk (List.mem_cons_of_mem _ (List.mem_append_right _ (NG _ y)))
   have wX:(b,a)∉s:=fun y=>Rj (List.mem_append_right _ (NG _ y))
   obtain ⟨p,r,rfl,k⟩:=id cy
   refine ⟨p,r,rfl,k.congr fun d hd=>?_⟩
   have dd:Dt L d:=((bR m h).mp ((mm d).mp (List.mem_append_right _ (NG d hd)))).1
   have on:=cy.on hd
   have o1:nx L d≠(b,a):=fun y=>wX (by rw [← y]; exact on)
   have o2:nx L d≠(a,b):=fun y=>Ea (by rw [← y]; exact on)
   rw [spec d dd (fun y=>Ea (y▸hd)) (fun y=>wX (y▸hd)),if_neg o1,if_neg o2]
end
end Gm
end
section
namespace Gm
open PySem L2
def iso (L:List (List Int)):Nat:=L.countP (·.isEmpty)
def h7 (L:List (List Int)) (S:List Int):Prop:=∀ x:Int,0≤x→x < L.length→∃ s∈S,Reach L s x
theorem Reach.one {L:List (List Int)} {s:Int} {d:aj} (h:Reach L s d.1) (q:Dt L d):Reach L s d.2:=by
 have e:((d.1.toNat:Nat):Int) = d.1:=Int.toNat_of_nonneg q.lo
 exact .step (i:=d.1.toNat) (by rw [e]; exact h) (aq q.lo q.hi) q.mem
theorem Reach.trans {L:List (List Int)} {s x y:Int} (h:Reach L s x) (k:Reach L x y):Reach L s y:=by
 induction k with
 | here=>exact h
 | step _ e hx ih=>exact .step ih e hx
theorem Reach.nD {L:List (List Int)} {i:Nat} {l:List Int} {x:Int} (e:L[i]? = some l) (hx:x∈l):Dt L ((i:Int),x):=by
 have hi:=(List.getElem?_eq_some_iff.mp e).1
 have:=aq (L:=L) (a:=(i:Int)) (by omega) (by omega)
 rw [Int.toNat_natCast,e] at this
 exact ⟨by simp,by simpa using hi,by rw [← Option.some.inj this]; exact hx⟩
section
variable {L:List (List Int)} {a b:Int}
theorem Reach.off (m:aw L) (h:Dt L (a,b)) {s x:Int} (r:Reach L s x):Reach (rem L a b) s x∨Reach (rem L a b) a x∨Reach (rem L a b) b x:=by
 induction r with
 | here=>exact .inl .here
 | step r e hx ih=>
  rename_i i l y
  have d:=Reach.nD e hx
  by_cases e1:((i:Int),y) = (a,b)
  ·have:y = b:=congrArg Prod.snd e1
   rw [this]; exact .inr (.inr .here)
  ·by_cases e2:((i:Int),y) = (b,a)
   ·have:y = a:=congrArg Prod.snd e2
    rw [this]; exact .inr (.inl .here)
   ·have d2:=(bR m h).mpr ⟨d,e1,e2⟩
    rcases ih with z | z | z
    ·exact .inl (Reach.one (d:=((i:Int),y)) z d2)
    ·exact .inr (.inl (Reach.one (d:=((i:Int),y)) z d2))
    ·exact .inr (.inr (Reach.one (d:=((i:Int),y)) z d2))
theorem Reach.near (m:aw L) (h:Dt L (a,b)) {s x:Int} (r:Reach L s x):Reach (rem L a b) s x∨Reach (rem L a b) s a∨Reach (rem L a b) s b:=by
 induction r with
 | here=>exact .inl .here
 | step r e hx ih=>
  rename_i i l y
  have d:=Reach.nD e hx
  rcases ih with z | z
  ·by_cases e1:((i:Int),y) = (a,b)
   ·have:(i:Int) = a:=congrArg Prod.fst e1
    rw [this] at z; exact .inr (.inl z)
   ·by_cases e2:((i:Int),y) = (b,a)
    ·have:(i:Int) = b:=congrArg Prod.fst e2
     rw [this] at z; exact .inr (.inr z)
    ·exact .inl (Reach.one (d:=((i:Int),y)) z ((bR m h).mpr ⟨d,e1,e2⟩))
  ·exact .inr z
theorem Wk.reach {x y:aj} {l:List aj} (h:Wk (nx L) x l y) (q:∀ d∈l,Dt L d):Reach L x.1 y.1:=by
 induction h with
 | nil _=>exact .here
 | @cons x y l _ ih=>
  have d:=q x List.mem_cons_self
  exact (Reach.one (d:=x) .here d).trans (ih fun d hd=>q d (List.mem_cons_of_mem _ hd))
theorem h7.more (m:aw L) (h:Dt L (a,b)) {S:List Int} (s:h7 L S):∃ t,h7 (rem L a b) (t :: S):=by
 obtain ⟨b0,b1,b2,b3⟩:=h.back m
 obtain ⟨s0,G5,r0⟩:=s a h.lo h.hi
 have pick:Reach (rem L a b) s0 a∨Reach (rem L a b) s0 b:=by
  rcases r0.near m h with z | z | z
  ·exact .inl z
  ·exact .inl z
  ·exact .inr z
 rcases pick with p | p
 ·refine ⟨b,fun x x0 x1=>?_⟩
  rw [eO] at x1
  obtain ⟨s1,G4,r1⟩:=s x x0 x1
  rcases r1.off m h with z | z | z
  ·exact ⟨s1,List.mem_cons_of_mem _ G4,z⟩
  ·exact ⟨s0,List.mem_cons_of_mem _ G5,p.trans z⟩
  ·exact ⟨b,List.mem_cons_self,z⟩
 ·refine ⟨a,fun x x0 x1=>?_⟩
  rw [eO] at x1
  obtain ⟨s1,G4,r1⟩:=s x x0 x1
  rcases r1.off m h with z | z | z
  ·exact ⟨s1,List.mem_cons_of_mem _ G4,z⟩
  ·exact ⟨a,List.mem_cons_self,z⟩
  ·exact ⟨s0,List.mem_cons_of_mem _ G5,p.trans z⟩
theorem h7.F9 (m:aw L) (h:Dt L (a,b)) (r1:Reach (rem L a b) a b) (r2:Reach (rem L a b) b a) {S:List Int} (s:h7 L S):h7 (rem L a b) S:=by
 obtain ⟨s0,G5,r0⟩:=s a h.lo h.hi
 have pick:Reach (rem L a b) s0 a:=by
  rcases r0.near m h with z | z | z
  ·exact z
  ·exact z
  ·exact z.trans r2
 intro x x0 x1
 rw [eO] at x1
 obtain ⟨s1,G4,q⟩:=s x x0 x1
 rcases q.off m h with z | z | z
 ·exact ⟨s1,G4,z⟩
 ·exact ⟨s0,G5,pick.trans z⟩
 ·exact ⟨s0,G5,(pick.trans r1).trans z⟩
theorem o5 (m:aw L) (h:Dt L (a,b)):iso (rem L a b) = iso L + (if (rowOf L b).erase a = [] then 1 else 0) + (if (rowOf L a).erase b = [] then 1 else 0):=by
 obtain ⟨b0,b1,b2,b3⟩:=h.back m
 have a0:=h.lo
 have a1:=h.hi
 have hm:=h.mem
 dsimp only at a0 a1 b0 b1 b2 b3 hm
 have la:a.toNat < L.length:=by omega
 have lb:b.toNat < L.length:=by omega
 have ea:L[a.toNat] = rowOf L a:=by have:=aq a0 a1; rw [List.getElem?_eq_getElem la] at this; exact Option.some.inj this
 have eb:L[b.toNat] = rowOf L b:=by have:=aq b0 b1; rw [List.getElem?_eq_getElem lb] at this; exact Option.some.inj this
 have na:(rowOf L a).isEmpty = false:=by cases q:rowOf L a with | nil=>rw [q] at hm; cases hm | cons _ _=>rfl
 have nb:(rowOf L b).isEmpty = false:=by cases q:rowOf L b with | nil=>rw [q] at b3; cases b3 | cons _ _=>rfl
 have iE:∀ l:List Int,(if l.isEmpty = true then 1 else 0) = (if l = [] then 1 else 0):=fun l=>by cases l <;> simp
 unfold iso rem
 have gD:¬ a.toNat = b.toNat:=by omega
 have e1:(L.set a.toNat ((rowOf L a).erase b))[b.toNat]'(by rw [List.length_set]; exact lb) = rowOf L b:=by rw [List.getElem_set,if_neg gD,eb]
 rw [List.countP_set (by rw [List.length_set]; exact lb),List.countP_set la,e1,ea,na,nb,iE,iE]
 simp only [Bool.false_eq_true,if_false,Nat.sub_zero]
 omega
theorem eX (m:aw L) (h:Dt L (a,b)):(rowOf L b).erase a = []↔nx L (a,b) = (b,a):=by
 obtain ⟨b0,b1,b2,b3⟩:=h.back m
 dsimp only at b0 b1 b2 b3
 have n:=m.nd _ _ (aq b0 b1)
 constructor
 ·intro z
  have:rowOf L b = [a]:=by
   obtain ⟨u,v,e⟩:=List.append_of_mem b3
   rw [e] at z n ⊢
   have yu:a∉u:=fun y=>(List.nodup_append.mp n).2.2 a y a List.mem_cons_self rfl
   rw [List.erase_append_right _ yu,List.erase_cons_head] at z
   obtain ⟨z1,z2⟩:=List.append_eq_nil_iff.mp z
   rw [z1,z2]; rfl
  unfold nx
  rw [this]
  refine Prod.ext rfl ?_
  show pre [a] a = a
  unfold pre cy
  simp [Nat.mod_one]
 ·intro z
  have e:pre (rowOf L b) a = a:=congrArg Prod.snd z
  rw [lD n b3 e]
  simp
end
end Gm
end
section
namespace Gm
open PySem L2
theorem Wk.all {f:aj→aj} {x y:aj} {l:List aj} {P:aj→Prop} (h:Wk f x l y) (hx:P x) (s:∀ d∈l,P d→P (f d)):∀ d∈l,P d:=by
 induction h with
 | nil _=>intro d hd; cases hd
 | @cons x y l _ ih=>
  intro d hd
  rcases List.mem_cons.mp hd with e | e
  ·rw [e]; exact hx
  ·exact ih (s x List.mem_cons_self hx) (fun d hd=>s d (List.mem_cons_of_mem _ hd)) d e
theorem jW.conn {f:aj→aj} {c:List aj} {x y:aj} {P:aj→Prop} (h:jW f c) (hx:x∈c) (hy:y∈c) (px:P x) (s:∀ d∈c,P d→P (f d)):P y:=by
 obtain ⟨v,p,k⟩:=h.turn hx
 have k2:Wk f x (x :: v) x:=.cons k
 exact k2.all px (fun d hd=>s d (p.mem_iff.mp hd)) y (p.mem_iff.mpr hy)
theorem eY {R:List (List aj)} (n:R.flatten.Nodup) {c e:List aj} {d:aj} (hc:c∈R) (he:e∈R) (h1:d∈c) (h2:d∈e):c = e:=by
 have p:=(List.pairwise_flatten.mp n).2
 obtain ⟨i,hi,rfl⟩:=List.mem_iff_getElem.mp hc
 obtain ⟨j,hj,rfl⟩:=List.mem_iff_getElem.mp he
 have q:=List.pairwise_iff_getElem.mp p
 rcases Nat.lt_trichotomy i j with z | z | z
 ·exact absurd rfl (q i j hi hj z d h1 d h2)
 ·subst z; rfl
 ·exact absurd rfl (q j i hj hi z d h2 d h1)
def EF (c:List aj):aj:=c.headD (0,0)
def rep (R:List (List aj)) (d:aj):aj:=((R.find? fun c=>decide (d∈c)).map EF).getD (0,0)
theorem tR {R:List (List aj)} {d:aj} (h:d∈R.flatten):∃ c∈R,d∈c∧rep R d = EF c:=by
 obtain ⟨c,hc,hd⟩:=List.mem_flatten.mp h
 unfold rep
 cases q:R.find? fun c=>decide (d∈c) with
 | none=>have:=List.find?_eq_none.mp q c hc; simp [hd] at this
 | some e=>
  have h1:=List.find?_some q
  exact ⟨e,List.mem_of_find?_eq_some q,by simpa using h1,rfl⟩
theorem mh {c:List aj} (h:c≠[]):EF c∈c:=by cases c with | nil=>exact absurd rfl h | cons a l=>exact List.mem_cons_self
theorem Dec.le {L:List (List Int)} {R S:List (List aj)} (h:Dec L R) (k:Dec L S):R.length≤S.length:=by
 have hm:∀ c∈R,EF c∈S.flatten:=fun c hc=>(k.mem _).mpr ((h.mem _).mp (List.mem_flatten.mpr ⟨c,hc,mh (h.hZ c hc).ne⟩))
 have n:(R.map fun c=>rep S (EF c)).Nodup:=by
  have p:=(List.pairwise_flatten.mp h.nd).2
  refine List.Pairwise.map _ (fun x y nv=>nv) (List.Pairwise.imp_of_mem (fun {c e} hc he WL z=>?_) p)
  obtain ⟨c',h1,h2,h3⟩:=tR (hm c hc)
  obtain ⟨e',g1,g2,g3⟩:=tR (hm e he)
  rw [h3,g3] at z
  have ee:c' = e':=eY k.nd h1 g1 (mh (k.hZ c' h1).ne) (by rw [z]; exact mh (k.hZ e' g1).ne)
  subst ee
  have:EF e∈c:=(k.hZ c' h1).conn (P:=fun d=>d∈c) h2 g2 (mh (h.hZ c hc).ne) fun d _ hd=>(h.hZ c hc).on hd
  exact WL _ this _ (mh (h.hZ e he).ne) rfl
 have:=bN n (r:=S.map EF) fun x hx=>by
  obtain ⟨c,hc,rfl⟩:=List.mem_map.mp hx
  obtain ⟨c',h1,h2,h3⟩:=tR (hm c hc)
  rw [h3]
  exact List.mem_map.mpr ⟨c',h1,rfl⟩
 simpa using this
theorem Dec.count {L:List (List Int)} {R S:List (List aj)} (h:Dec L R) (k:Dec L S):R.length = S.length:=Nat.le_antisymm (h.le k) (k.le h)
theorem Cu {L:List (List Int)} {r:List Int} (g:Good L r):∀ (n s:Nat),Wk (nx L) (dj r s) ((List.range n).map fun j=>dj r (j + s)) (dj r (s + n))
 | 0,s=>.nil _
 | n + 1,s=>by
  have e2:(List.range (n + 1)).map (fun j=>dj r (j + s)) = dj r s :: (List.range n).map (fun j=>dj r (j + (s + 1))):=by
   rw [List.range_succ_eq_map,List.map_cons,List.map_map,Nat.zero_add]
   congr 1
   refine List.map_congr_left fun j _=>?_
   show dj r (j + 1 + s) = _
   congr 1
   omega
  rw [e2]
  refine .cons ?_
  rw [g.st,show s + (n + 1) = s + 1 + n by omega]
  exact Cu g n (s + 1)
theorem Good.hZ {L:List (List Int)} {r:List Int} (g:Good L r):jW (nx L) (sh 0 r):=by
 have k:=Cu g r.length 0
 have e:dj r (0 + r.length) = dj r 0:=ck (by rw [Nat.zero_add,Nat.mod_self,Nat.zero_mod])
 rw [e] at k
 have two:=g.two
 have k':Wk (nx L) (dj r 0) (sh 0 r) (dj r 0):=k
 cases q:sh 0 r with
 | nil=>have:=bQ 0 r; rw [q] at this; simp at this; omega
 | cons x l=>
  rw [q] at k'
  have:=k'.hd
  subst this
  exact ⟨_,_,rfl,k'⟩
theorem bq.dec {L R:List (List Int)} (h:bq L R):Dec L (R.map (sh 0)):=by
 have e:(R.map (sh 0)).flatten = R.flatMap (sh 0):=rfl
 refine ⟨fun c hc=>?_,by rw [e]; exact h.nd,fun d=>?_⟩
 ·obtain ⟨r,hr,rfl⟩:=List.mem_map.mp hc
  exact (h.good r hr).hZ
 ·rw [e]
  constructor
  ·intro z
   obtain ⟨r,hr,hd⟩:=List.mem_flatMap.mp z
   obtain ⟨j,rfl⟩:=(cG (by have:=(h.good r hr).two; omega)).mp hd
   exact (h.good r hr).dt j
  ·exact h.all d
theorem gW {L:List (List Int)}:∀ {k:Nat} {d:aj},k≤L.length→(d∈eh L k↔0≤d.1∧d.1 < k∧d.1 < d.2∧d.2 < L.length∧d.2∈rowOf L d.1)
 | 0,d,_=>by simp only [eh,List.not_mem_nil,false_iff]; intro h; omega
 | k + 1,d,hk=>by
  rw [eh,List.mem_append,gW (by omega),List.mem_map]
  have er:L.getD k [] = rowOf L (k:Int):=rfl
  rw [er]
  constructor
  ·rintro (⟨h1,h2,h3⟩ | ⟨x,hx,rfl⟩)
   ·exact ⟨h1,by omega,h3⟩
   ·have:=gT.mp hx
    exact ⟨by simp,by simp; omega,this.1,by have:=this.2.1; dsimp only; omega,this.2.2⟩
  ·rintro ⟨h1,h2,h3,h4,h5⟩
   by_cases e:d.1 = k
   ·right
    rw [e] at h5 h3
    exact ⟨d.2,gT.mpr ⟨h3,by omega,h5⟩,Prod.ext e.symm rfl⟩
   ·left; exact ⟨h1,by omega,h3,h4,h5⟩
theorem lK {L:List (List Int)}:∀ {k:Nat},k≤L.length→(eh L k).Nodup
 | 0,_=>.nil
 | k + 1,hk=>by
  rw [eh,List.nodup_append]
  refine ⟨lK (by omega),?_,fun a ha b hb z=>?_⟩
  ·exact List.Pairwise.map _ (fun x y nv z=>by have:=congrArg Prod.snd z; dsimp only at this; omega) (gJ (i:=k) (l:=L.getD k []) (L.length - (k + 1)))
  ·have:=((gW (by omega)).mp ha).2.1
   obtain ⟨x,_,rfl⟩:=List.mem_map.mp hb
   rw [z] at this
   simp at this
theorem sM:∀ (l:List aj) (p:aj→Bool),l.length = (l.filter p).length + (l.filter fun d=>!p d).length
 | [],_=>rfl
 | x :: l,p=>by
  have:=sM l p
  cases q:p x with
  | true=>rw [List.filter_cons_of_pos q,List.filter_cons_of_neg (by simp [q]),List.length_cons,List.length_cons]; omega
  | false=>rw [List.filter_cons_of_neg (by simp [q]),List.filter_cons_of_pos (by simp [q]),List.length_cons,List.length_cons]; omega
theorem cZ {L:List (List Int)} (m:aw L):(cT L L.length).length = 2 * (eh L L.length).length:=by
 have n:=cF m (Nat.le_refl L.length)
 have nd:=lK (L:=L) (Nat.le_refl L.length)
 have s:=sM (cT L L.length) (fun d:aj=>decide (d.1 < d.2))
 have e1:((cT L L.length).filter fun d=>decide (d.1 < d.2)).length = (eh L L.length).length:=by
  refine len_eq (n.filter _) nd fun d=>?_
  rw [List.mem_filter,gW (Nat.le_refl _)]
  constructor
  ·rintro ⟨h1,h2⟩
   have q:=Dt.of h1
   exact ⟨q.lo,q.hi,by simpa using h2,(q.back m).2.1,q.mem⟩
  ·rintro ⟨h1,h2,h3,h4,h5⟩
   exact ⟨Dt.all ⟨h1,h2,h5⟩,by simpa using h3⟩
 have e2:((cT L L.length).filter fun d=>!decide (d.1 < d.2)).length = ((eh L L.length).map fun d=>(d.2,d.1)).length:=by
  have CN:((eh L L.length).map fun d=>(d.2,d.1)).Nodup:=List.Pairwise.map _ (fun x y nv z=>nv (Prod.ext (congrArg Prod.snd z) (congrArg Prod.fst z))) nd
  refine len_eq (n.filter _) CN fun d=>?_
  ·rw [List.mem_filter,List.mem_map]
   constructor
   ·rintro ⟨h1,h2⟩
    have q:=Dt.of h1
    obtain ⟨b0,b1,b2,b3⟩:=q.back m
    refine ⟨(d.2,d.1),(gW (Nat.le_refl _)).mpr ⟨b0,b1,?_,q.hi,b3⟩,rfl⟩
    have:¬ d.1 < d.2:=by simpa using h2
    dsimp only
    omega
   ·rintro ⟨e,he,rfl⟩
    obtain ⟨h1,h2,h3,h4,h5⟩:=(gW (Nat.le_refl _)).mp he
    obtain ⟨b0,b1,b2,b3⟩:=Dt.back (d:=e) ⟨h1,h2,h5⟩ m
    refine ⟨Dt.all ⟨b0,b1,b3⟩,?_⟩
    have:¬ e.2 < e.1:=by omega
    simpa using this
 rw [List.length_map] at e2
 omega
theorem Ct {L:List (List Int)} {d:aj}:∀ k,Wk (nx L) d (tr L d k) (it L d k)
 | 0=>.nil _
 | k + 1=>by
  have e:tr L d (k + 1) = tr L d k ++ [it L d k]:=by unfold tr; rw [List.range_succ,List.map_append]; rfl
  rw [e]
  exact (Ct k).append (.cons (.nil _))
theorem Di {L:List (List Int)} {d:aj} {k:Nat} (hk:0 < k) (e:it L d k = d):jW (nx L) (tr L d k):=by
 have w:=Ct (L:=L) (d:=d) k
 rw [e] at w
 obtain ⟨j,rfl⟩:∃ j,k = j + 1:=⟨k - 1,by omega⟩
 have e2:tr L d (j + 1) = d :: (tr L d (j + 1)).tail:=by unfold tr; rw [List.range_succ_eq_map]; rfl
 exact ⟨d,_,e2,w⟩
theorem mC {L:List (List Int)} {d:aj} (m:aw L) (h:Dt L d):∃ k,0 < k∧it L d k = d∧h8 L d k:=by
 have go:∀ n,(∃ k,0 < k∧it L d k = d∧h8 L d k)∨h8 L d (n + 1):=by
  intro n
  induction n with
  | zero=>exact .inr fun i h1 h2=>by omega
  | succ n ih=>
   rcases ih with z | z
   ·exact .inl z
   ·by_cases e:it L d (n + 1) = d
    ·exact .inl ⟨n + 1,by omega,e,z⟩
    ·refine .inr fun i h1 h2=>?_
     by_cases q:i = n + 1
     ·rw [q]; exact e
     ·exact z i h1 (by omega)
 rcases go (cT L L.length).length with z | z
 ·exact z
 ·have:=lP m h z
  omega
structure Dp (L:List (List Int)) (R:List (List aj)):Prop where
 hZ:∀ c∈R,jW (nx L) c
 nd:R.flatten.Nodup
 dt:∀ d∈R.flatten,Dt L d
section
variable {L:List (List Int)} {R:List (List aj)} {d:aj} {k:Nat}
theorem Dp.start:Dp L []:=⟨by simp,.nil,by simp⟩
theorem Dp.on (p:Dp L R) (h:d∈R.flatten):∀ t,it L d t∈R.flatten
 | 0=>h
 | t + 1=>by
  obtain ⟨c,hc,hd⟩:=List.mem_flatten.mp (p.on h t)
  exact List.mem_flatten.mpr ⟨c,hc,(p.hZ c hc).on hd⟩
theorem Dp.new (p:Dp L R) (hk:0 < k) (e:it L d k = d) (n:d∉R.flatten) (j:Nat):it L d j∉R.flatten:=by
 intro h
 refine n ?_
 have:=p.on h (k * j - j)
 rw [← lY,show j + (k * j - j) = k * j from by have:=Nat.le_mul_of_pos_left j hk; omega,Nat.mul_comm] at this
 have z:=ux e (j * k)
 rw [Nat.mul_mod_left] at z
 rw [← z] at this
 exact this
theorem Dp.add (m:aw L) (p:Dp L R) (h:Dt L d) (hk:0 < k) (e:it L d k = d) (nr:h8 L d k) (n:d∉R.flatten):Dp L (R ++ [tr L d k]):=by
 refine ⟨fun c hc=>?_,?_,fun x hx=>?_⟩
 ·rcases List.mem_append.mp hc with z | z
  ·exact p.hZ c z
  ·rw [List.mem_singleton.mp z]; exact Di hk e
 ·rw [List.flatten_append,List.flatten_singleton,List.nodup_append]
  refine ⟨p.nd,iV m h nr,fun x hx y hy z=>?_⟩
  obtain ⟨j,_,rfl⟩:=List.mem_map.mp hy
  exact p.new hk e n j (z▸hx)
 ·rw [List.flatten_append,List.flatten_singleton] at hx
  rcases List.mem_append.mp hx with z | z
  ·exact p.dt x z
  ·obtain ⟨j,_,rfl⟩:=List.mem_map.mp z
   exact j6 m h j
theorem Dp.len (p:Dp L R):R.flatten.length≤(cT L L.length).length:=bN p.nd fun x hx=>(p.dt x hx).all
theorem Dp.xS:∀ {R:List (List aj)},(∀ c∈R,c≠[])→R.length≤R.flatten.length
 | [],_=>Nat.le_refl _
 | c :: R,h=>by
  have:=Dp.xS (R:=R) fun x hx=>h x (List.mem_cons_of_mem _ hx)
  have:=List.length_pos_iff.mpr (h c List.mem_cons_self)
  rw [List.flatten_cons,List.length_append,List.length_cons]
  omega
theorem Dp.dec (p:Dp L R) (all:∀ d,Dt L d→d∈R.flatten):Dec L R:=⟨p.hZ,p.nd,fun d=>⟨p.dt d,all d⟩⟩
end
theorem aQ.away {H:Hp} {t b:Addr} {bs:List Addr} {R:List (List Int)} {o:HO} (g:aQ H t bs R) (n:b∉t :: bs):aQ (upd H b o) t bs R:=by
 refine ⟨?_,g.len,fun i a l h1 h2=>?_⟩
 ·rw [ax (fun z=>n (by rw [← z]; exact List.mem_cons_self))]; exact g.top
 ·have am:=List.mem_of_getElem? h1
  have ne:a≠b:=fun z=>n (by rw [← z]; exact List.mem_cons_of_mem _ am)
  rw [ax ne]
  exact g.row i a l h1 h2
end Gm
end
section
namespace L2
open PySem PySem.Spec PySem.W PySem.Calls PyProof.Rows
section
variable {X:Cx}
def qw (ns:List Int):List Int:=ns.foldl step_dedup []
theorem uE (ns:List Int):firstMet (fun i=>ns.getD i 0) ns.length = qw ns:=by
 unfold firstMet qw
 rw [show ((List.range ns.length).map fun i=>ns.getD i 0) = ns from Gm.range_getD ns]
theorem we:∀ (ns σ : List Int),σ.Nodup→((ns.foldl step_dedup σ).length = σ.length + ns.length↔(σ ++ ns).Nodup)
 | [],σ,h=>by simp [h]
 | x :: ns,σ,h=>by
  rw [List.foldl_cons]
  by_cases e:x∈σ
  ·have e1:step_dedup σ x = σ:=by unfold step_dedup; rw [if_pos (by simpa using e)]
   rw [e1]
   constructor
   ·intro z
    have:=foldl_step_dedup_length_le σ ns
    rw [List.length_cons] at z
    omega
   ·intro z
    exact absurd rfl ((List.nodup_append.mp z).2.2 x e x List.mem_cons_self)
  ·have e1:step_dedup σ x = σ ++ [x]:=by unfold step_dedup; rw [if_neg (by simpa using e)]
   rw [e1]
   have n1:(σ ++ [x]).Nodup:=(List.perm_append_singleton x σ).nodup_iff.mpr (List.nodup_cons.mpr ⟨e,h⟩)
   have:=we ns (σ ++ [x]) n1
   rw [List.length_append,List.length_singleton,List.append_assoc,List.singleton_append] at this
   rw [← this,List.length_cons]
   omega
theorem mG (ns:List Int):(qw ns).length = ns.length↔ns.Nodup:=by
 have:=we ns [] .nil
 rw [List.length_nil,Nat.zero_add,List.nil_append] at this
 exact this
def Gv (K:Frag):List V→Hp→VK→Prop:=fun vs H Q=>∃ (a:Addr) (ns:List Int),vs = [.ref a]∧aD K H a (ns.map V.int)∧ns.length≤1000∧∀ (p:Addr) (S:Int→Bool),H p = none→Q (.ref p) (upd H p (.set S (qw ns).length))
theorem oF (hc:X.calm = true):fH X (.type "set") (Gv X.K):=by
 intro pins s σ H xs us Q I r h
 obtain ⟨a,ns,rfl,ha,hl,q⟩:=h
 obtain ⟨u,rfl,ru⟩:=vals1 r
 cases ru
 obtain ⟨aL,rv,pl,hz⟩:=I.list ha
 have hi:IntsAre aL ns:=intsAre_of rv
 have zl:=hi.length
 refine call_set_list (I.ok.hd hc) pl.isList (by simpa using hi) (by rw [List.size_toArray,zl]; exact Nat.lt_of_le_of_lt (Nat.succ_le_succ hl) (by decide)) fun h' tk hS kk=>?_
 have ez:aL.toArray.size = ns.length:=by rw [List.size_toArray]; exact zl
 rw [ez,uE] at hS
 exact ⟨.ref s.heap.objs.size,_,I.laid (t':=tk) (fun b o e=>kk b o (Heap.lt_size e) e) (Nat.le_refl _) (show bP X.prog X.w _ h' s.heap.objs.size (.set _ (qw ns).length) from hS),rfl,q _ _ (I.bS.fresh (Nat.le_refl _))⟩
theorem oH:fH X (.builtin "len") (fun xs H Q=>∃ a S n,xs = [V.ref a]∧H a = some (.set S n)∧Q (.int (n:Nat)) H):=by
 intro pins s σ H xs us Q I r h
 obtain ⟨a,S,n,rfl,ha,q⟩:=h
 obtain ⟨u,rfl,ru⟩:=vals1 r
 cases ru
 obtain ⟨o,es,ep,tt,ho,hex,hd,_,_,eG,hf,hn⟩:=(show s.heap.SetOf (intKind X.prog X.w) a S n from I.bS a _ ha)
 have lt:es.size < 4096:=eG
 refine call_len_set ho hex hd hf (by omega) ⟨.int (n:Nat),H,I.tok _,⟨_,by rw [hn]⟩,q⟩
def Ud:R2:=fun x y H Q=>∃ a b:Bool,x = .bl a∧y = .bl b∧Q (.bl (a == b)) H
def Ue (K:Frag):R2:=fun x y H Q=>∃ (p l:Addr) (d:Int×Int) (ps:List Addr) (T:List (Int×Int)),x = .ref p∧y = .ref l∧H p = some (.tup [.int d.1,.int d.2])∧H l = some (.lst (ps.map V.ref))∧Gm.PR H ps T∧Q (.bl (decide (d∈T))) H
def Jr:V→List V→Hp→VK→Prop:=fun x vs H Q=>∃ (l:Addr) (ns:List Int) (y:Int),x = .ref l∧vs = [.int y]∧H l = some (.lst (ns.map V.int))∧y∈ns∧Q .cV (upd H l (.lst ((ns.erase y).map V.int)))
end
end L2
end
section
namespace Gm
open PySem L2
theorem mD {L:List (List Int)} (m:aw L):∃ R,Dec L R:=by
 have go:∀ ds:List aj,(∀ d∈ds,Dt L d)→∃ R,Dp L R∧∀ d∈ds,d∈R.flatten:=by
  intro ds
  induction ds with
  | nil=>intro _; exact ⟨[],Dp.start,by simp⟩
  | cons d ds ih=>
   intro h
   obtain ⟨R,p,q⟩:=ih fun x hx=>h x (List.mem_cons_of_mem _ hx)
   by_cases e:d∈R.flatten
   ·refine ⟨R,p,fun x hx=>?_⟩
    rcases List.mem_cons.mp hx with z | z
    ·rw [z]; exact e
    ·exact q x z
   ·have dt:=h d List.mem_cons_self
    obtain ⟨k,k0,ek,nr⟩:=mC m dt
    refine ⟨_,p.add m dt k0 ek nr e,fun x hx=>?_⟩
    rw [List.flatten_append,List.flatten_singleton]
    rcases List.mem_cons.mp hx with z | z
    ·rw [z]; exact List.mem_append_right _ (List.mem_map.mpr ⟨0,List.mem_range.mpr k0,rfl⟩)
    ·exact List.mem_append_left _ (q x z)
 obtain ⟨R,p,q⟩:=go (cT L L.length) fun d hd=>Dt.of hd
 exact ⟨R,p.dec fun d hd=>q d hd.all⟩
theorem Wk.last {f:aj→aj} {x y:aj} {l:List aj} (h:Wk f x l y) (n:l≠[]):∃ d∈l,f d = y:=by
 induction h with
 | nil _=>exact absurd rfl n
 | @cons x y l k ih=>
  cases l with
  | nil=>exact ⟨x,List.mem_cons_self,k.nil_eq⟩
  | cons p l=>
   obtain ⟨d,hd,e⟩:=ih (by simp)
   exact ⟨d,List.mem_cons_of_mem _ hd,e⟩
section
variable {M:List (List Int)} {a b z1 z2:Int}
theorem Cg {R R':List (List aj)} (m':aw M) (h:Dt M (a,b)) (f1:nx M (z1,a) = (a,b)) (f2:nx M (z2,b) = (b,a)) (d1:Dt (rem M a b) (z1,a)) (d2:Dt (rem M a b) (z2,b)) (D:Dec (rem M a b) R) (D':Dec M R')
  (conn:∀ P:aj→Prop,P (z1,a)→(∀ d,Dt (rem M a b) d→P d→P (nx (rem M a b) d))→P (z2,b)):R'.length = R.length + 1∧iso M = iso (rem M a b):=by
 obtain ⟨b0,b1,b2,b3⟩:=h.back m'
 have hb:Dt M (b,a):=⟨b0,b1,b3⟩
 have o1:=(bR m' h).mp d1
 have o2:=(bR m' h).mp d2
 have x1:nx M (a,b)≠(b,a):=fun z=>o2.2.1 (dA m' h o2.1 (z.trans f2.symm)).symm
 have x2:nx M (b,a)≠(a,b):=fun z=>o1.2.2 (dA m' hb o1.1 (z.trans f1.symm)).symm
 have i1:¬ (rowOf M b).erase a = []:=fun z=>x1 ((eX m' h).mp z)
 have i2:¬ (rowOf M a).erase b = []:=fun z=>x2 ((eX m' hb).mp z)
 have iE:=o5 m' h
 rw [if_neg i1,if_neg i2] at iE
 refine ⟨?_,iE.symm⟩
 rcases o6 m' h D' with ⟨A,B,S,DL,lR,kA,kB⟩ | ⟨A,B,S,DL,lR,_⟩
 ·exfalso
  have A0:A≠[]:=fun z=>by rw [z] at kA; exact x1 kA.nil_eq
  have B0:B≠[]:=fun z=>by rw [z] at kB; exact x2 kB.nil_eq
  rw [if_neg A0,if_neg B0] at DL
  have VY:∀ d∈A,Dt M d:=fun d hd=>((bR m' h).mp ((DL.mem d).mp (List.mem_flatten.mpr ⟨A,by simp,hd⟩))).1
  have Fv:∀ d∈B,Dt M d:=fun d hd=>((bR m' h).mp ((DL.mem d).mp (List.mem_flatten.mpr ⟨B,by simp,hd⟩))).1
  obtain ⟨p,hp,ep⟩:=kA.last A0
  obtain ⟨q,hq,eq⟩:=kB.last B0
  have pe:p = (z2,b):=dA m' (VY p hp) o2.1 (ep.trans f2.symm)
  have qe:q = (z1,a):=dA m' (Fv q hq) o1.1 (eq.trans f1.symm)
  rw [pe] at hp
  rw [qe] at hq
  have cB:jW (nx (rem M a b)) B:=DL.hZ B (by simp)
  have:=conn (fun d=>d∈B) hq fun d _ hd=>cB.on hd
  have nd:=DL.nd
  rw [List.flatten_append,List.flatten_append,List.flatten_singleton,List.flatten_singleton,List.append_assoc] at nd
  exact (List.nodup_append.mp nd).2.2 _ hp _ (List.mem_append_left _ this) rfl
 ·have:=D.count DL
  rw [List.length_cons] at this
  omega
theorem zp {R R':List (List aj)} (m':aw M) (h:Dt M (a,b)) (e1:nx M (a,b) = (b,a)) (f1:nx M (z1,a) = (a,b)) (d1:Dt (rem M a b) (z1,a)) (D:Dec (rem M a b) R) (D':Dec M R'):R'.length = R.length∧iso (rem M a b) = iso M + 1:=by
 obtain ⟨b0,b1,b2,b3⟩:=h.back m'
 have hb:Dt M (b,a):=⟨b0,b1,b3⟩
 have o1:=(bR m' h).mp d1
 have x2:nx M (b,a)≠(a,b):=fun z=>o1.2.2 (dA m' hb o1.1 (z.trans f1.symm)).symm
 have i2:¬ (rowOf M a).erase b = []:=fun z=>x2 ((eX m' hb).mp z)
 have iE:=o5 m' h
 rw [if_pos ((eX m' h).mpr e1),if_neg i2] at iE
 refine ⟨?_,iE⟩
 rcases o6 m' h D' with ⟨A,B,S,DL,lR,kA,kB⟩ | ⟨A,B,S,DL,lR,A0,B0,kA,kB,dd⟩
 ·have A0:A = []:=by
   cases A with
   | nil=>rfl
   | cons p A=>
    have hp:=kA.hd
    have dt:Dt (rem M a b) p:=(DL.mem p).mp (List.mem_flatten.mpr ⟨p :: A,by simp,List.mem_cons_self⟩)
    rw [hp,e1] at dt
    exact absurd rfl ((bR m' h).mp dt).2.2
  have B0:B≠[]:=fun z=>by rw [z] at kB; exact x2 kB.nil_eq
  rw [if_pos A0,if_neg B0] at DL
  have:=D.count DL
  rw [List.nil_append,List.singleton_append,List.length_cons] at this
  omega
 ·cases A with
  | nil=>exact absurd rfl A0
  | cons p A=>
   have hp:=kA.hd
   have dt:=dd p (by simp)
   rw [hp,e1] at dt
   exact absurd rfl ((bR m' h).mp dt).2.2
end
structure bb (L:List (List Int)):Prop where
 map:aw L
 two:2≤L.length
 span:h7 L [0]
 Ca:∃ R,Dec L R∧(L.length:Int) + R.length + iso L = (eh L L.length).length + 2
theorem Reach.mono {L M:List (List Int)} (h:∀ d,Dt L d→Dt M d) {s x:Int} (r:Reach L s x):Reach M s x:=by
 induction r with
 | here=>exact .here
 | step r e hx ih=>
  rename_i i l y
  exact Reach.one (d:=((i:Int),y)) ih (h _ (Reach.nD e hx))
def both (L:List (List Int)) (a b:Int) (A B:List Int):List (List Int):=(L.set a.toNat A).set b.toNat B
structure bB (L:List (List Int)) (a b:Int) (A B:List Int):Prop where
 map:aw L
 a0:0≤a
 a1:a < L.length
 b0:0≤b
 b1:b < L.length
 ne:a≠b
 no:b∉rowOf L a
 pa:A.Perm (b :: rowOf L a)
 pb:B.Perm (a :: rowOf L b)
 ea:A.erase b = rowOf L a
 eb:B.erase a = rowOf L b
section
variable {L:List (List Int)} {a b:Int} {A B:List Int}
theorem bB.M4 (F:bB L a b A B):a∉rowOf L b:=fun z=>F.no (Dt.back (d:=(b,a)) ⟨F.b0,F.b1,z⟩ F.map).2.2.2
theorem dz:(both L a b A B).length = L.length:=by unfold both; simp
theorem bB.row (F:bB L a b A B) {x:Int} (hx:0≤x):rowOf (both L a b A B) x = if x = b then B else if x = a then A else rowOf L x:=by
 have:=F.a0; have:=F.a1; have:=F.b0; have:=F.b1; have:=F.ne
 show (both L a b A B).getD x.toNat [] = _
 unfold both
 rw [List.getD_eq_getElem?_getD,List.getElem?_set]
 by_cases e:x = b
 ·subst e
  rw [if_pos rfl,if_pos rfl,if_pos (by rw [List.length_set]; omega)]
  rfl
 ·rw [if_neg (by omega),if_neg e,List.getElem?_set]
  by_cases e2:x = a
  ·subst e2
   rw [if_pos rfl,if_pos rfl,if_pos (by omega)]
   rfl
  ·rw [if_neg (by omega),if_neg e2,← List.getD_eq_getElem?_getD]
   rfl
theorem bB.mem (F:bB L a b A B) {x y:Int} (hx:0≤x):y∈rowOf (both L a b A B) x↔y∈rowOf L x∨(x = a∧y = b)∨(x = b∧y = a):=by
 rw [F.row hx]
 by_cases e:x = b
 ·subst e
  rw [if_pos rfl,F.pb.mem_iff,List.mem_cons]
  constructor
  ·rintro (z | z)
   ·exact .inr (.inr ⟨rfl,z⟩)
   ·exact .inl z
  ·rintro (z | z | z)
   ·exact .inr z
   ·exact absurd z.1.symm F.ne
   ·exact .inl z.2
 ·rw [if_neg e]
  by_cases e2:x = a
  ·subst e2
   rw [if_pos rfl,F.pa.mem_iff,List.mem_cons]
   constructor
   ·rintro (z | z)
    ·exact .inr (.inl ⟨rfl,z⟩)
    ·exact .inl z
   ·rintro (z | z | z)
    ·exact .inr z
    ·exact .inl z.2
    ·exact absurd z.1 e
  ·rw [if_neg e2]
   exact ⟨.inl,fun z=>z.elim id fun z=>z.elim (fun w=>absurd w.1 e2) fun w=>absurd w.1 e⟩
theorem bB.eJ (F:bB L a b A B):aw (both L a b A B):=by
 have:=F.a0; have:=F.a1; have:=F.b0; have:=F.b1; have ne:=F.ne
 refine hW fun x x0 x1=>?_
 rw [dz] at x1 ⊢
 have n:=F.map.nd _ _ (aq x0 x1)
 refine ⟨?_,fun y hy=>?_⟩
 ·rw [F.row x0]
  split
  ·rename_i e; subst e; exact F.pb.nodup_iff.mpr (List.nodup_cons.mpr ⟨F.M4,n⟩)
  ·split
   ·rename_i e; subst e; exact F.pa.nodup_iff.mpr (List.nodup_cons.mpr ⟨F.no,n⟩)
   ·exact n
 ·rcases (F.mem x0).mp hy with z | ⟨z,w⟩ | ⟨z,w⟩
  ·obtain ⟨c0,c1,c2,c3⟩:=Dt.back (d:=(x,y)) ⟨x0,x1,z⟩ F.map
   exact ⟨c0,c1,c2,(F.mem c0).mpr (.inl c3)⟩
  ·subst z w
   exact ⟨F.b0,F.b1,ne.symm,(F.mem F.b0).mpr (.inr (.inr ⟨rfl,rfl⟩))⟩
  ·subst z w
   exact ⟨F.a0,F.a1,ne,(F.mem F.a0).mpr (.inr (.inl ⟨rfl,rfl⟩))⟩
theorem bB.dt (F:bB L a b A B):Dt (both L a b A B) (a,b):=⟨F.a0,by rw [dz]; exact F.a1,(F.mem F.a0).mpr (.inr (.inl ⟨rfl,rfl⟩))⟩
theorem bB.rem (F:bB L a b A B):rem (both L a b A B) a b = L:=by
 have a0:=F.a0; have a1:=F.a1; have b0:=F.b0; have b1:=F.b1; have ne:=F.ne
 unfold Gm.rem
 rw [F.row a0,F.row b0,if_neg ne,if_pos rfl,if_pos rfl,F.ea,F.eb]
 unfold both
 apply List.ext_getElem?
 intro i
 rw [List.getElem?_set]
 by_cases e:b.toNat = i
 ·rw [if_pos e]
  have:i < L.length:=by omega
  rw [if_pos (by simp; omega),← e,aq b0 b1]
 ·rw [if_neg e,List.getElem?_set]
  by_cases e2:a.toNat = i
  ·rw [if_pos e2,if_pos (by simp; omega),← e2,aq a0 a1]
  ·rw [if_neg e2,List.getElem?_set,if_neg e,List.getElem?_set,if_neg e2]
theorem bB.sub (F:bB L a b A B) (d:aj) (h:Dt L d):Dt (both L a b A B) d:=⟨h.lo,by rw [dz]; exact h.hi,(F.mem h.lo).mpr (.inl h.mem)⟩
theorem bB.FI (F:bB L a b A B):(eh (both L a b A B) L.length).length = (eh L L.length).length + 1:=by
 have h1:=(i8 F.eJ F.dt).2
 rw [F.rem] at h1
 have h2:=cZ F.eJ
 have h3:=cZ F.map
 rw [dz] at h1 h2
 omega
theorem bB.jZ (F:bB L a b A B) (s:bb L) {z1 z2:Int} (h1:z1∈rowOf L a) (h2:z2∈rowOf L b) (f1:pre A z1 = b) (f2:pre B z2 = a)
  (conn:∀ P:aj→Prop,P (z1,a)→(∀ d,Dt L d→P d→P (nx L d))→P (z2,b)):bb (both L a b A B):=by
 obtain ⟨c0,c1,c2,c3⟩:=Dt.back (d:=(a,z1)) ⟨F.a0,F.a1,h1⟩ F.map
 obtain ⟨e0,e1,e2,e3⟩:=Dt.back (d:=(b,z2)) ⟨F.b0,F.b1,h2⟩ F.map
 obtain ⟨R,D,ch⟩:=s.Ca
 obtain ⟨R',D'⟩:=mD F.eJ
 have n1:nx (both L a b A B) (z1,a) = (a,b):=by
  unfold nx; dsimp only; rw [F.row F.a0,if_neg F.ne,if_pos rfl,f1]
 have n2:nx (both L a b A B) (z2,b) = (b,a):=by
  unfold nx; dsimp only; rw [F.row F.b0,if_pos rfl,f2]
 obtain ⟨l1,l2⟩:=Cg (R:=R) F.eJ F.dt n1 n2 (by rw [F.rem]; exact ⟨c0,c1,c3⟩) (by rw [F.rem]; exact ⟨e0,e1,e3⟩) (by rw [F.rem]; exact D) D' (by rw [F.rem]; exact conn)
 rw [F.rem] at l2
 refine ⟨F.eJ,by rw [dz]; exact s.two,fun x x0 x1=>?_,R',D',?_⟩
 ·rw [dz] at x1
  obtain ⟨t,ht,r⟩:=s.span x x0 x1
  exact ⟨t,ht,r.mono F.sub⟩
 ·rw [dz,F.FI,l1,l2]
  omega
end
theorem fQ:∀ {l:List Int} {k:Nat} {x:Int},x∉l→(put l k x).erase x = l:=fun {l k x} h=>by
 unfold put
 rw [List.erase_append_right _ (fun z=>h (List.mem_of_mem_take z)),List.erase_cons_head,List.take_append_drop]
theorem vD:∀ {l:List Int} {p z x:Int},z∈l→x≠z→dY p (put l (l.idxOf z) x) z = x
 | [],_,_,_,h,_=>by cases h
 | h :: t,p,z,x,hz,hx=>by
  rw [List.idxOf_cons]
  by_cases e:h = z
  ·subst e
   have:(h == h) = true:=by simp
   rw [this]
   show dY p (x :: h :: t) h = x
   show (if x = h then p else if h = h then x else dY h t h) = x
   rw [if_neg hx,if_pos rfl]
  ·have e2:(h == z) = false:=beq_false_of_ne e
   rw [e2]
   show dY p (h :: put t (t.idxOf z) x) z = x
   show (if h = z then p else dY h (put t (t.idxOf z) x) z) = x
   rw [if_neg e]
   exact vD ((List.mem_cons.mp hz).resolve_left (fun w=>e w.symm)) hx
theorem ft {l:List Int} {z x:Int} (hz:z∈l) (hx:x∉l):pre (put l (l.idxOf z) x) z = x:=by
 rw [jd (kL.mpr (.inr hz))]
 exact vD hz (fun w=>hx (w▸hz))
theorem tO {l:List Int} {x:Int} (h:x∉l):(l ++ [x]).erase x = l:=by rw [List.erase_append_right _ h,List.erase_cons_head,List.append_nil]
theorem rW {l:List Int} {y x:Int}:pre ((y :: l) ++ [x]) y = x:=by
 rw [jd (by simp),gi (y :: l) (v:=[x]) (by simp)]
 show (if y = y then lst [x] else _) = x
 rw [if_pos rfl]; rfl
end Gm
end
section
namespace Gm
open PySem L2
theorem Reach.inv {L:List (List Int)} {s x:Int} (r:Reach L s x):x = s∨∃ (j:Nat) (l:List Int),L[j]? = some l∧x∈l:=by
 cases r with
 | here=>exact .inl rfl
 | step r e hx=>exact .inr ⟨_,_,e,hx⟩
theorem bb.En {L:List (List Int)} (s:bb L):iso L = 0:=by
 unfold iso
 refine List.countP_eq_zero.mpr fun l hl=>?_
 obtain ⟨i,hi,rfl⟩:=List.mem_iff_getElem.mp hl
 have ei:L[i]? = some L[i]:=List.getElem?_eq_getElem hi
 intro z
 have e0:L[i] = []:=by simpa using z
 have two:=s.two
 by_cases h0:i = 0
 ·subst h0
  obtain ⟨t,ht,r⟩:=s.span 1 (by omega) (by omega)
  have:t = 0:=List.mem_singleton.mp ht
  subst this
  have go:∀ x,Reach L 0 x→x = 0:=fun x r=>by
   induction r with
   | here=>rfl
   | step r e hx ih=>
    rename_i j l y
    have:j = 0:=by omega
    subst this
    rw [ei] at e
    cases e
    rw [e0] at hx
    cases hx
  exact absurd (go 1 r) (by omega)
 ·obtain ⟨t,ht,r⟩:=s.span i (by omega) (by omega)
  have:t = 0:=List.mem_singleton.mp ht
  subst this
  rcases r.inv with w | ⟨j,l,e,hx⟩
  ·omega
  ·have:=s.map.sy _ _ e _ hx i rfl _ ei
   rw [e0] at this
   cases this
theorem bb.three {L:List (List Int)} (s:bb L) (h3:3≤L.length) {R:List (List aj)} (D:Dec L R) {c:List aj} (hc:c∈R):3≤c.length:=by
 have dt:∀ d∈c,Dt L d:=fun d hd=>(D.mem d).mp (List.mem_flatten.mpr ⟨c,hc,hd⟩)
 obtain ⟨x,l,e,k⟩:=D.hZ c hc
 subst e
 have hx:=dt x List.mem_cons_self
 obtain ⟨b0,b1,b2,b3⟩:=hx.back s.map
 have k1:=k.tl
 cases l with
 | nil=>exact absurd (congrArg Prod.fst k1.nil_eq) b2
 | cons y l=>
  cases l with
  | cons w l=>simp
  | nil=>
   exfalso
   have ey:=k1.hd
   have ex:=k1.tl.nil_eq
   rw [← ey] at ex
   have y1:y.1 = x.2:=by rw [ey]; rfl
   have y2:y.2 = x.1:=congrArg Prod.fst ex
   have p1:pre (rowOf L x.2) x.1 = x.1:=by
    have:y.2 = pre (rowOf L x.2) x.1:=by rw [ey]; rfl
    rw [← this,y2]
   have p2:pre (rowOf L x.1) x.2 = x.2:=by
    have:pre (rowOf L y.2) y.1 = x.2:=congrArg Prod.snd ex
    rwa [y1,y2] at this
   have r1:=lD (s.map.nd _ _ (aq b0 b1)) b3 p1
   have r2:=lD (s.map.nd _ _ (aq hx.lo hx.hi)) hx.mem p2
   have go:∀ u,Reach L 0 u→((u = x.1∨u = x.2)↔((0:Int) = x.1∨(0:Int) = x.2)):=fun u r=>by
    induction r with
    | here=>exact Iff.rfl
    | step r e hv ih=>
     rename_i i l v
     refine Iff.trans ?_ ih
     have d:=Reach.nD e hv
     obtain ⟨q0,q1,q2,q3⟩:=d.back s.map
     have dm:=d.mem
     dsimp only at q0 q1 q2 q3 dm
     constructor
     ·rintro (z | z)
      ·rw [z,r2] at q3; exact .inr (List.mem_singleton.mp q3)
      ·rw [z,r1] at q3; exact .inl (List.mem_singleton.mp q3)
     ·rintro (z | z)
      ·rw [z,r2] at dm; exact .inr (List.mem_singleton.mp dm)
      ·rw [z,r1] at dm; exact .inl (List.mem_singleton.mp dm)
   have reach:∀ u:Int,0≤u→u < L.length→Reach L 0 u:=fun u h0 h1=>by
    obtain ⟨t,ht,r⟩:=s.span u h0 h1
    rw [List.mem_singleton.mp ht] at r; exact r
   have z0:=(go x.1 (reach x.1 hx.lo hx.hi)).mp (.inl rfl)
   have l1:=hx.lo
   have c0:=(go 0 (reach 0 (by omega) (by omega))).mpr z0
   have c1:=(go 1 (reach 1 (by omega) (by omega))).mpr z0
   have c2:=(go 2 (reach 2 (by omega) (by omega))).mpr z0
   omega
theorem iO:∀ {R:List (List aj)},(∀ c∈R,3≤c.length)→3 * R.length≤R.flatten.length
 | [],_=>Nat.le_refl _
 | c :: R,h=>by
  have:=iO (R:=R) fun x hx=>h x (List.mem_cons_of_mem _ hx)
  have:=h c List.mem_cons_self
  rw [List.flatten_cons,List.length_append,List.length_cons]
  omega
theorem Dec.len {L:List (List Int)} {R:List (List aj)} (m:aw L) (D:Dec L R):R.flatten.length = (cT L L.length).length:=
 len_eq D.nd (cF m (Nat.le_refl _)) fun d=>(D.mem d).trans ⟨fun h=>h.all,fun h=>Dt.of h⟩
theorem bb.xS {L:List (List Int)} (s:bb L) (h:L.length≤20):(cT L L.length).length < 128:=by
 by_cases h3:3≤L.length
 ·obtain ⟨R,D,ch⟩:=s.Ca
  have f:=iO fun c hc=>s.three h3 D hc
  rw [D.len s.map] at f
  have i:=s.En
  have d:=cZ s.map
  omega
 ·exact xr s.map (by omega)
def dS (L:List (List Int)):List (List Int):=L ++ [[]]
section
variable {L:List (List Int)}
theorem d9 {x:Int} (x0:0≤x):rowOf (dS L) x = if x < L.length then rowOf L x else []:=by
 unfold rowOf dS
 rw [List.getD_eq_getElem?_getD,List.getD_eq_getElem?_getD]
 by_cases h:x < L.length
 ·rw [if_pos h,List.getElem?_append_left (by omega)]
 ·rw [if_neg h,List.getElem?_append_right (by omega)]
  cases q:([[]]:List (List Int))[x.toNat - L.length]? with
  | none=>rfl
  | some l=>
   have:=List.mem_of_getElem? q
   rw [List.mem_singleton.mp this]; rfl
theorem eQ {d:aj}:Dt (dS L) d↔Dt L d:=by
 constructor
 ·intro h
  have m:=h.mem
  rw [d9 h.lo] at m
  by_cases z:d.1 < L.length
  ·rw [if_pos z] at m; exact ⟨h.lo,z,m⟩
  ·rw [if_neg z] at m; cases m
 ·intro h
  refine ⟨h.lo,by unfold dS; have:=h.hi; simp; omega,?_⟩
  rw [d9 h.lo,if_pos h.hi]; exact h.mem
theorem gY:(dS L).length = L.length + 1:=by unfold dS; simp
theorem sx (m:aw L):aw (dS L):=by
 refine hW fun x x0 x1=>?_
 rw [d9 x0]
 by_cases z:x < L.length
 ·rw [if_pos z]
  refine ⟨m.nd _ _ (aq x0 z),fun y hy=>?_⟩
  obtain ⟨c0,c1,c2,c3⟩:=Dt.back (d:=(x,y)) ⟨x0,z,hy⟩ m
  dsimp only at c0 c1 c2 c3
  rw [d9 c0,if_pos c1,gY]
  exact ⟨c0,by omega,c2,c3⟩
 ·rw [if_neg z]; exact ⟨.nil,fun y hy=>by cases hy⟩
theorem kM (m:aw L) {d:aj} (h:Dt L d):nx (dS L) d = nx L d:=by
 obtain ⟨b0,b1,b2,b3⟩:=h.back m
 unfold nx
 rw [d9 b0,if_pos b1]
theorem ze {R:List (List aj)} (m:aw L) (D:Dec L R):Dec (dS L) R:=by
 refine ⟨fun c hc=>?_,D.nd,fun d=>(D.mem d).trans eQ.symm⟩
 obtain ⟨x,l,e,k⟩:=D.hZ c hc
 exact ⟨x,l,e,k.congr fun d hd=>kM m ((D.mem d).mp (List.mem_flatten.mpr ⟨c,hc,hd⟩))⟩
theorem zc:iso (dS L) = iso L + 1:=by unfold iso dS; rw [List.countP_append]; rfl
theorem zd (m:aw L):(cT (dS L) (dS L).length).length = (cT L L.length).length:=
 len_eq (cF (sx m) (Nat.le_refl _)) (cF m (Nat.le_refl _)) fun d=>⟨fun h=>(eQ.mp (Dt.of h)).all,fun h=>(eQ.mpr (Dt.of h)).all⟩
end
structure Pl (L:List (List Int)) (r:List Int) (c1 cj:Nat) (dn:List Nat) (M:List (List Int)):Prop where
 sh:bb M
 len:M.length = L.length + 1
 new:rowOf M (L.length:Int) = dn.map (cy r)
 hd:∃ rest,dn = c1 :: rest
 keep:∀ x:Int,0≤x→x < L.length→(∀ c∈dn,cy r c≠x)→rowOf M x = rowOf L x
 sub:∀ d,Dt L d→Dt M d
 le:c1≤cj
 top:cj < r.length
 i1:∀ i,cj≤i→i + 1 < c1 + r.length→nx M (dj r i) = dj r (i + 1)
 i2:nx M (dj r (c1 + (r.length - 1))) = (cy r c1,(L.length:Int))
 i3:nx M (cy r c1,(L.length:Int)) = ((L.length:Int),cy r cj)
 i4:nx M ((L.length:Int),cy r cj) = dj r cj
section
variable {L:List (List Int)} {r:List Int}
theorem iF {i j:Nat} (n:(sh 0 r).Nodup) (h:i < j) (h2:j < i + r.length):dj r i≠dj r j:=by
 intro z
 have r0:0 < r.length:=by omega
 have e1:dj r (i % r.length) = dj r i:=ck (Nat.mod_mod _ _)
 have e2:dj r (j % r.length) = dj r j:=ck (Nat.mod_mod _ _)
 have m1:=Nat.mod_lt i r0
 have m2:=Nat.mod_lt j r0
 have at_:∀ k (hk:k < r.length),(sh 0 r)[k]'(by rw [bQ]; exact hk) = dj r k:=fun k hk=>by
  have:=n6 (s:=0) hk
  rw [List.getElem?_eq_getElem (by rw [bQ]; exact hk)] at this
  exact Option.some.inj this
 have e3:i % r.length = j % r.length:=by
  refine (List.getElem_inj (h₀:=by rw [bQ]; exact m1) (h₁:=by rw [bQ]; exact m2) n).mp ?_
  rw [at_ _ m1,at_ _ m2,e1,e2,z]
 have:=Nat.div_add_mod i r.length
 have:=Nat.div_add_mod j r.length
 have a:r.length * (i / r.length) < r.length * (j / r.length):=by omega
 have b:i / r.length + 1≤j / r.length:=Nat.lt_of_mul_lt_mul_left a
 have c:=Nat.mul_le_mul_left r.length b
 rw [Nat.mul_add,Nat.mul_one] at c
 omega
theorem cS (g:Good L r) (m:aw L) {c:Nat}:cy r (c + (r.length - 1))∈rowOf L (cy r c)∧0≤cy r c∧cy r c < L.length∧dj r (c + (r.length - 1)) = (cy r (c + (r.length - 1)),cy r c):=by
 have two:=g.two
 have e:cy r (c + (r.length - 1) + 1) = cy r c:=cw (by rw [show c + (r.length - 1) + 1 = c + r.length by omega,Nat.add_mod_right])
 have d:=g.dt (c + (r.length - 1))
 have b:=d.back m
 have ed:dj r (c + (r.length - 1)) = (cy r (c + (r.length - 1)),cy r c):=by unfold dj; rw [e]
 rw [ed] at b
 exact ⟨b.2.2.2,b.1,b.2.1,ed⟩
theorem lQ {x:Int} (m:aw L) (x0:0≤x) (x1:x < L.length):(L.length:Int)∉rowOf L x:=fun z=>by
 have:=m.rg _ _ (aq x0 x1) _ z
 omega
theorem Pl.first (s:bb L) (g:Good L r) (nd:(Gm.sh 0 r).Nodup) {c:Nat} (hc:c < r.length) :
  bB (dS L) (cy r c) (L.length:Int) (put (rowOf L (cy r c)) ((rowOf L (cy r c)).idxOf (cy r (c + (r.length - 1)))) L.length) [cy r c]∧
  Pl L r c c [c] (both (dS L) (cy r c) (L.length:Int) (put (rowOf L (cy r c)) ((rowOf L (cy r c)).idxOf (cy r (c + (r.length - 1)))) L.length) [cy r c]):=by
 have two:=g.two
 obtain ⟨z1,x0,x1,ed⟩:=cS g s.map (c:=c)
 generalize hx:cy r c = x at z1 x0 x1 ed ⊢
 generalize hz:cy r (c + (r.length - 1)) = z at z1 ed ⊢
 have nn:=lQ s.map x0 x1
 have lx:rowOf (dS L) x = rowOf L x:=by rw [d9 x0,if_pos x1]
 have ln:rowOf (dS L) (L.length:Int) = []:=by rw [d9 (by omega),if_neg (by omega)]
 have F:bB (dS L) x (L.length:Int) (put (rowOf L x) ((rowOf L x).idxOf z) L.length) [x]:=
  ⟨sx s.map,x0,by rw [gY]; omega,by omega,by rw [gY]; omega,by omega,by rw [lx]; exact nn,by rw [lx]; exact fP _ _ _,by rw [ln],by rw [lx]; exact fQ nn,by rw [ln]; simp⟩
 refine ⟨F,?_⟩
 generalize hM:both (dS L) x (L.length:Int) (put (rowOf L x) ((rowOf L x).idxOf z) L.length) [x] = M at F ⊢
 have FM:aw M:=hM▸F.eJ
 have Fd:Dt M (x,(L.length:Int)):=hM▸F.dt
 have Fr:rem M x (L.length:Int) = dS L:=hM▸F.rem
 have qN:∀ {y:Int},0≤y→rowOf M y = if y = (L.length:Int) then [x] else if y = x then put (rowOf L x) ((rowOf L x).idxOf z) L.length else rowOf (dS L) y:=fun h=>hM▸F.row h
 have Ml:M.length = L.length + 1:=by rw [← hM,dz,gY]
 have xn:x≠(L.length:Int):=by omega
 have sub:∀ d,Dt L d→Dt M d:=fun d hd=>hM▸F.sub d (eQ.mpr hd)
 have f1:nx M (z,x) = (x,(L.length:Int)):=by unfold nx; dsimp only; rw [qN x0,if_neg xn,if_pos rfl,ft z1 nn]
 have f2:nx M (x,(L.length:Int)) = ((L.length:Int),x):=by
  unfold nx; dsimp only; rw [qN (by omega),if_pos rfl]
  refine Prod.ext rfl ?_
  show pre [x] x = x
  unfold pre cy
  simp [Nat.mod_one]
 have ES:Dt L (z,x):=by
  obtain ⟨c0,c1,c2,c3⟩:=Dt.back (d:=(x,z)) ⟨x0,x1,z1⟩ s.map
  exact ⟨c0,c1,c3⟩
 have Bs:∀ d,Dt L d→d≠(z,x)→nx M d = nx L d:=fun d hd gD=>by
  have h0:=iJ FM Fd (d:=d) (by rw [Fr]; exact eQ.mpr hd)
  rw [Fr,kM s.map hd] at h0
  have dm:=sub d hd
  have n1:nx M d≠((L.length:Int),x):=fun w=>by
   have:=dA FM dm Fd (w.trans f2.symm)
   rw [this] at hd
   exact lQ s.map x0 x1 hd.mem
  have n2:nx M d≠(x,(L.length:Int)):=fun w=>gD (dA FM dm (sub _ ES) (w.trans f1.symm))
  rw [if_neg n1,if_neg n2] at h0
  exact h0.symm
 have MV:nx M ((L.length:Int),x) = nx L (z,x):=by
  have h0:=iJ FM Fd (d:=(z,x)) (by rw [Fr]; exact eQ.mpr ES)
  rw [Fr,kM s.map ES,f1,if_neg (fun w=>xn (congrArg Prod.fst w)),if_pos rfl] at h0
  exact h0.symm
 obtain ⟨R,D,ch⟩:=s.Ca
 obtain ⟨R',D'⟩:=mD FM
 obtain ⟨l1,l2⟩:=zp (R:=R) (z1:=z) FM Fd f2 f1 (by rw [Fr]; exact eQ.mpr ES) (by rw [Fr]; exact ze s.map D) D'
 rw [Fr,zc] at l2
 have FI:(eh M M.length).length = (eh L L.length).length + 1:=by
  have h1:=(i8 FM Fd).2
  rw [Fr,zd s.map] at h1
  have h2:=cZ FM
  have h3:=cZ s.map
  omega
 have nY:bb M:=by
  refine ⟨FM,by have:=s.two; omega,fun y y0 y1=>?_,R',D',?_⟩
  ·by_cases e:y < L.length
   ·obtain ⟨t,ht,q⟩:=s.span y y0 e
    exact ⟨t,ht,q.mono sub⟩
   ·have ey:y = (L.length:Int):=by rw [Ml] at y1; omega
    obtain ⟨t,ht,q⟩:=s.span x x0 x1
    rw [ey]
    exact ⟨t,ht,Reach.one (d:=(x,(L.length:Int))) (q.mono sub) Fd⟩
  ·rw [FI,Ml,l1]
   omega
 have OK:dj r (c + (r.length - 1)) = (z,x):=ed
 refine ⟨nY,Ml,by rw [qN (by omega),if_pos rfl,List.map_singleton,hx],⟨[],rfl⟩,fun y y0 y1 hy=>?_,sub,Nat.le_refl _,hc,fun i WE xQ=>?_,?_,?_,?_⟩
 ·have:cy r c≠y:=hy c (by simp)
  rw [hx] at this
  rw [qN y0,if_neg (by omega),if_neg (fun w=>this w.symm),d9 y0,if_pos y1]
 ·rw [Bs _ (g.dt i) (by rw [← OK]; exact iF nd (by omega) (by omega)),g.st]
 ·rw [OK,f1,hx]
 ·rw [hx,f2]
 ·rw [hx,MV,← OK,g.st]
  exact ck (by rw [show c + (r.length - 1) + 1 = c + r.length by omega,Nat.add_mod_right])
theorem Pl.next {M:List (List Int)} {c1 cj c:Nat} {dn:List Nat} (s:bb L) (g:Good L r) (nd:(Gm.sh 0 r).Nodup) (p:Pl L r c1 cj dn M) (hc:cj < c) (Oi:c < r.length) (un:∀ e∈dn,cy r e≠cy r c) :
  bB M (cy r c) (L.length:Int) (put (rowOf L (cy r c)) ((rowOf L (cy r c)).idxOf (cy r (c + (r.length - 1)))) L.length) (rowOf M (L.length:Int) ++ [cy r c])∧
  Pl L r c1 c (dn ++ [c]) (both M (cy r c) (L.length:Int) (put (rowOf L (cy r c)) ((rowOf L (cy r c)).idxOf (cy r (c + (r.length - 1)))) L.length) (rowOf M (L.length:Int) ++ [cy r c])):=by
 have two:=g.two
 have le:=p.le
 obtain ⟨z1,x0,x1,ed⟩:=cS g s.map (c:=c)
 have rx:=p.keep (cy r c) x0 x1 un
 have FN:cy r c∉rowOf M (L.length:Int):=by
  rw [p.new]
  intro w
  obtain ⟨e,he,h⟩:=List.mem_map.mp w
  exact un e he h
 have GO:=p.new
 generalize hx:cy r c = x at z1 x0 x1 ed rx FN ⊢
 generalize hz:cy r (c + (r.length - 1)) = z at z1 ed ⊢
 have nn:=lQ s.map x0 x1
 have F:bB M x (L.length:Int) (put (rowOf L x) ((rowOf L x).idxOf z) L.length) (rowOf M (L.length:Int) ++ [x]):=
  ⟨p.sh.map,x0,by rw [p.len]; omega,by omega,by rw [p.len]; omega,by omega,by rw [rx]; exact nn,by rw [rx]; exact fP _ _ _,List.perm_append_singleton _ _,by rw [rx]; exact fQ nn,tO FN⟩
 refine ⟨F,?_⟩
 obtain ⟨rest,hd⟩:=p.hd
 have tP:rowOf M (L.length:Int) = cy r c1 :: rest.map (cy r):=by rw [GO,hd]; rfl
 have e1:dj r (c - 1) = (z,x):=by
  rw [← ed]
  exact (ck (by rw [show c + (r.length - 1) = (c - 1) + r.length by omega,Nat.add_mod_right])).symm
 have ES:Dt L (z,x):=e1▸g.dt (c - 1)
 have dyn:Dt M (cy r c1,(L.length:Int)):=by
  have:=Dt.back (d:=((L.length:Int),cy r c1)) ⟨by simp,by rw [p.len]; simp; omega,by rw [tP]; exact List.mem_cons_self⟩ p.sh.map
  exact ⟨this.1,this.2.1,this.2.2.2⟩
 have Ks:pre (put (rowOf L x) ((rowOf L x).idxOf z) L.length) z = (L.length:Int):=ft z1 nn
 have Kg:pre (rowOf M (L.length:Int) ++ [x]) (cy r c1) = x:=by rw [tP]; exact rW
 have conn:∀ P:aj→Prop,P (z,x)→(∀ d,Dt M d→P d→P (nx M d))→P (cy r c1,(L.length:Int)):=fun P h0 hs=>by
  have go:∀ k,c - 1 + k≤c1 + (r.length - 1)→P (dj r (c - 1 + k)):=by
   intro k
   induction k with
   | zero=>intro _; rw [Nat.add_zero,e1]; exact h0
   | succ k ih=>
    intro hk
    have:=hs _ (p.sub _ (g.dt (c - 1 + k))) (ih (by omega))
    rw [p.i1 (c - 1 + k) (by omega) (by omega)] at this
    exact this
  have:=go (c1 + (r.length - 1) - (c - 1)) (by omega)
  rw [show c - 1 + (c1 + (r.length - 1) - (c - 1)) = c1 + (r.length - 1) by omega] at this
  have:=hs _ (p.sub _ (g.dt _)) this
  rw [p.i2] at this
  exact this
 have nY:=F.jZ p.sh (z1:=z) (z2:=cy r c1) (by rw [rx]; exact z1) (by rw [tP]; exact List.mem_cons_self) Ks Kg conn
 generalize hM:both M x (L.length:Int) (put (rowOf L x) ((rowOf L x).idxOf z) L.length) (rowOf M (L.length:Int) ++ [x]) = N at F nY ⊢
 have FM:aw N:=hM▸F.eJ
 have Fd:Dt N (x,(L.length:Int)):=hM▸F.dt
 have Fr:rem N x (L.length:Int) = M:=hM▸F.rem
 have qN:∀ {y:Int},0≤y→rowOf N y = if y = (L.length:Int) then rowOf M (L.length:Int) ++ [x] else if y = x then put (rowOf L x) ((rowOf L x).idxOf z) L.length else rowOf M y:=fun h=>hM▸F.row h
 have Nl:N.length = L.length + 1:=by rw [← hM,dz,p.len]
 have xn:x≠(L.length:Int):=by omega
 have AX:∀ d,Dt M d→Dt N d:=fun d hd=>hM▸F.sub d hd
 have f1:nx N (z,x) = (x,(L.length:Int)):=by unfold nx; dsimp only; rw [qN x0,if_neg xn,if_pos rfl,Ks]
 have f2:nx N (cy r c1,(L.length:Int)) = ((L.length:Int),x):=by unfold nx; dsimp only; rw [qN (by omega),if_pos rfl,Kg]
 have Bs:∀ d,Dt M d→d≠(z,x)→d≠(cy r c1,(L.length:Int))→nx N d = nx M d:=fun d hd gD N0=>by
  have h0:=iJ FM Fd (d:=d) (by rw [Fr]; exact hd)
  rw [Fr] at h0
  have dm:=AX d hd
  have n1:nx N d≠((L.length:Int),x):=fun w=>N0 (dA FM dm (AX _ dyn) (w.trans f2.symm))
  have n2:nx N d≠(x,(L.length:Int)):=fun w=>gD (dA FM dm (AX _ (p.sub _ ES)) (w.trans f1.symm))
  rw [if_neg n1,if_neg n2] at h0
  exact h0.symm
 have MV:nx N ((L.length:Int),x) = nx M (z,x):=by
  have h0:=iJ FM Fd (d:=(z,x)) (by rw [Fr]; exact p.sub _ ES)
  rw [Fr,f1,if_neg (fun w=>xn (congrArg Prod.fst w)),if_pos rfl] at h0
  exact h0.symm
 have Rq:∀ i,dj r i≠(cy r c1,(L.length:Int)):=fun i w=>by
  have d:=g.dt i
  have:=(d.back s.map).2.1
  rw [w] at this
  simp at this
 refine ⟨nY,Nl,?_,⟨rest ++ [c],by rw [hd]; rfl⟩,fun y y0 y1 hy=>?_,fun d hd=>AX d (p.sub d hd),by omega,Oi,fun i WE xQ=>?_,?_,?_,?_⟩
 ·rw [qN (by omega),if_pos rfl,GO,List.map_append,List.map_singleton,hx]
 ·have h1:cy r c≠y:=hy c (by simp)
  rw [hx] at h1
  rw [qN y0,if_neg (by omega),if_neg (fun w=>h1 w.symm)]
  exact p.keep y y0 y1 fun e he=>hy e (List.mem_append_left _ he)
 ·rw [Bs _ (p.sub _ (g.dt i)) (by rw [← e1]; exact (iF nd (by omega) (by omega)).symm) (Rq i)]
  exact p.i1 i (by omega) xQ
 ·rw [Bs _ (p.sub _ (g.dt _)) (by rw [← e1]; exact (iF nd (by omega) (by omega)).symm) (Rq _)]
  exact p.i2
 ·rw [f2,hx]
 ·rw [hx,MV,← e1,p.i1 (c - 1) (by omega) (by omega)]
  rw [show c - 1 + 1 = c by omega]
end
end Gm
end
section
namespace L2
open PySem PySem.Spec PySem.W PySem.Calls PyProof.Rows
theorem Ab:bootBuiltins "set" = some (.type "set"):=by decide +kernel
end L2
namespace Gm
open PySem L2
theorem ky {H:Hp} {c b:Addr} {o:HO} {as:List Addr} (hc:c∈as) (hb:b∉as):upd H c o b = H b:=ax (fun z=>hb (by rw [z]; exact hc))
theorem ah.off {H H1 H2:Hp} {as:List Addr} (e:ah H H1) (fr:∀ b∈as,H b = none) (o:∀ b u,b∉as→H1 b = some u→H2 b = some u):ah H H2:=fun b u h=>o b u (fun z=>by rw [fr b z] at h; cases h) (e b u h)
theorem bb.pos {L:List (List Int)} {R:List (List aj)} (s:bb L) (D:Dec L R):0 < R.length:=by
 refine Nat.pos_of_ne_zero fun z=>?_
 have R0:R = []:=List.length_eq_zero_iff.mp z
 subst R0
 have two:=s.two
 have i0:=s.En
 unfold iso at i0
 have:=List.countP_eq_zero.mp i0 L[0] (List.getElem_mem (by omega))
 cases q:L[0] with
 | nil=>rw [q] at this; exact this rfl
 | cons x r=>
  have d:=Reach.nD (L:=L) (i:=0) (List.getElem?_eq_getElem (by omega)) (by rw [q]; exact List.mem_cons_self)
  have:=(D.mem _).mpr d
  cases this
theorem PR.at {H:Hp}:∀ {ps:List Addr} {T:List (Int×Int)},PR H ps T→∀ {i:Nat} {a:Addr},ps[i]? = some a→∃ x:Int×Int,T[i]? = some x∧H a = some (.tup [.int x.1,.int x.2])
 | _,_,.nil,_,_,e=>by simp at e
 | _,_,.cons r t,0,_,e=>by simp at e; subst e; exact ⟨_,rfl,r⟩
 | _,_,.cons r t,i + 1,_,e=>by
  obtain ⟨x,h1,h2⟩:=PR.at t (i:=i) (by simpa using e)
  exact ⟨x,by simpa using h1,h2⟩
theorem vQ {L:List (List Int)} {d:aj} (k:Nat):it L (nx L d) k = it L d (k + 1):=by
 rw [Nat.add_comm,lY]; rfl
theorem xZ {L:List (List Int)} {x y:aj} {l:List aj} (h:Wk (nx L) x l y):l = tr L x l.length∧y = it L x l.length:=by
 induction h with
 | nil x=>exact ⟨rfl,rfl⟩
 | @cons x y l _ ih=>
  obtain ⟨h1,h2⟩:=ih
  refine ⟨?_,by rw [List.length_cons,← vQ]; exact h2⟩
  rw [List.length_cons]
  unfold tr
  rw [List.range_succ_eq_map,List.map_cons,List.map_map]
  show x :: l = x :: _
  congr 1
  refine h1.trans ?_
  unfold tr
  refine List.map_congr_left fun j _=>?_
  exact vQ j
theorem A6 {L:List (List Int)} {d:aj} {k:Nat} (hk:0 < k) (e:it L d k = d):sh 0 (aF L d k) = tr L d k:=by
 have hl:(aF L d k).length = k:=by unfold aF; simp
 unfold sh tr
 rw [hl]
 exact List.map_congr_left fun j _=>by rw [gn hk e,Nat.add_zero]
theorem Dec.good {L:List (List Int)} {R:List (List aj)} (m:aw L) (D:Dec L R) {c:List aj} (hc:c∈R):Good L (c.map (·.1))∧sh 0 (c.map (·.1)) = c∧c.Nodup:=by
 obtain ⟨x,l,e,k⟩:=D.hZ c hc
 obtain ⟨h1,h2⟩:=xZ k
 have k0:0 < c.length:=by rw [e]; simp
 have dx:Dt L x:=(D.mem x).mp (List.mem_flatten.mpr ⟨c,hc,by rw [e]; exact List.mem_cons_self⟩)
 have er:c.map (·.1) = aF L x c.length:=by
  conv=>lhs; rw [h1]
  unfold aF tr
  rw [List.map_map]; rfl
 have hn:c.Nodup:=(List.pairwise_flatten.mp D.nd).1 c hc
 rw [er]
 exact ⟨oe m dx k0 h2.symm,(A6 k0 h2.symm).trans h1.symm,hn⟩
theorem Good.on {L:List (List Int)} {r:List Int} (g:Good L r) {P:aj→Prop} (hs:∀ d,Dt L d→P d→P (nx L d)) {i:Nat} (h:P (dj r i)) (j:Nat):P (dj r j):=by
 have two:=g.two
 have go:∀ k,P (dj r (i + k)):=by
  intro k
  induction k with
  | zero=>exact h
  | succ k ih=>have:=hs _ (g.dt _) ih; rw [g.st] at this; exact this
 have:=go (j + i * r.length - i)
 have e:i≤i * r.length:=Nat.le_mul_of_pos_right i (by omega)
 rw [show i + (j + i * r.length - i) = j + i * r.length by omega] at this
 rw [ck (i:=j + i * r.length) (j:=j) (by rw [Nat.add_mul_mod_self_right])] at this
 exact this
theorem nP {M:List (List Int)} {x:Int} {n:Nat} {A B:List Int} (hn:M.length = n + 1) (x1:x.toNat < n):(both M x (n:Int) A B).take n = (M.take n).set x.toNat A:=by
 unfold both
 rw [Int.toNat_natCast]
 apply List.ext_getElem?
 intro i
 rw [List.getElem?_take]
 by_cases h:i < n
 ·rw [if_pos h,List.getElem?_set_ne (by omega)]
  by_cases e:i = x.toNat
  ·subst e
   rw [List.getElem?_set,if_pos rfl,if_pos (by omega),List.getElem?_set,if_pos rfl,if_pos (by rw [List.length_take]; omega)]
  ·rw [List.getElem?_set_ne (fun w=>e w.symm),List.getElem?_set_ne (fun w=>e w.symm),List.getElem?_take,if_pos h]
 ·rw [if_neg h,List.getElem?_eq_none (by rw [List.length_set,List.length_take]; omega)]
theorem wG {M:List (List Int)} {n:Nat} (hn:M.length = n + 1):M.take n ++ [rowOf M (n:Int)] = M:=by
 have h:=aq (L:=M) (a:=(n:Int)) (by omega) (by omega)
 rw [Int.toNat_natCast] at h
 rw [← take_snoc h,List.take_of_length_le (by omega)]
end Gm
end
section
namespace L2
open PySem PySem.Spec PySem.W PySem.Calls PyProof.Rows
def Dc (K:Frag) (a b:Addr):It:=
 ⟨fun i H=>∃ xs ys x y,aD K H a xs∧aD K H b ys∧xs[i]? = some x∧ys[i]? = some y,
  fun i H v H'=>∃ p x y,H p = none∧v = .ref p∧(∀ xs,aD K H a xs→xs[i]? = some x)∧(∀ ys,aD K H b ys→ys[i]? = some y)∧H' = upd H p (.tup [x,y]),
  fun i H=>∃ xs ys,aD K H a xs∧aD K H b ys∧(xs.length≤i∨ys.length≤i)⟩
theorem x6 {P:Program} {w:World} {K:Frag} {elts:List Expr} {kx:Nat} {px:Pos} {a b z TI TO i1 i2:Addr} (D:ZipApart z TI TO i1 i2 a b) :
  Turn P w K (.Tuple elts kx px) (Dc K a b) [z,TI,TO,i1,i2] z (fun i h=>IsZip h z TI TO .none∧IsPair h TI (.ref i1) (.ref i2)∧(∃ u v,IsPair h TO u v)∧h.IsListIter i1 a i∧h.IsListIter i2 b i) where
 mem:=by simp
 obj:=fun i h st c hc=>by
  obtain ⟨h1,h2,⟨u,v,h3⟩,h4,h5⟩:=st
  simp only [List.mem_cons,List.not_mem_nil,or_false] at hc
  rcases hc with rfl | rfl | rfl | rfl | rfl
  ·exact ⟨_,h1,fun v q=>by cases q⟩
  ·exact ⟨_,h2,fun v q=>by cases q⟩
  ·exact ⟨_,h3,fun v q=>by cases q⟩
  ·obtain ⟨o,e1,_,d⟩:=h4; exact ⟨o,e1,fun v q=>by rw [d] at q; cases q⟩
  ·obtain ⟨o,e1,_,d⟩:=h5; exact ⟨o,e1,fun v q=>by rw [d] at q; cases q⟩
 keep:=fun i h h' st k=>by
  obtain ⟨h1,h2,⟨u,v,h3⟩,h4,h5⟩:=st
  exact ⟨k z (by simp) _ h1,k TI (by simp) _ h2,⟨u,v,k TO (by simp) _ h3⟩,h4.at fun o q=>k i1 (by simp) o q,h5.at fun o q=>k i2 (by simp) o q⟩
 item:=by
  intro X hP hw hK hc i pins s σ H E I hf st hg
  subst hP hw hK
  obtain ⟨h1,h2,⟨u,v,h3⟩,h4,h5⟩:=st
  obtain ⟨xs,ys,x,y,vT,BM,hx,hy⟩:=hg
  obtain ⟨ia,ra,pa,za⟩:=I.list vT
  obtain ⟨ib,rb,pb,zb⟩:=I.list BM
  obtain ⟨u1,Wc,Gg⟩:=ra.get hx
  obtain ⟨u2,Wb,Gf⟩:=rb.get hy
  have lt:∀ c∈[z,TI,TO,i1,i2],c < s.heap.objs.size:=fun c hc=>by
   simp only [List.mem_cons,List.not_mem_nil,or_false] at hc
   rcases hc with rfl | rfl | rfl | rfl | rfl
   ·exact Heap.lt_size h1
   ·exact Heap.lt_size h2
   ·exact Heap.lt_size h3
   ·obtain ⟨_,q,_⟩:=id h4; exact Heap.lt_size q
   ·obtain ⟨_,q,_⟩:=id h5; exact Heap.lt_size q
  refine wpAny_pyNext_zip_item D h1 h2 h3 h4 h5 pa.isList pb.isList (x:=u1) (y:=u2) (by simpa using Wc) (by simpa using Wb) fun h' k1 k2 k3 k4 hT hsz hk=>⟨_,rfl,?_⟩
  refine wpAny_letOwnedTupleGo_zip k1 fun vW BR xP=>?_
  have hn:H s.heap.objs.size = none:=I.bS.fresh (Nat.le_refl _)
  have nz:s.heap.objs.size≠z:=Nat.ne_of_gt (lt z (by simp))
  have kk:∀ c o,c∉[z,TI,TO,i1,i2]→s.heap.get? c = some o→vW.get? c = some o:=fun c o hc q=>by
   simp only [List.mem_cons,List.not_mem_nil,or_false,not_or] at hc
   exact (xP.2 c hc.1).trans (hk c o hc.1 hc.2.2.1 hc.2.2.2.1 hc.2.2.2.2 q)
  have Om:vW.get? s.heap.objs.size = some { cls:=.type "tuple",data:=.seq #[u1,u2] }:=(xP.2 _ nz).trans hT
  refine ⟨.ref s.heap.objs.size,upd H s.heap.objs.size (.tup [x,y]),Inv.jB (s:=s) (h':=vW) (t':=s.toks) I kk hf (Nat.le_refl _) ⟨by simp only [List.length_cons,List.length_nil]; rw [sizeLine_eq]; decide,[u1,u2],.cons Gg (.cons Gf .nil),⟨_,Om,rfl,_,rfl⟩⟩,rfl,
   ⟨_,x,y,hn,rfl,fun FL As=>by rw [I.jq As vT]; exact hx,fun FL As=>by rw [I.jq As BM]; exact hy,rfl⟩,⟨BR,?_,⟨u1,u2,(xP.2 _ D.TOz).trans k2⟩,k3.at fun o q=>(xP.2 i1 D.i1z).trans q,k4.at fun o q=>(xP.2 i2 D.i2z).trans q⟩,fun c hc=>?_⟩
  ·exact (xP.2 _ D.TIz).trans (hk TI _ D.TIz D.TITO D.TIi1 D.TIi2 h2)
  ·rw [ax (Nat.ne_of_lt (lt c hc))]
   exact (hf c hc).1
 done:=by
  intro X hP hw hK hc i pins s σ H E I hf st hg
  subst hP hw hK
  obtain ⟨h1,h2,⟨u,v,h3⟩,h4,h5⟩:=st
  obtain ⟨xs,ys,vT,BM,sI⟩:=hg
  obtain ⟨ia,ra,pa,za⟩:=I.list vT
  obtain ⟨ib,rb,pb,zb⟩:=I.list BM
  have la:=ra.length
  have lb:=rb.length
  refine wpAny_pyNext_zip_end (I.ok.hd hc) D h1 h2 h3 h4 h5 pa.isList pb.isList ?_ fun h' eb=>⟨rfl,Inv.uT (t':=s.toks) (ch:=[z,TI,TO,i1,i2]) I (fun c o hc q=>?_) hf⟩
  ·rcases sI with q | q
   ·left; simp; omega
   ·right; simp; omega
  ·simp only [List.mem_cons,List.not_mem_nil,or_false,not_or] at hc
   exact eb c o hc.1 hc.2.2.1 hc.2.2.2.1 hc.2.2.2.2 q
 self:=fun _ _ _ _ _ st h=>wpAny_pyIter_zip st.1 h
def NI (K:Frag) (ta:TA):TI:=fun σ H R=>ta σ H fun vs H1=>∃ a b,vs = [.ref a,.ref b]∧(∃ xs,aD K H1 a xs)∧(∃ ys,aD K H1 b ys)∧R (Dc K a b) H1
theorem oI:bootBuiltins "zip" = some (.type "zip"):=by decide +kernel
theorem yL {X:Cx} {l m:Expr} {ta:TA} {p pos:Pos} {elts:List Expr} {kx:Nat} {px:Pos} (hm:X.mg "zip" = none) (ha:PA X [l,m] ta) (hg:Gl X "zip":=by rfl) (he:starEach [l,m] X.env = (false,eval l X.env) :: starEach [m] X.env:=by rfl) (tD:(backTo pos (starEach [m] X.env)).any (·.1) = false:=by rfl) :
  PI X (.Tuple elts kx px) (.Call (.Name "zip" p) [l,m] [] pos) (NI X.K ta):=by
 intro pins s σ H R I h
 refine Call_ (gk I hg hm oI (PyProof.Rows.callWith_type1 (dc (ha pos pins s σ H _ I h) fun us s1 ⟨vs,H1,I1,r1,q1⟩=>?_) he tD))
 obtain ⟨a,b,rfl,⟨xs,vT⟩,⟨ys,BM⟩,q⟩:=q1
 obtain ⟨u1,u2,rfl,Gg,Gf⟩:=vals2 r1
 cases Gg
 cases Gf
 obtain ⟨ia,ra,pa,za⟩:=I1.list vT
 obtain ⟨ib,rb,pb,zb⟩:=I1.list BM
 have Bx:a < s1.heap.objs.size:=by obtain ⟨_,e,_⟩:=pa.isList; exact Heap.lt_size e
 have Bw:b < s1.heap.objs.size:=by obtain ⟨_,e,_⟩:=pb.isList; exact Heap.lt_size e
 have ne:∀ {j k:Nat},j≠k→s1.heap.objs.size + j≠s1.heap.objs.size + k:=fun h z=>h (Nat.add_left_cancel z)
 have nl:∀ {c:Addr} (k:Nat),c < s1.heap.objs.size→c≠s1.heap.objs.size + k:=fun k l=>Nat.ne_of_lt (Nat.lt_of_lt_of_le l (Nat.le_add_right _ _))
 have D:ZipApart (s1.heap.objs.size + 4) (s1.heap.objs.size + 2) (s1.heap.objs.size + 3) s1.heap.objs.size (s1.heap.objs.size + 1) a b:=
  ⟨ne (by decide),ne (by decide),ne (j:=0) (by decide),ne (by decide),ne (by decide),ne (k:=0) (by decide),ne (by decide),ne (k:=0) (by decide),ne (by decide),ne (j:=0) (by decide),nl _ Bx,nl _ Bx,nl 0 Bx,nl _ Bx,nl _ Bw,nl _ Bw,nl 0 Bw,nl _ Bw⟩
 refine call_zip_2 pa.isList pb.isList fun h' hz tE xp h1 h2 hsz hk=>?_
 refine wpAny_pyIter_zip hz ?_
 have I2:Inv X pins σ H1 { s1 with heap:=h' }:=I1.kept (t':=s1.toks) fun c o e=>hk c o e
 refine ⟨_,[s1.heap.objs.size + 4,s1.heap.objs.size + 2,s1.heap.objs.size + 3,s1.heap.objs.size,s1.heap.objs.size + 1],_,_,H1,rfl,I2,x6 D,⟨hz,tE,⟨_,_,xp⟩,h1,h2⟩,fun c hc=>?_,q⟩
 have le:s1.heap.objs.size≤c:=by
  simp only [List.mem_cons,List.not_mem_nil,or_false] at hc
  rcases hc with rfl | rfl | rfl | rfl | rfl
  ·exact Nat.le_add_right _ _
  ·exact Nat.le_add_right _ _
  ·exact Nat.le_add_right _ _
  ·exact Nat.le_refl _
  ·exact Nat.le_add_right _ _
 exact I1.xq le (I1.bS.fresh le)
theorem BZ {K:Frag} {a b:Addr} {xs ys:List V} {g:TG} {tb:TS} {D:Ends} {σ : St} {H:Hp} (Pv:Nat→St→Hp→Prop) (h0:Pv 0 σ H) (nv:xs.length = ys.length) (hl:∀ i σ H,i≤xs.length→Pv i σ H→aD K H a xs∧aD K H b ys)
  (hs:∀ i x y p σ H,xs[i]? = some x→ys[i]? = some y→Pv i σ H→H p = none→g (.ref p) σ (upd H p (.tup [x,y])) fun σ2 H2=>tb { D with nx:=Pv (i + 1),ct:=Pv (i + 1),bk:=D.nx } σ2 H2) (hd:∀ σ H,Pv xs.length σ H→D.nx σ H) :
  ∃ W:Nat→Nat→St→Hp→Prop,(∃ m,W 0 m σ H)∧∀ i m σ H,W i m σ H→
   ((Dc K a b).stop i H∧D.nx σ H)∨((Dc K a b).go i H∧∃ N:St→Hp→Prop,(∀ σ' H',N σ' H'→∃ m',m' < m∧W (i + 1) m' σ' H')∧∀ x H',(Dc K a b).xM i H x H'→g x σ H' fun σ2 H2=>tb { D with nx:=N,ct:=N,bk:=D.nx } σ2 H2):=by
 refine ⟨fun i m σ H=>m = xs.length - i∧i≤xs.length∧Pv i σ H,⟨xs.length,by simp,Nat.zero_le _,h0⟩,?_⟩
 rintro i m σ H ⟨rfl,hi,p⟩
 obtain ⟨qa,qb⟩:=hl i σ H hi p
 by_cases eG:i < xs.length
 ·have N3:i < ys.length:=by omega
  refine .inr ⟨⟨xs,ys,xs[i],ys[i],qa,qb,by simp [eG],by simp [N3]⟩,Pv (i + 1),fun σ' H' p'=>⟨xs.length - (i + 1),by omega,rfl,eG,p'⟩,fun x H' y=>?_⟩
  obtain ⟨r,u,v,hr,rfl,hu,hv,rfl⟩:=y
  exact hs i u v r σ H (hu xs qa) (hv ys qb) p hr
 ·have e:i = xs.length:=by omega
  subst e
  exact .inl ⟨⟨xs,ys,qa,qb,.inl (Nat.le_refl _)⟩,hd σ H p⟩
end L2
end
section
namespace Gm
open PySem L2
theorem vL:∀ {l r:List (List Int)},l.Pairwise (fun a b=>HT.lexLt a b = true)→r.Pairwise (fun a b=>HT.lexLt a b = true)→(∀ x,x∈l↔x∈r)→l = r
 | [],[],_,_,_=>rfl
 | [],b :: r,_,_,h=>absurd ((h b).mpr List.mem_cons_self) (by simp)
 | a :: l,[],_,_,h=>absurd ((h a).mp List.mem_cons_self) (by simp)
 | a :: l,b :: r,hl,hr,h=>by
  obtain ⟨l1,l2⟩:=List.pairwise_cons.mp hl
  obtain ⟨r1,r2⟩:=List.pairwise_cons.mp hr
  have VW:∀ {x y:List Int},HT.lexLt x y = true→HT.lexLt y x = true→False:=fun p q=>by have:=sA p; rw [q] at this; cases this
  have e:a = b:=by
   rcases List.mem_cons.mp ((h a).mp List.mem_cons_self) with z | z
   ·exact z
   ·rcases List.mem_cons.mp ((h b).mpr List.mem_cons_self) with y | y
    ·exact y.symm
    ·exact (VW (r1 a z) (l1 b y)).elim
  subst e
  have nn:∀ {x:List Int},HT.lexLt x x = true→False:=fun p=>by rw [kP] at p; cases p
  rw [vL l2 r2 fun x=>?_]
  constructor
  ·intro z
   rcases List.mem_cons.mp ((h x).mp (List.mem_cons_of_mem _ z)) with y | y
   ·subst y; exact (nn (l1 x z)).elim
   ·exact y
  ·intro z
   rcases List.mem_cons.mp ((h x).mpr (List.mem_cons_of_mem _ z)) with y | y
   ·subst y; exact (nn (r1 x z)).elim
   ·exact y
theorem Good.it {L:List (List Int)} {r:List Int} (g:Good L r) (j:Nat):∀ i,dj r (j + i) = Gm.it L (dj r j) i
 | 0=>rfl
 | i + 1=>by show dj r (j + i + 1) = nx L (Gm.it L (dj r j) i); rw [← g.it j i,g.st]
theorem jD {L:List (List Int)} {r q:List Int} (g:Good L r) (k:Good L q) (n1:(sh 0 r).Nodup) (n2:(sh 0 q).Nodup) {j:Nat} (h:dj r 0 = dj q j):∃ c,c < q.length∧r = bM q c:=by
 have r0:0 < r.length:=by have:=g.two; omega
 have q0:0 < q.length:=by have:=k.two; omega
 have mem:∀ x,x∈sh 0 r↔x∈sh 0 q:=fun x=>by
  have cr:=g.hZ
  have cq:=k.hZ
  have hr:dj r 0∈sh 0 r:=(cG r0).mpr ⟨0,rfl⟩
  have hq:dj r 0∈sh 0 q:=(cG q0).mpr ⟨j,h⟩
  constructor
  ·intro z; exact cr.conn (P:=fun d=>d∈sh 0 q) hr z hq fun d _ hd=>cq.on hd
  ·intro z; exact cq.conn (P:=fun d=>d∈sh 0 r) hq z hr fun d _ hd=>cr.on hd
 have len:r.length = q.length:=by have:=len_eq n1 n2 mem; rwa [bQ,bQ] at this
 refine ⟨j % q.length,Nat.mod_lt _ q0,?_⟩
 refine uK (by rw [bF (Nat.le_of_lt (Nat.mod_lt _ q0)),len]) fun i=>?_
 rw [dW (Nat.mod_lt _ q0)]
 have e1:dj r i = dj q (j + i):=by
  have h1:=g.it 0 i
  have h2:=k.it j i
  rw [Nat.zero_add] at h1
  rw [h1,h2,h]
 have e2:cy r i = cy q (j + i):=congrArg Prod.fst e1
 rw [e2]
 exact cw (by rw [Nat.add_mod_mod,Nat.add_comm])
theorem bq.sub {L R S:List (List Int)} (h:bq L R) (k:bq L S) {r:List Int} (hr:r∈R):r∈S:=by
 have g:=h.good r hr
 have r0:0 < r.length:=by have:=g.two; omega
 obtain ⟨q,hq,hd⟩:=List.mem_flatMap.mp (k.all _ (g.dt 0))
 have kq:=k.good q hq
 have q0:0 < q.length:=by have:=kq.two; omega
 obtain ⟨j,ej⟩:=(cG q0).mp hd
 have n1:(sh 0 r).Nodup:=(List.pairwise_flatMap.mp h.nd).1 r hr
 have n2:(sh 0 q).Nodup:=(List.pairwise_flatMap.mp k.nd).1 q hq
 obtain ⟨c,hc,e⟩:=jD g kq n1 n2 ej
 have l1:Le q r:=by rw [e]; exact k.least q hq c hc
 have l2:Le r q:=by
  by_cases z:c = 0
  ·have:r = q:=by rw [e,z]; unfold bM; simp
   rw [this]; exact Le.refl _
  ·have hl:r.length = q.length:=by rw [e,bF (Nat.le_of_lt hc)]
   have:=h.least r hr (q.length - c) (by omega)
   rw [e] at this ⊢
   rw [kC hc (by omega),show q.length - c + c = q.length by omega,Nat.mod_self] at this
   have Uj:bM q 0 = q:=by unfold bM; simp
   rw [Uj] at this
   exact this
 rw [Le.IL l2 l1]; exact hq
theorem bq.unique {L R S:List (List Int)} (h:bq L R) (k:bq L S):R = S:=vL h.sorted k.sorted fun _=>⟨fun z=>h.sub k z,fun z=>k.sub h z⟩
def aW (a b:List Int):Prop:=a = b∨∃ c,c < b.length∧a = bM b c
theorem aW.len {a b:List Int} (h:aW a b):a.length = b.length:=by
 rcases h with rfl | ⟨c,hc,rfl⟩
 ·rfl
 ·exact bF (Nat.le_of_lt hc)
theorem aW.idx {a b:List Int} (h:aW a b) (n:b.Nodup) {x:Int} {t:List Int} (e:a = x :: t):x∈b∧bM b (b.idxOf x) = a:=by
 have h':∃ c,c < b.length∧a = bM b c:=by
  rcases h with rfl | h
  ·exact ⟨0,by rw [e]; simp,by unfold bM; simp⟩
  ·exact h
 obtain ⟨c,hc,ea⟩:=h'
 have hx:x = b[c]:=by
  rw [ea,gR hc] at e
  injection e with e1 e2
  rw [← e1,dk hc]
 have mem:x∈b:=by rw [hx]; exact List.getElem_mem _
 have ix:=List.idxOf_lt_length_of_mem mem
 have g:=List.getElem_idxOf ix
 have:b.idxOf x = c:=(List.getElem_inj n).mp (g.trans hx)
 exact ⟨mem,by rw [this,ea]⟩
end Gm
namespace L2
open PySem PySem.Spec PySem.W PySem.Calls PyProof.Rows
theorem EZ:bootBuiltins "max" = some (.builtin "max"):=by decide +kernel
end L2
namespace Gm
open PySem L2
theorem aW.perm {a b:List Int} (h:aW a b):a.Perm b:=by
 rcases h with rfl | ⟨c,hc,rfl⟩
 ·exact List.Perm.refl _
 ·unfold bM
  exact (List.perm_append_comm).trans (by rw [List.take_append_drop])
theorem aw.pL {L M:List (List Int)} (m:aw M) (hl:L.length = M.length) (h:∀ (i:Nat) (l k:List Int),L[i]? = some l→M[i]? = some k→l.Perm k):aw L:=by
 have at_:∀ (j:Nat) (x:List Int),L[j]? = some x→∃ y,M[j]? = some y∧x.Perm y:=fun j x e=>by
  have hj:j < M.length:=by rw [← hl]; exact (List.getElem?_eq_some_iff.mp e).1
  exact ⟨M[j],List.getElem?_eq_getElem hj,h j x M[j] e (List.getElem?_eq_getElem hj)⟩
 refine ⟨fun j x e=>?_,fun j x e y hy=>?_,fun j x e y hy k hk z ez=>?_⟩
 ·obtain ⟨y,e1,e2⟩:=at_ j x e
  exact e2.nodup_iff.mpr (m.nd _ _ e1)
 ·obtain ⟨w,e1,e2⟩:=at_ j x e
  rw [hl]
  exact m.rg _ _ e1 y (e2.mem_iff.mp hy)
 ·obtain ⟨w,e1,e2⟩:=at_ j x e
  obtain ⟨w',e3,e4⟩:=at_ k z ez
  exact e4.mem_iff.mpr (m.sy _ _ e1 y (e2.mem_iff.mp hy) k hk _ e3)
def bJ (L M:List (List Int)):Prop:=L.length = M.length∧∀ (i:Nat) (l m:List Int),L[i]? = some l→M[i]? = some m→aW l m
theorem bJ.eJ {L M:List (List Int)} (h:bJ L M) (m:aw M):aw L:=m.pL h.1 fun i l k e1 e2=>(h.2 i l k e1 e2).perm
theorem bJ.mem {L M:List (List Int)} (h:bJ L M) {x y:Int} (x0:0≤x) (x1:x < L.length):y∈rowOf L x↔y∈rowOf M x:=by
 have e1:=aq x0 x1
 have e2:=aq (L:=M) x0 (by rw [← h.1]; exact x1)
 exact (h.2 _ _ _ e1 e2).perm.mem_iff
end Gm
end
section
namespace Gm
open PySem L2
theorem aW.trans {a b c:List Int} (h:aW a b) (k:aW b c):aW a c:=by
 rcases k with rfl | ⟨j,hj,rfl⟩
 ·exact h
 ·rcases h with rfl | ⟨i,hi,rfl⟩
  ·exact .inr ⟨j,hj,rfl⟩
  ·rw [bF (Nat.le_of_lt hj)] at hi
   rw [kC hj hi]
   exact .inr ⟨_,Nat.mod_lt _ (by omega),rfl⟩
theorem bJ.row {L M:List (List Int)} (h:bJ L M) {x:Int} (x0:0≤x) (x1:x < L.length):aW (rowOf L x) (rowOf M x):=h.2 _ _ _ (aq x0 x1) (aq x0 (by rw [← h.1]; exact x1))
theorem bJ.dt {L M:List (List Int)} (h:bJ L M) {d:aj} (k:Dt M d):Dt L d:=⟨k.lo,by rw [h.1]; exact k.hi,(h.mem k.lo (by rw [h.1]; exact k.hi)).mpr k.mem⟩
end Gm
end
section
namespace PySem
abbrev nG (h:Heap) (z TI TO a:Addr) (f:Bool):Prop:=
 h.get? z = some { cls:=.type "zip",dict:=none,data:=.fields #[rawInt a,.bool f,.bool false,.ref TI,.ref TO],slots:=#[] }
section
variable {prog:Program} {w:World} {A:Around} {E:Value→Shared→Prop} {s:Shared}
theorem xY {a:Addr} {o:Obj} {Q:Option Obj→Shared→Prop} (ho:s.heap.get? a = some o) (h:Q (some o) s):wpAny (model prog w) A (loadIfAlive a) Q E s:=by
 have h':Q (s.heap.get? a) s:=by rw [ho]; exact h
 exact fun _ _ _=>h'
theorem uP {z TI TO a:Addr} {f:Bool} {oa:Obj} {Q:Bool→Shared→Prop} (hz:nG s.heap z TI TO a f) (ha:s.heap.get? a = some oa)
  (h:∀ h',nG h' z TI TO a true→Heap.SameBut z s.heap h'→Q false { s with heap:=h' }):wpAny (model prog w) A (Builtin.SmallTypes.ownedTupleIsFree (.ref z)) Q E s:=by
 unfold Builtin.SmallTypes.ownedTupleIsFree
 refine wpAny_bind (wpAny_field hz rfl (x:=rawInt a) rfl ?_)
 show wpAny _ _ (loadIfAlive ((a:Int).toNat) >>= _) _ _ _
 rw [Int.toNat_natCast]
 refine wpAny_bind (xY ha ?_)
 simp only [Option.isNone_some,Bool.false_eq_true,if_false]
 refine wpAny_bind (wpAny_field hz rfl (x:=.bool f) rfl ?_)
 cases f with
 | true=>
  rw [if_neg (show ¬ ((Value.bool true != Value.bool true) = true) from Bool.false_ne_true)]
  exact wpAny_pure (h _ hz (Heap.SameBut.refl _ _))
 | false=>
  rw [if_pos (show (Value.bool false != Value.bool true) = true from rfl)]
  refine wpAny_bind (wpAny_setField_rec hz (by simp) fun h₃ he₃ hs₃=>?_)
  exact wpAny_pure (h _ he₃ hs₃)
theorem AN {z TI TO i1 i2 l1 l2 a:Addr} {f:Bool} {oa:Obj} {k1 k2:Nat} {xs ys:Array Value} {x y:Value} {Q:Value→Shared→Prop} (D:ZipApart z TI TO i1 i2 l1 l2)
  (hz:nG s.heap z TI TO a f) (ha:s.heap.get? a = some oa) (tE:IsPair s.heap TI (.ref i1) (.ref i2))
  (h1:s.heap.IsListIter i1 l1 k1) (h2:s.heap.IsListIter i2 l2 k2) (mf:s.heap.IsList l1 xs) (jv:s.heap.IsList l2 ys) (hx:xs[k1]? = some x) (hy:ys[k2]? = some y)
  (hQ:∀ h',nG h' z TI TO a true→h'.IsListIter i1 l1 (k1 + 1)→h'.IsListIter i2 l2 (k2 + 1)→IsPair h' s.heap.objs.size x y→h'.objs.size = s.heap.objs.size + 1→
   (∀ c o,c≠z→c≠i1→c≠i2→s.heap.get? c = some o→h'.get? c = some o)→Q (.ref s.heap.objs.size) { s with heap:=h' }) :
  wpAny (model prog w) A (Builtin.«zip.__next__» ⟨[.ref z],[]⟩) (fun fin s'=>∃ v,fin = .done (.ret v)∧Q v s') E s:=by
 show wpAny _ _ (field (.ref z) 2 >>= _) _ _ _
 refine wpAny_bind (wpAny_field hz rfl (x:=.bool false) rfl ?_)
 show wpAny _ _ (field (.ref z) 3 >>= _) _ _ _
 refine wpAny_bind (wpAny_field hz rfl (x:=.ref TI) rfl ?_)
 refine wpAny_bind (wpAny_seqItems tE rfl ?_)
 show wpAny _ _ (Builtin.SmallTypes.ownedTupleIsFree (.ref z) >>= _) _ _ _
 refine wpAny_bind (uP hz ha fun h₁ hz₁ hs₁=>?_)
 simp only [Bool.false_eq_true,if_false]
 refine wpAny_bind ?_
 rw [← Array.forIn_toList]
 simp only [List.forIn_cons,List.forIn_nil]
 refine wpAny_bind (wpAny_bind (wpAny_holding ?_))
 show wpAny _ _ (Builtin.SmallTypes.nextOf (.ref i1) >>= _) _ _ _
 refine wpAny_bind (wpAny_nextOf_list_item (h1.extBut hs₁.extBut D.i1z) (mf.extBut hs₁.extBut D.l1z) hx fun h₂ h1₂ hs₂=>wpAny_pure (wpAny_pure ?_))
 refine wpAny_bind (wpAny_bind (wpAny_holding ?_))
 show wpAny _ _ (Builtin.SmallTypes.nextOf (.ref i2) >>= _) _ _ _
 refine wpAny_bind (wpAny_nextOf_list_item ((h2.extBut hs₁.extBut D.i2z).extBut hs₂.extBut D.i12.symm)
  ((jv.extBut hs₁.extBut D.l2z).extBut hs₂.extBut D.l2i1) hy fun h₄ h2₄ hs₄=>wpAny_pure (wpAny_pure (wpAny_pure ?_)))
 refine wpAny_bind (wpAny_newTuple (hsz:=by show 2≤sizeLine; rw [sizeLine_eq]; decide) ?_)
 refine wpAny_pure ⟨_,rfl,?_⟩
 have hsz:h₄.objs.size = s.heap.objs.size:=by rw [hs₄.1,hs₂.1,hs₁.1]
 have hz₄ : nG h₄ z TI TO a true:=hs₄.extBut _ _ D.i2z.symm (hs₂.extBut _ _ D.i1z.symm hz₁)
 have h1₄ : h₄.IsListIter i1 l1 (k1 + 1):=h1₂.extBut hs₄.extBut D.i12
 show Q (.ref h₄.objs.size) _
 rw [hsz]
 refine hQ _ (Heap.get?_push_of_some _ hz₄) (h1₄.at fun o e=>Heap.get?_push_of_some _ e) (h2₄.at fun o e=>Heap.get?_push_of_some _ e) (by rw [← hsz]; exact Heap.get?_push_size _ rfl) (by rw [Heap.size_push,hsz]) fun c o c1 c2 c3 e=>
  Heap.get?_push_of_some _ (hs₄.extBut _ _ c3 (hs₂.extBut _ _ c2 (hs₁.extBut _ _ c1 e)))
theorem Df {z TI TO i1 i2 l1 l2 a:Addr} {f:Bool} {oa:Obj} {k1 k2:Nat} {xs ys:Array Value} {Q:Fin→Shared→Prop} (hh:A.handled = none) (D:ZipApart z TI TO i1 i2 l1 l2)
  (hz:nG s.heap z TI TO a f) (ha:s.heap.get? a = some oa) (tE:IsPair s.heap TI (.ref i1) (.ref i2))
  (h1:s.heap.IsListIter i1 l1 k1) (h2:s.heap.IsListIter i2 l2 k2) (mf:s.heap.IsList l1 xs) (jv:s.heap.IsList l2 ys) (sI:xs[k1]? = none)
  (hE:∀ h' e,(∀ c o,c≠z→c≠i1→c≠i2→s.heap.get? c = some o→h'.get? c = some o)→(∃ o,h'.get? e = some o∧o.cls = .type "StopIteration")→E (.ref e) { s with heap:=h' }) :
  wpAny (model prog w) A (Builtin.«zip.__next__» ⟨[.ref z],[]⟩) Q E s:=by
 show wpAny _ _ (field (.ref z) 2 >>= _) _ _ _
 refine wpAny_bind (wpAny_field hz rfl (x:=.bool false) rfl ?_)
 show wpAny _ _ (field (.ref z) 3 >>= _) _ _ _
 refine wpAny_bind (wpAny_field hz rfl (x:=.ref TI) rfl ?_)
 refine wpAny_bind (wpAny_seqItems tE rfl ?_)
 show wpAny _ _ (Builtin.SmallTypes.ownedTupleIsFree (.ref z) >>= _) _ _ _
 refine wpAny_bind (uP hz ha fun h₁ hz₁ hs₁=>?_)
 simp only [Bool.false_eq_true,if_false]
 refine wpAny_bind ?_
 rw [← Array.forIn_toList]
 simp only [List.forIn_cons,List.forIn_nil]
 refine wpAny_bind (wpAny_bind (wpAny_holding ?_))
 show wpAny _ _ (Builtin.SmallTypes.nextOf (.ref i1) >>= _) _ _ _
 refine wpAny_bind (wpAny_nextOf_list_end hh (h1.extBut hs₁.extBut D.i1z) (mf.extBut hs₁.extBut D.l1z) sI fun h₂ e hs₂ he=>?_)
 exact hE h₂ e (fun c o c1 c3 _ x=>hs₂ _ _ c3 (hs₁.extBut _ _ c1 x)) he
theorem wB {z TI TO i1 i2 l1 l2 a:Addr} {f:Bool} {oa:Obj} {k1 k2:Nat} {xs ys:Array Value} {x y:Value} {Q:Option Value→Shared→Prop} (D:ZipApart z TI TO i1 i2 l1 l2)
  (hz:nG s.heap z TI TO a f) (ha:s.heap.get? a = some oa) (tE:IsPair s.heap TI (.ref i1) (.ref i2))
  (h1:s.heap.IsListIter i1 l1 k1) (h2:s.heap.IsListIter i2 l2 k2) (mf:s.heap.IsList l1 xs) (jv:s.heap.IsList l2 ys) (hx:xs[k1]? = some x) (hy:ys[k2]? = some y)
  (hQ:∀ h',nG h' z TI TO a true→h'.IsListIter i1 l1 (k1 + 1)→h'.IsListIter i2 l2 (k2 + 1)→IsPair h' s.heap.objs.size x y→h'.objs.size = s.heap.objs.size + 1→
   (∀ c o,c≠z→c≠i1→c≠i2→s.heap.get? c = some o→h'.get? c = some o)→Q (some (.ref s.heap.objs.size)) { s with heap:=h' }) :
  wpAny (model prog w) A (pyNext (.ref z)) Q E s:=by
 have hT:s.TypeIs (.ref z) "zip":=⟨_,hz,rfl⟩
 unfold pyNext
 exact wpAny_bind (wpAny_attempt (wpAny_callSpecial?_slot (name:=Str.ofString "__next__") hT F.slot_zip_next
  (wpAny_call_entry F.slot_zip_next hT F.entry_zip_next
   (AN D hz ha tE h1 h2 mf jv hx hy fun h' a1 a2 a3 a4 a5 a6=>wpAny_pure (hQ h' a1 a2 a3 a4 a5 a6)) (F.args_zip_next_1 _))))
theorem xX {z TI TO i1 i2 l1 l2 a:Addr} {f:Bool} {oa:Obj} {k1 k2:Nat} {xs ys:Array Value} {Q:Option Value→Shared→Prop} (hh:A.handled = none) (D:ZipApart z TI TO i1 i2 l1 l2)
  (hz:nG s.heap z TI TO a f) (ha:s.heap.get? a = some oa) (tE:IsPair s.heap TI (.ref i1) (.ref i2))
  (h1:s.heap.IsListIter i1 l1 k1) (h2:s.heap.IsListIter i2 l2 k2) (mf:s.heap.IsList l1 xs) (jv:s.heap.IsList l2 ys) (sI:xs[k1]? = none)
  (hQ:∀ h',(∀ c o,c≠z→c≠i1→c≠i2→s.heap.get? c = some o→h'.get? c = some o)→Q none { s with heap:=h' }):wpAny (model prog w) A (pyNext (.ref z)) Q E s:=by
 have hT:s.TypeIs (.ref z) "zip":=⟨_,hz,rfl⟩
 unfold pyNext
 refine wpAny_bind (wpAny_attempt (wpAny_callSpecial?_slot (name:=Str.ofString "__next__") hT F.slot_zip_next
  (wpAny_call_entry F.slot_zip_next hT F.entry_zip_next (Df hh D hz ha tE h1 h2 mf jv sI fun h' e hk he=>?_) (F.args_zip_next_1 _))))
 obtain ⟨o,ho,hc⟩:=he
 refine wpAny_bind (wpAny_isInstance (T:= "StopIteration") (b:=true) ⟨o,ho,hc⟩ isSubtype_stop ?_)
 exact wpAny_pure (hQ _ hk)
end
structure mO (h:Heap) (z TI TO i1 i2 l1 l2 S:Addr) (i:Nat):Prop where
 own:(i = 0∧IsZip h z TI TO .none∧∃ a b,IsPair h TO a b)∨∃ a f oa,nG h z TI TO a f∧h.get? a = some oa∧a∉[z,i1,i2,S]
 it:IsPair h TI (.ref i1) (.ref i2)
 one:h.IsListIter i1 l1 i
 two:h.IsListIter i2 l2 i
theorem mO.keep {h h':Heap} {z TI TO i1 i2 l1 l2 S:Addr} {i:Nat} (x:mO h z TI TO i1 i2 l1 l2 S i) (hk:∀ b o,b≠S→h.get? b = some o→h'.get? b = some o) (hS:S∉[z,TI,TO,i1,i2]):mO h' z TI TO i1 i2 l1 l2 S i:=by
 simp only [List.mem_cons,List.not_mem_nil,or_false,not_or] at hS
 obtain ⟨n1,n2,n3,n4,n5⟩:=hS
 refine ⟨?_,hk _ _ (Ne.symm n2) x.it,x.one.at fun o e=>hk _ _ (Ne.symm n4) e,x.two.at fun o e=>hk _ _ (Ne.symm n5) e⟩
 rcases x.own with ⟨e,h1,a,b,h2⟩ | ⟨a,f,oa,h1,h2,h3⟩
 ·exact .inl ⟨e,hk _ _ (Ne.symm n1) h1,a,b,hk _ _ (Ne.symm n3) h2⟩
 ·refine .inr ⟨a,f,oa,hk _ _ (Ne.symm n1) h1,hk _ _ ?_ h2,h3⟩
  simp only [List.mem_cons,List.not_mem_nil,or_false,not_or] at h3
  exact h3.2.2.2
structure Ci (xs ys:Array Value) (lo:Addr) (h:Heap) (as:List Addr):Prop where
 rise:as.Pairwise (· < ·)
 above:∀ a∈as,lo≤a
 pairs:∀ (j:Nat) (a:Addr),as[j]? = some a→∃ x y,xs[j]? = some x∧ys[j]? = some y∧IsPair h a x y
section
variable {prog:Program} {w:World} {A:Around} {E:Value→Shared→Prop} {s:Shared}
theorem AM {z TI TO i1 i2 l1 l2 S:Addr} {i:Nat} {xs ys:Array Value} {x y:Value} {Q:Option Value→Shared→Prop} (D:ZipApart z TI TO i1 i2 l1 l2) (st:mO s.heap z TI TO i1 i2 l1 l2 S i) (hS:S < s.heap.objs.size)
  (mf:s.heap.IsList l1 xs) (jv:s.heap.IsList l2 ys) (hx:xs[i]? = some x) (hy:ys[i]? = some y)
  (hQ:∀ h',mO h' z TI TO i1 i2 l1 l2 S (i + 1)→IsPair h' s.heap.objs.size x y→h'.objs.size = s.heap.objs.size + 1→
   (∀ c o,c∉[z,TO,i1,i2]→s.heap.get? c = some o→h'.get? c = some o)→Q (some (.ref s.heap.objs.size)) { s with heap:=h' }) :
  wpAny (model prog w) A (pyNext (.ref z)) Q E s:=by
 have VD:i1 < s.heap.objs.size:=by obtain ⟨_,e,_⟩:=st.one; exact Heap.lt_size e
 have VC:i2 < s.heap.objs.size:=by obtain ⟨_,e,_⟩:=st.two; exact Heap.lt_size e
 have f:∀ {c p q r t:Addr},c∉[p,q,r,t]→c≠p∧c≠q∧c≠r∧c≠t:=fun h=>by
  simpa only [List.mem_cons,List.not_mem_nil,or_false,not_or] using h
 have g:∀ {c p q r t:Addr},c≠p→c≠q→c≠r→c≠t→c∉[p,q,r,t]:=fun h1 h2 h3 h4=>by
  simp only [List.mem_cons,List.not_mem_nil,or_false,not_or]; exact ⟨h1,h2,h3,h4⟩
 rcases st.own with ⟨rfl,h1,a,b,h2⟩ | ⟨a,fl,oa,h1,h2,h3⟩
 ·refine wpAny_pyNext_zip_item D h1 st.it h2 st.one st.two mf jv hx hy fun h' k1 k2 k3 k4 hT hsz hk=>hQ h' ⟨.inr ⟨_,false,_,k1,hT,g (Nat.ne_of_gt (Heap.lt_size h1)) (Nat.ne_of_gt VD) (Nat.ne_of_gt VC) (Nat.ne_of_gt hS)⟩,hk _ _ D.TIz D.TITO D.TIi1 D.TIi2 st.it,k3,k4⟩ hT hsz fun c o hc e=>?_
  obtain ⟨c1,c2,c3,c4⟩:=f hc
  exact hk c o c1 c2 c3 c4 e
 ·obtain ⟨b1,b2,b3,b4⟩:=f h3
  refine wB D h1 h2 st.it st.one st.two mf jv hx hy fun h' k1 k3 k4 hT hsz hk=>hQ h' ⟨.inr ⟨a,true,oa,k1,hk _ _ b1 b2 b3 h2,h3⟩,hk _ _ D.TIz D.TIi1 D.TIi2 st.it,k3,k4⟩ hT hsz fun c o hc e=>?_
  obtain ⟨c1,c2,c3,c4⟩:=f hc
  exact hk c o c1 c3 c4 e
theorem De {z TI TO i1 i2 l1 l2 S:Addr} {i:Nat} {xs ys:Array Value} {Q:Option Value→Shared→Prop} (hh:A.handled = none) (D:ZipApart z TI TO i1 i2 l1 l2) (st:mO s.heap z TI TO i1 i2 l1 l2 S i)
  (mf:s.heap.IsList l1 xs) (jv:s.heap.IsList l2 ys) (sI:xs[i]? = none)
  (hQ:∀ h',(∀ c o,c∉[z,TO,i1,i2]→s.heap.get? c = some o→h'.get? c = some o)→Q none { s with heap:=h' }):wpAny (model prog w) A (pyNext (.ref z)) Q E s:=by
 have f:∀ {c p q r t:Addr},c∉[p,q,r,t]→c≠p∧c≠q∧c≠r∧c≠t:=fun h=>by
  simpa only [List.mem_cons,List.not_mem_nil,or_false,not_or] using h
 rcases st.own with ⟨rfl,h1,a,b,h2⟩ | ⟨a,fl,oa,h1,h2,h3⟩
 ·refine wpAny_pyNext_zip_end hh D h1 st.it h2 st.one st.two mf jv (.inl sI) fun h' hk=>hQ h' fun c o hc e=>?_
  obtain ⟨c1,c2,c3,c4⟩:=f hc
  exact hk c o c1 c2 c3 c4 e
 ·refine xX hh D h1 h2 st.it st.one st.two mf jv sI fun h' hk=>hQ h' fun c o hc e=>?_
  obtain ⟨c1,c2,c3,c4⟩:=f hc
  exact hk c o c1 c3 c4 e
end
section
variable {prog:Program} {w:World} {A:Around} {s:Shared} {R:Result→Shared→Prop} {xs ys:Array Value}
theorem AL {S z TI TO i1 i2 l1 l2:Addr} (hh:A.handled = none) (D:ZipApart z TI TO i1 i2 l1 l2) (zK:S∉[z,TI,TO,i1,i2]) (JU:l1≠S) (tF:l2≠S) (nv:xs.size = ys.size) (hn:xs.size≤sizeLine) (res:Value) {h₁ : Heap}
  (hR:∀ h' tk acc c as,(∀ b o,b≠S→b∉[z,TO,i1,i2]→h₁.get? b = some o→h'.get? b = some o)→h'.get? S = some { cls:=.type "list",dict:=none,data:=.seq acc c,slots:=#[] }→as.length = xs.size→Ci xs ys h₁.objs.size h' as→
   acc.toList = as.map Value.ref→R (.ok (.ret res)) { s with heap:=h',toks:=tk }) :
  ∀ (k i:Nat) (h:Heap) (tk c:Nat) (acc:Array Value) (as:List Addr),xs.size - i = k→i≤xs.size→mO h z TI TO i1 i2 l1 l2 S i→h.IsList l1 xs→h.IsList l2 ys→(∀ b o,b≠S→b∉[z,TO,i1,i2]→h₁.get? b = some o→h.get? b = some o)→
   h.get? S = some { cls:=.type "list",dict:=none,data:=.seq acc c,slots:=#[] }→acc.toList = as.map Value.ref→as.length = i→Ci xs ys h₁.objs.size h as→h₁.objs.size≤h.objs.size→(∀ c∈[z,TO,i1,i2],c < h₁.objs.size)→S < h₁.objs.size→
   codeAny (model prog w) A (.builtin "list.extend.loop" ⟨[.ref S,.ref z,res],[]⟩) R { s with heap:=h,toks:=tk }:=by
 have RQ:S∉[z,TO,i1,i2]:=by
  simp only [List.mem_cons,List.not_mem_nil,or_false,not_or] at zK ⊢
  exact ⟨zK.1,zK.2.2.1,zK.2.2.2.1,zK.2.2.2.2⟩
 intro k
 induction k with
 | zero=>
  intro i h tk c acc as hk hi Eu mf jv zB hS bI Hz hG hsz eG Oo
  have Fz:i = xs.size:=by omega
  refine codeAny_builtin PySem.F.entry_extend_loop ?_
  rw [Around.under_plainId PySem.F.plain_extend_loop _]
  show wpAny _ A.in1 (pyNext (.ref z) >>= _) _ _ _
  refine wpAny_bind (De (s:={ s with heap:=h,toks:=tk }) (A:=A.in1) hh D Eu mf jv (by rw [Array.getElem?_eq_none]; omega) fun h' he=>?_)
  refine wpAny_pure (hR h' tk acc c as (fun b o h1 h2 e=>he b o h2 (zB b o h1 h2 e)) (he S _ RQ hS) (by omega) ⟨hG.rise,hG.above,fun j a hj=>?_⟩ bI)
  obtain ⟨x,y,e1,e2,e3⟩:=hG.pairs j a hj
  refine ⟨x,y,e1,e2,he a _ (fun hm=>?_) e3⟩
  exact absurd (eG a hm) (Nat.not_lt.mpr (hG.above a (List.mem_of_getElem? hj)))
 | succ k ih=>
  intro i h tk c acc as hk hi Eu mf jv zB hS bI Hz hG hsz eG Oo
  have EE:i < xs.size:=by omega
  have CW:i < ys.size:=by omega
  have RA:acc.size = i:=by rw [← Array.length_toList,bI,List.length_map,Hz]
  refine codeAny_builtin PySem.F.entry_extend_loop ?_
  rw [Around.under_plainId PySem.F.plain_extend_loop _]
  show wpAny _ A.in1 (pyNext (.ref z) >>= _) _ _ _
  refine wpAny_bind (AM (s:={ s with heap:=h,toks:=tk }) (S:=S) (x:=xs[i]) (y:=ys[i]) D Eu (Heap.lt_size hS) mf jv (by simp [EE]) (by simp [CW]) fun h' NM ht hz CY=>?_)
  dsimp only at ht hz CY ⊢
  have JV:=CY S _ RQ hS
  have up:∀ b o,b≠S→h'.get? b = some o→(h'.update S (Obj.mapSeq (·.push (Value.ref h.objs.size)))).get? b = some o:=fun b o hb e=>(Heap.get?_update_other _ _ (Ne.symm hb)).trans e
  have HB:S < h.objs.size:=Heap.lt_size hS
  have U7:l1∉[z,TO,i1,i2]:=by
   simp only [List.mem_cons,List.not_mem_nil,or_false,not_or]; exact ⟨D.l1z,D.l1TO,D.l1i1,D.l1i2⟩
  have U6:l2∉[z,TO,i1,i2]:=by
   simp only [List.mem_cons,List.not_mem_nil,or_false,not_or]; exact ⟨D.l2z,D.l2TO,D.l2i1,D.l2i2⟩
  show wpAny _ A.in1 (updateSeq S (·.push (Value.ref h.objs.size)) >>= _) _ _ _
  refine wpAny_bind ?_
  refine wpAny_updateSeq JV rfl (wpAny_pure ⟨plainId_quiet PySem.F.plain_extend_loop _,ih (i + 1) _ tk _ (acc.push (Value.ref h.objs.size)) (as ++ [h.objs.size]) (by omega) EE (NM.keep up zK)
   (mf.at fun o e=>up l1 o JU (CY l1 o U7 e)) (jv.at fun o e=>up l2 o tF (CY l2 o U6 e))
   (fun b o h1 h2 e=>up b o h1 (CY b o h2 (zB b o h1 h2 e))) (Heap.get?_update_self _ JV rfl) (by rw [Array.toList_push,bI,List.map_append]; rfl) (by rw [List.length_append,Hz]; rfl) ⟨?_,?_,?_⟩ ?_ eG Oo⟩) (by rw [RA]; omega) (by show (acc.push (Value.ref h.objs.size)).size≤sizeLine + 1; rw [Array.size_push,RA]; omega)
  ·refine List.pairwise_append.mpr ⟨hG.rise,List.pairwise_singleton _ _,fun a ha b hb=>?_⟩
   rw [List.mem_singleton.mp hb]
   obtain ⟨j,hj⟩:=List.mem_iff_getElem?.mp ha
   obtain ⟨_,_,_,_,e⟩:=hG.pairs j a hj
   exact Heap.lt_size e
  ·intro a ha
   rcases List.mem_append.mp ha with ha | ha
   ·exact hG.above a ha
   ·rw [List.mem_singleton.mp ha]; exact hsz
  ·intro j b hj
   rcases Nat.lt_trichotomy j as.length with h1 | h1 | h1
   ·rw [List.getElem?_append_left h1] at hj
    obtain ⟨x',y',e1,e2,e3⟩:=hG.pairs j b hj
    have hb:=hG.above b (List.mem_of_getElem? hj)
    exact ⟨x',y',e1,e2,up b _ (Nat.ne_of_gt (Nat.lt_of_lt_of_le Oo hb)) (CY b _ (fun hm=>absurd (eG b hm) (Nat.not_lt.mpr hb)) e3)⟩
   ·subst h1
    have hb:h.objs.size = b:=by simpa using hj
    subst hb
    exact ⟨xs[i],ys[i],by rw [Hz]; simp [EE],by rw [Hz]; simp [CW],up _ _ (Nat.ne_of_gt HB) ht⟩
   ·have Hc:(as ++ [h.objs.size])[j]? = none:=List.getElem?_eq_none (by rw [List.length_append,List.length_singleton]; omega)
    rw [Hc] at hj; cases hj
  ·have e:(h'.update S (Obj.mapSeq (·.push (Value.ref h.objs.size)))).get? h.objs.size = _:=up _ _ (Nat.ne_of_gt HB) ht
   exact Nat.le_trans hsz (Nat.le_of_lt (Heap.lt_size e))
end
namespace F
theorem tL:typeLookup (.type "zip") "__len__" = pure none:=by rw [typeLookup_type,builtinLookup_eq_fast]; kernel_rfl
theorem qR:typeLookup (.type "zip") "__length_hint__" = pure none:=by rw [typeLookup_type,builtinLookup_eq_fast]; kernel_rfl
end F
section
variable {prog:Program} {w:World} {A:Around} {E:Value→Shared→Prop} {s:Shared} {xs ys:Array Value}
theorem wA {R:Result→Shared→Prop} {S z TI TO i1 i2 l1 l2:Addr} (hh:A.handled = none) (D:ZipApart z TI TO i1 i2 l1 l2) (zK:S∉[z,TI,TO,i1,i2]) (JU:l1≠S) (tF:l2≠S) (nv:xs.size = ys.size) (hn:xs.size≤sizeLine) (res:Value) (c₀ : Nat)
  (hz:IsZip s.heap z TI TO .none) (xp:∃ a b,IsPair s.heap TO a b) (tE:IsPair s.heap TI (.ref i1) (.ref i2)) (h1:s.heap.IsListIter i1 l1 0) (h2:s.heap.IsListIter i2 l2 0) (mf:s.heap.IsList l1 xs) (jv:s.heap.IsList l2 ys)
  (hS:s.heap.get? S = some { cls:=.type "list",data:=.seq #[] c₀ })
  (hR:∀ h' tk acc c as,(∀ b o,b≠S→b∉[z,TO,i1,i2]→s.heap.get? b = some o→h'.get? b = some o)→h'.get? S = some { cls:=.type "list",dict:=none,data:=.seq acc c,slots:=#[] }→as.length = xs.size→Ci xs ys s.heap.objs.size h' as→
   acc.toList = as.map Value.ref→R (.ok (.ret res)) { s with heap:=h',toks:=tk }) :
  wpAny (model prog w) A.in1 (Builtin.List.listExtendWith (.ref S) (.ref z) res)
   (fun fin s'=>match fin with | .done f=>R (.ok f) s' | .again c'=>c'.quiet = true∧codeAny (model prog w) A c' R s') (fun e s'=>R (.error e) s') s:=by
 have HC:=zK
 simp only [List.mem_cons,List.not_mem_nil,or_false,not_or] at HC
 obtain ⟨n1,n2,n3,n4,n5⟩:=HC
 have hT:s.TypeIs (.ref z) "zip":=⟨_,hz,rfl⟩
 unfold Builtin.List.listExtendWith
 refine wpAny_bind (wpAny_typeOf hT ?_)
 have q1:Builtin.List.listSameRef (.ref S) (.ref z) = false:=by simp [Builtin.List.listSameRef,n1]
 have q2:(Value.type "zip" == Value.type "list") = false:=by decide
 have q3:(Value.type "zip" == Value.type "tuple") = false:=by decide
 simp only [q1,q2,q3,Bool.or_false,Bool.false_eq_true,if_false]
 refine wpAny_bind (wpAny_pyIter_zip hz ?_)
 refine wpAny_bind (wpAny_holding ?_)
 unfold Builtin.List.listLengthHint
 refine wpAny_bind (wpAny_specialOf hT F.tL ?_)
 show wpAny _ A.in1 (specialOf (Value.ref z) (Str.ofString "__length_hint__") >>= _) _ _ _
 refine wpAny_bind (wpAny_specialOf hT F.qR ?_)
 refine wpAny_pure ?_
 show wpAny _ A.in1 (rule "list.extend.makes-room" >>= fun _=>Builtin.List.listTouch (.ref S) >>= fun _=>
  again (.builtin "list.extend.loop" ⟨[.ref S,.ref z,res],[]⟩)) _ _ _
 refine wpAny_bind (wpAny_rule ?_)
 refine wpAny_bind ?_
 show wpAny _ A.in1 (updateSeq S (·.push .none) >>= fun _=>updateSeq S (·.pop)) _ _ _
 refine wpAny_bind (wpAny_updateSeq hS rfl ?_)
 have hS₂:=Heap.get?_update_self (Obj.mapSeq (·.push Value.none)) hS rfl
 refine wpAny_updateSeq (hz:=by seq_fits) hS₂ rfl ?_
 have hS₃:=Heap.get?_update_self (Obj.mapSeq (·.pop)) hS₂ rfl
 have hk:∀ b o,b≠S→s.heap.get? b = some o→((s.heap.update S (Obj.mapSeq (·.push Value.none))).update S (Obj.mapSeq (·.pop))).get? b = some o:=fun b o hb e=>(Heap.get?_update_other _ _ (Ne.symm hb)).trans ((Heap.get?_update_other _ _ (Ne.symm hb)).trans e)
 obtain ⟨a,b,xp⟩:=xp
 refine wpAny_pure ⟨plainId_quiet PySem.F.plain_extend_loop _,AL (s:=s) (h₁:=s.heap) (xs:=xs) (ys:=ys) hh D zK JU tF nv hn res hR xs.size 0 _ _ _ #[] [] (Nat.sub_zero _) (Nat.zero_le _)
  ⟨.inl ⟨rfl,hk _ _ (Ne.symm n1) hz,a,b,hk _ _ (Ne.symm n3) xp⟩,hk _ _ (Ne.symm n2) tE,h1.at fun o e=>hk _ _ (Ne.symm n4) e,h2.at fun o e=>hk _ _ (Ne.symm n5) e⟩ (mf.at fun o e=>hk _ _ JU e) (jv.at fun o e=>hk _ _ tF e)
  (fun b o hb _ e=>hk b o hb e) hS₃ rfl rfl ⟨List.Pairwise.nil,(fun _ ha=>nomatch ha),(fun j a hj=>by simp at hj)⟩ (by simp [Heap.size_update]) (fun c hc=>?_) (Heap.lt_size hS)⟩
 simp only [List.mem_cons,List.not_mem_nil,or_false] at hc
 rcases hc with rfl | rfl | rfl | rfl
 ·exact Heap.lt_size hz
 ·exact Heap.lt_size xp
 ·obtain ⟨_,e,_⟩:=h1; exact Heap.lt_size e
 ·obtain ⟨_,e,_⟩:=h2; exact Heap.lt_size e
theorem nE {Q:Value→Shared→Prop} {z TI TO i1 i2 l1 l2:Addr} (hh:A.handled = none) (D:ZipApart z TI TO i1 i2 l1 l2) (nv:xs.size = ys.size) (hn:xs.size≤sizeLine)
  (hz:IsZip s.heap z TI TO .none) (xp:∃ a b,IsPair s.heap TO a b) (tE:IsPair s.heap TI (.ref i1) (.ref i2)) (h1:s.heap.IsListIter i1 l1 0) (h2:s.heap.IsListIter i2 l2 0) (mf:s.heap.IsList l1 xs) (jv:s.heap.IsList l2 ys)
  (hQ:∀ h' tk acc c as,(∀ b o,b∉[z,TO,i1,i2]→s.heap.get? b = some o→h'.get? b = some o)→h'.get? s.heap.objs.size = some { cls:=.type "list",dict:=none,data:=.seq acc c,slots:=#[] }→as.length = xs.size→Ci xs ys (s.heap.objs.size + 1) h' as→
   acc.toList = as.map Value.ref→Q (.ref s.heap.objs.size) { s with heap:=h',toks:=tk }) :
  wpAny (model prog w) A (call (.type "list") [.ref z]) Q E s:=by
 refine callType_codes (Q₁:=fun obj s₁=>obj = .ref s.heap.objs.size∧s₁ = { s with heap:=s.heap.push { cls:=.type "list",data:=.seq #[] } }) PySem.F.called_list (PySem.F.typeCall_list_1 _) PySem.F.entry_list_init
  (code_list_new _ ⟨rfl,rfl⟩) fun obj s₁ h₁=>?_
 obtain ⟨rfl,rfl⟩:=h₁
 obtain ⟨a,b,xp⟩:=xp
 have hS:(s.heap.push { cls:=.type "list",data:=.seq #[] }).get? s.heap.objs.size = some { cls:=.type "list",data:=.seq #[] }:=Heap.get?_push_size _ rfl
 have lt:∀ c∈[z,TI,TO,i1,i2],c < s.heap.objs.size:=fun c hc=>by
  simp only [List.mem_cons,List.not_mem_nil,or_false] at hc
  rcases hc with rfl | rfl | rfl | rfl | rfl
  ·exact Heap.lt_size hz
  ·exact Heap.lt_size tE
  ·exact Heap.lt_size xp
  ·obtain ⟨_,e,_⟩:=h1; exact Heap.lt_size e
  ·obtain ⟨_,e,_⟩:=h2; exact Heap.lt_size e
 have VA:l1 < s.heap.objs.size:=by obtain ⟨_,e,_⟩:=mf; exact Heap.lt_size e
 have Vz:l2 < s.heap.objs.size:=by obtain ⟨_,e,_⟩:=jv; exact Heap.lt_size e
 have zK:s.heap.objs.size∉[z,TI,TO,i1,i2]:=fun hm=>absurd (lt _ hm) (Nat.lt_irrefl _)
 refine ⟨⟨_,hS,rfl⟩,PySem.F.args_list_init_2 _ _,?_⟩
 show wpAny _ _ (do let old ← Builtin.List.listItems (.ref s.heap.objs.size); Builtin.List.listUpdate (.ref s.heap.objs.size) (fun _=>#[]); letGo old.toList.reverse; Builtin.List.listExtendWith (.ref s.heap.objs.size) (.ref z) .none) _ _ _
 refine wpAny_bind ?_
 unfold Builtin.List.listItems
 refine wpAny_bind (wpAny_seqItems hS rfl (wpAny_pure ?_))
 show wpAny _ _ (updateSeq s.heap.objs.size (fun _=>#[]) >>= fun _=>letGo (#[]:Array Value).toList.reverse >>= fun _=>Builtin.List.listExtendWith (.ref s.heap.objs.size) (.ref z) .none) _ _ _
 refine wpAny_bind (wpAny_updateSeq hS rfl ?_)
 have hS₂:=Heap.get?_update_self (Obj.mapSeq (fun _=>(#[]:Array Value))) hS rfl
 generalize hg:(s.heap.push { cls:=.type "list",data:=.seq #[] }).update s.heap.objs.size (Obj.mapSeq (fun _=>(#[]:Array Value))) = hp at hS₂
 have hsz:hp.objs.size = s.heap.objs.size + 1:=by rw [← hg]; simp [Heap.size_update,Heap.size_push]
 have CM:∀ b o,s.heap.get? b = some o→hp.get? b = some o:=fun b o e=>by
  rw [← hg]
  exact (Heap.get?_update_other _ _ (Nat.ne_of_gt (Heap.lt_size e))).trans (Heap.get?_push_of_some _ e)
 refine wpAny_bind (wpAny_letGo ?_)
 refine wA (A:=A.in1) (s:={ s with heap:=hp }) (xs:=xs) (ys:=ys) hh D zK (Nat.ne_of_lt VA) (Nat.ne_of_lt Vz) nv hn .none _ (CM _ _ hz) ⟨a,b,CM _ _ xp⟩ (CM _ _ tE) (h1.at fun o e=>CM _ o e) (h2.at fun o e=>CM _ o e) (mf.at fun o e=>CM _ o e) (jv.at fun o e=>CM _ o e) hS₂ fun h' tk acc c as hk JV hl hG bI=>?_
 refine ⟨rfl,hQ h' tk acc c as (fun b o hb e=>hk b o (Nat.ne_of_lt (Heap.lt_size e)) hb (CM b o e)) JV hl ?_ bI⟩
 rw [← hsz]; exact hG
end
end PySem
end
section
namespace L2
open PySem PySem.Spec PySem.W PySem.Calls PyProof.Rows
section
variable {X:Cx} {pins:List (Addr×Obj)} {σ : St} {H H':Hp} {s:Shared} {h':Heap}
theorem Inv.Nh {t':Nat} {ch:List Addr} (I:Inv X pins σ H s) (k:∀ b u,b∉ch→s.heap.get? b = some u→h'.get? b = some u) (hf:∀ b∈ch,mT X pins H b) (hs:∀ b u,H b = some u→H' b = some u)
  (new:∀ b u,H' b = some u→H b = none→s.heap.objs.size≤b∧bP X.prog X.w H' h' b u):Inv X pins σ H' { s with heap:=h',toks:=t' }:=by
 have vJ:∀ b u,H b = some u→b∉ch:=fun b u e z=>by rw [(hf b z).1] at e; cases e
 refine I.step (g':=s.gens) (d':=s.drawn) (ch:=ch) (fun b hb=>?_) (fun b o _ _ hc e _=>k b o hc e) (fun b o _ _ hc e _=>⟨o.slots,k b o hc e⟩) (fun b u _ e n=>?_) (fun b o hc e=>⟨o,k b o hc e⟩)
  (fun b xs e=>hs _ _ e) (fun b u v e=>hs _ _ e) (fun b ps e=>⟨#[],by rw [hs _ _ e]; simp⟩) (fun m hm=>?_) (fun b u e=>?_) I.bare
 ·obtain ⟨f0,f1,f2,f3,f4,f5⟩:=hf b hb
  exact ⟨f3,f1,f4,f5⟩
 ·cases q:H' b with
  | none=>rfl
  | some v=>exact absurd (Heap.lt_size e) (Nat.not_lt.mpr (new b v q n).1)
 ·obtain ⟨o,es,ep,ho,r⟩:=hm
  exact ⟨o,es,ep,k _ o (fun z=>(hf _ z).2.1 rfl) ho,r⟩
 ·cases q:H b with
  | none=>exact (new b u e q).2
  | some v=>
   have e2:=hs b v q
   rw [e] at e2
   cases e2
   refine (I.bS b u q).iu (fun c v hc q2=>k c v ?_ q2) (fun c q2=>hs _ _ q2) fun c xs q2=>hs _ _ q2
   rcases hc with z | z
   ·rw [z]; exact vJ b u q
   ·exact vJ c _ z
end
def lW:List Addr→List (V×V)→Hp→Hp
 | a :: as,p :: ps,H=>upd (lW as ps H) a (.tup [p.1,p.2])
 | _,_,H=>H
theorem lV:∀ {as:List Addr} {ps:List (V×V)} {H:Hp} {b:Addr},b∉as→lW as ps H b = H b
 | [],_,_,_,_=>by simp [lW]
 | _ :: _,[],_,_,_=>by simp [lW]
 | a :: as,p :: ps,H,b,h=>by
  have nb:b≠a:=fun e=>h (by rw [e]; exact List.mem_cons_self)
  rw [lW,ax nb,lV fun e=>h (List.mem_cons_of_mem _ e)]
theorem vO:∀ {as:List Addr} {ps:List (V×V)} {H:Hp} {j:Nat} {a:Addr} {p:V×V},as.Nodup→as[j]? = some a→ps[j]? = some p→lW as ps H a = some (.tup [p.1,p.2])
 | [],_,_,_,_,_,_,h,_=>by simp at h
 | _ :: _,[],_,_,_,_,_,_,h=>by simp at h
 | a :: as,p :: ps,H,0,b,q,_,h1,h2=>by
  have e1:a = b:=by simpa using h1
  have e2:p = q:=by simpa using h2
  subst e1 e2
  rw [lW,ae]
 | a :: as,p :: ps,H,j + 1,b,q,hn,h1,h2=>by
  have AA:as[j]? = some b:=by simpa using h1
  have vW:ps[j]? = some q:=by simpa using h2
  have JR:=List.nodup_cons.mp hn
  have nb:b≠a:=fun e=>JR.1 (by rw [← e]; exact List.mem_of_getElem? AA)
  rw [lW,ax nb,vO JR.2 AA vW]
theorem nM:∀ (as:List Addr),Vals (as.map V.ref) (as.map Value.ref)
 | []=>.nil
 | _ :: as=>.cons rfl (nM as)
def qX (K:Frag) (ta:TA):TE:=fun σ H Q=>ta σ H fun vs H1=>∃ a b xs ys,vs = [.ref a,.ref b]∧aD K H1 a xs∧aD K H1 b ys∧xs.length = ys.length∧
 ∀ (l:Addr) (as:List Addr) (H2:Hp),ah H1 H2→H1 l = none→H2 l = some (.lst (as.map V.ref))→as.length = xs.length→
  (∀ (j:Nat) (a:Addr),as[j]? = some a→H1 a = none∧a≠l∧∃ x y,xs[j]? = some x∧ys[j]? = some y∧H2 a = some (.tup [x,y]))→Q (.ref l) H2
theorem mM:bootBuiltins "list" = some (.type "list"):=by decide +kernel
theorem tZ {X:Cx} {l m:Expr} {ta:TA} {p p2 pos wO:Pos} (hc:X.calm = true) (hm:X.mg "zip" = none) (vU:X.mg "list" = none) (ha:PA X [l,m] ta) (hg:Gl X "zip":=by rfl) (N9:Gl X "list":=by rfl)
  (he:starEach [l,m] X.env = (false,eval l X.env) :: starEach [m] X.env:=by rfl) (tD:(backTo pos (starEach [m] X.env)).any (·.1) = false:=by rfl)
  (BR:starEach [.Call (.Name "zip" p) [l,m] [] pos] X.env = (false,eval (.Call (.Name "zip" p) [l,m] [] pos) X.env) :: starEach [] X.env:=by rfl) :
  PE X (.Call (.Name "list" p2) [.Call (.Name "zip" p) [l,m] [] pos] [] wO) (qX X.K ta):=by
 intro pins s σ H Q I h
 refine Call_ (gk I N9 vU mM (PyProof.Rows.callWith_type1 ?_ BR rfl))
 rw [BR]
 show wpAny _ _ (spliced ((false,eval (.Call (.Name "zip" p) [l,m] [] pos) X.env) :: backTo wO (starEach [] X.env))) _ _ s
 refine Calls.spliced_cons ?_
 refine Call_ (gk I hg hm oI (PyProof.Rows.callWith_type1 (dc (ha pos pins s σ H _ I h) fun us s1 ⟨vs,H1,I1,r1,q1⟩=>?_) he tD))
 obtain ⟨a,b,xs,ys,rfl,vT,BM,nv,q⟩:=q1
 obtain ⟨u1,u2,rfl,Gg,Gf⟩:=vals2 r1
 cases Gg
 cases Gf
 obtain ⟨ia,ra,pa,za⟩:=I1.list vT
 obtain ⟨ib,rb,pb,zb⟩:=I1.list BM
 have la:=ra.length
 have lb:=rb.length
 have Bx:a < s1.heap.objs.size:=by obtain ⟨_,e,_⟩:=pa.isList; exact Heap.lt_size e
 have Bw:b < s1.heap.objs.size:=by obtain ⟨_,e,_⟩:=pb.isList; exact Heap.lt_size e
 have ne:∀ {j k:Nat},j≠k→s1.heap.objs.size + j≠s1.heap.objs.size + k:=fun h z=>h (Nat.add_left_cancel z)
 have nl:∀ {c:Addr} (k:Nat),c < s1.heap.objs.size→c≠s1.heap.objs.size + k:=fun k l=>Nat.ne_of_lt (Nat.lt_of_lt_of_le l (Nat.le_add_right _ _))
 have D:ZipApart (s1.heap.objs.size + 4) (s1.heap.objs.size + 2) (s1.heap.objs.size + 3) s1.heap.objs.size (s1.heap.objs.size + 1) a b:=
  ⟨ne (by decide),ne (by decide),ne (j:=0) (by decide),ne (by decide),ne (by decide),ne (k:=0) (by decide),ne (by decide),ne (k:=0) (by decide),ne (by decide),ne (j:=0) (by decide),nl _ Bx,nl _ Bx,nl 0 Bx,nl _ Bx,nl _ Bw,nl _ Bw,nl 0 Bw,nl _ Bw⟩
 refine call_zip_2 pa.isList pb.isList fun h' hz tE xp h1 h2 hsz hk=>?_
 refine Calls.spliced_nil ?_
 have I2:Inv X pins σ H1 { s1 with heap:=h' }:=I1.kept (t':=s1.toks) fun c o e=>hk c o e
 obtain ⟨V0,o7,UD,_⟩:=I2.list vT
 obtain ⟨VZ,QU,UC,_⟩:=I2.list BM
 have Zp:=o7.length
 have Zo:=QU.length
 refine nE (s:={ s1 with heap:=h' }) (xs:=V0.toArray) (ys:=VZ.toArray) (I2.ok.hd hc) D (by simp only [List.size_toArray]; omega) (by simp only [List.size_toArray]; omega) hz ⟨_,_,xp⟩ tE h1 h2 UD.isList UC.isList fun h3 tk acc c as WB hS hl hG bI=>?_
 have JS:as.length = xs.length:=by rw [hl,List.size_toArray]; omega
 have Wq:as.Nodup:=hG.rise.imp (fun e=>Nat.ne_of_lt e)
 have FA:∀ x,h'.objs.size≤x→H1 x = none:=fun x hx=>I2.bS.fresh hx
 have Hn:∀ x∈as,h'.objs.size + 1≤x:=hG.above
 have RS:h'.objs.size∉as:=fun hm=>absurd (Hn _ hm) (Nat.not_le.mpr (Nat.lt_succ_self _))
 have G3:∀ x u,H1 x = some u→x∉as∧x≠h'.objs.size:=fun x u e=>by
  constructor
  ·intro hm
   have e2:=FA x (Nat.le_of_succ_le (Hn x hm))
   rw [e] at e2
   cases e2
  ·intro hm
   have e2:=FA x (Nat.le_of_eq hm.symm)
   rw [e] at e2
   cases e2
 have RP:∀ (j:Nat) (x:Addr),as[j]? = some x→∃ v w v' w',xs[j]? = some v∧ys[j]? = some w∧RelV v v'∧RelV w w'∧IsPair h3 x v' w':=fun j x hj=>by
  obtain ⟨v',w',e1,e2,e3⟩:=hG.pairs j x hj
  have RJ:j < xs.length:=by have:=(List.getElem?_eq_some_iff.mp hj).1; omega
  obtain ⟨u1,f1,g1⟩:=o7.get (show xs[j]? = some xs[j] by simp [RJ])
  obtain ⟨u2,f2,g2⟩:=QU.get (show ys[j]? = some (ys[j]'(by omega)) by simp [show j < ys.length by omega])
  rw [List.getElem?_toArray] at e1 e2
  rw [e1] at f1
  rw [e2] at f2
  cases f1
  cases f2
  exact ⟨_,_,v',w',by simp [RJ],by simp [show j < ys.length by omega],g1,g2,e3⟩
 have RU:∀ (j:Nat) (x:Addr) (v w:V),as[j]? = some x→xs[j]? = some v→ys[j]? = some w→upd (lW as (xs.zip ys) H1) h'.objs.size (.lst (as.map V.ref)) x = some (.tup [v,w]):=fun j x v w hj hv hw=>by
  have nx:x≠h'.objs.size:=fun e=>RS (by rw [← e]; exact List.mem_of_getElem? hj)
  rw [ax nx]
  exact vO (p:=(v,w)) Wq hj (by rw [List.getElem?_zip_eq_some]; exact ⟨hv,hw⟩)
 have tF:∀ x u,H1 x = some u→upd (lW as (xs.zip ys) H1) h'.objs.size (.lst (as.map V.ref)) x = some u:=fun x u e=>by
  obtain ⟨e1,e2⟩:=G3 x u e
  rw [ax e2,lV e1]; exact e
 have I3:Inv X pins σ (upd (lW as (xs.zip ys) H1) h'.objs.size (.lst (as.map V.ref))) { s1 with heap:=h3,toks:=tk }:=by
  refine Inv.Nh (s:={ s1 with heap:=h' }) (ch:=[s1.heap.objs.size + 4,s1.heap.objs.size + 3,s1.heap.objs.size,s1.heap.objs.size + 1]) I2 (fun b u hb e=>WB b u hb e) (fun c hc=>?_) tF fun x u e n=>?_
  ·have le:s1.heap.objs.size≤c:=by
    simp only [List.mem_cons,List.not_mem_nil,or_false] at hc
    rcases hc with rfl | rfl | rfl | rfl
    ·exact Nat.le_add_right _ _
    ·exact Nat.le_add_right _ _
    ·exact Nat.le_refl _
    ·exact Nat.le_add_right _ _
   exact I1.xq le (I1.bS.fresh le)
  ·by_cases hx:x = h'.objs.size
   ·subst hx
    rw [ae] at e
    cases e
    refine ⟨Nat.le_refl _,show bP X.prog X.w _ h3 _ (.lst (as.map V.ref)) from ⟨by rw [List.length_map,JS]; exact za,as.map Value.ref,c,nM as,?_⟩⟩
    rw [← bI,Array.toArray_toList]
    exact hS
   ·by_cases hm:x∈as
    ·obtain ⟨j,hj⟩:=List.mem_iff_getElem?.mp hm
     obtain ⟨v,w,v',w',e1,e2,g1,g2,hP⟩:=RP j x hj
     rw [RU j x v w hj e1 e2] at e
     cases e
     exact ⟨Nat.le_of_succ_le (Hn x hm),by simp only [List.length_cons,List.length_nil]; rw [sizeLine_eq]; decide,[v',w'],.cons g1 (.cons g2 .nil),⟨_,hP,rfl,_,rfl⟩⟩
    ·rw [ax hx,lV hm,n] at e
     cases e
 refine ⟨.ref h'.objs.size,_,I3,rfl,q _ as _ (fun x u e=>tF x u e) (FA _ (Nat.le_refl _)) ae JS fun j x hj=>?_⟩
 obtain ⟨v,w,v',w',e1,e2,g1,g2,hP⟩:=RP j x hj
 have hm:=List.mem_of_getElem? hj
 exact ⟨FA x (Nat.le_of_succ_le (Hn x hm)),fun e=>RS (e▸hm),v,w,e1,e2,RU j x v w hj e1 e2⟩
end L2
end
section
namespace Gm
open PySem L2
theorem Lp.perm {L R:List (List Int)} {ks xc:List aj} (p:Lp L R ks) (h:xc.Perm ks):Lp L R xc:=
 ⟨p.good,p.least,h.nodup_iff.mpr p.nd,h.trans p.pm,by rw [h.length_eq]; exact p.two⟩
theorem PR.mk {H:Hp}:∀ {ps:List Addr} {T:List (Int×Int)},ps.length = T.length→(∀ (j:Nat) (a:Addr) (d:Int×Int),ps[j]? = some a→T[j]? = some d→H a = some (.tup [.int d.1,.int d.2]))→PR H ps T
 | [],[],_,_=>.nil
 | [],_ :: _,h,_=>by simp at h
 | _ :: _,[],h,_=>by simp at h
 | a :: ps,d :: T,h,f=>.cons (f 0 a d rfl rfl) (PR.mk (by simpa using h) fun j b e h1 h2=>f (j + 1) b e (by simpa using h1) (by simpa using h2))
theorem Ba {r:List Int} {j:Nat} (h:j < r.length):(bM r 1)[j]? = some (cy r (j + 1)):=by
 have hl:(bM r 1).length = r.length:=bF (by omega)
 have e1:cy (bM r 1) j = (bM r 1)[j]'(by omega):=dk (by omega)
 by_cases h1:1 < r.length
 ·rw [dW h1] at e1
  rw [e1]
  exact List.getElem?_eq_getElem _
 ·have e2:r.length = 1:=by omega
  have e3:j = 0:=by omega
  subst e3
  match r,e2 with
  | [x],_=>unfold bM cy; simp
theorem Ad {r:List Int} {j:Nat} (h:j < r.length):r[j]? = some (cy r j):=by
 rw [dk h]; exact List.getElem?_eq_getElem _
section
variable {K:PySem.W.Frag} {σ : St} {H:Hp} {Q:VK}
theorem tV {a:Addr} {i n:Nat} {m:Int} {r:List Int} (h1 : σ[i]? = some (some (.ref a))) (hs:aD K H a (r.map V.int)) (hn:n≤r.length) (q:∀ p,H p = none→Q (.ref p) (upd H p (.lst ((r.drop n).map V.int)))) (hm:m = (n:Int):=by rfl) :
  Ff (wM K) (oS i) (qW (tC (.int m))) iW σ H Q:=by
 subst hm
 exact ⟨_,h1,⟨_,rfl,⟨a,_,rfl,hs,fun p hp=>by rw [mJ hn]; exact q p hp⟩⟩⟩
theorem yF {a:Addr} {i n:Nat} {m:Int} {r:List Int} (h1 : σ[i]? = some (some (.ref a))) (hs:aD K H a (r.map V.int)) (hn:n≤r.length) (q:∀ p,H p = none→Q (.ref p) (upd H p (.lst ((r.take n).map V.int)))) (hm:m = (n:Int):=by rfl) :
  Ff (wM K) (oS i) iW (qW (tC (.int m))) σ H Q:=by
 subst hm
 exact ⟨_,h1,⟨_,rfl,⟨a,_,rfl,hs,fun p hp=>by rw [mH hn]; exact q p hp⟩⟩⟩
theorem wK {ta:TA} (h:ta σ H fun vs H1=>∃ a b xs ys,vs = [.ref a,.ref b]∧aD K H1 a xs∧aD K H1 b ys∧xs.length = ys.length∧
  ∀ (l:Addr) (as:List Addr) (H2:Hp),ah H1 H2→H1 l = none→H2 l = some (.lst (as.map V.ref))→as.length = xs.length→
   (∀ (j:Nat) (a:Addr),as[j]? = some a→H1 a = none∧a≠l∧∃ x y,xs[j]? = some x∧ys[j]? = some y∧H2 a = some (.tup [x,y]))→Q (.ref l) H2):qX K ta σ H Q:=h
end
end Gm
end
section
namespace L2
open PySem PySem.Spec PySem.W PySem.Calls PyProof.Rows
section
variable {X:Cx}
def Js (K:Frag):R2:=fun x y H Q=>∃ (p l:Addr) (d:Int×Int) (ps:List Addr) (T:List (Int×Int)),x = .ref p∧y = .ref l∧H p = some (.tup [.int d.1,.int d.2])∧H l = some (.lst (ps.map V.ref))∧Gm.PR H ps T∧Q (.bl (!decide (d∈T))) H
end
section
variable {K:Frag} {σ : St} {H:Hp} {Q:VK}
theorem Ek {n:Nat} {k:Int} (h0:0≤k) (h1:k < n):Aq n k = some k.toNat:=by
 unfold Aq
 rw [if_pos h0,if_pos h1]
end
end L2
namespace Gm
open PySem L2
theorem aQ.Dw {H:Hp} {t b:Addr} {bs:List Addr} {R:List (List Int)} {l:List Int} {k:Nat} (g:aQ H t bs R) (nt:t∉bs) (nb:b≠t) (hb:H b = some (.lst (l.map V.int))):aQ (upd H t (.lst ((bs.map V.ref).set k (.ref b)))) t (bs.set k b) (R.set k l):=by
 refine ⟨by rw [← List.map_set]; exact ae,by rw [List.length_set,List.length_set,g.len],fun i a m h1 h2=>?_⟩
 have gD:∀ c∈bs,c≠t:=fun c hc e=>nt (e▸hc)
 by_cases e:k = i
 ·subst e
  by_cases hk:k < bs.length
  ·rw [List.getElem?_set_self (by simpa using hk)] at h1
   rw [List.getElem?_set_self (by rw [← g.len]; simpa using hk)] at h2
   cases h1
   cases h2
   rw [ax nb]
   exact hb
  ·rw [List.getElem?_eq_none (by rw [List.length_set]; omega)] at h1
   cases h1
 ·rw [List.getElem?_set_ne e] at h1 h2
  rw [ax (gD a (List.mem_of_getElem? h1))]
  exact g.row i a m h1 h2
end Gm
end
section
namespace Gm
open PySem L2
end Gm
end
section
namespace L2
open PySem PySem.Spec PySem.W PySem.Calls PyProof.Rows
section
variable {X:Cx}
def LR (K:Frag):List V→Hp→VK→Prop:=fun vs H Q=>∃ (a:Addr) (bs:List Bool),vs = [.ref a]∧aD K H a (bs.map V.bl)∧Q (.bl (bs.all id)) H
theorem oJ:∀ {bs:List Bool} {aL:List Value},Vals (bs.map V.bl) aL→aL = bs.map Value.bool
 | [],_,h=>by cases h; rfl
 | b :: bs,_,h=>by
  cases h with
  | @cons _ u _ us ru rv=>
   cases ru
   rw [oJ rv]
   rfl
theorem all_range (bs:List Bool):((List.range bs.length).all fun i=>bs.getD i false) = bs.all id:=by
 induction bs with
 | nil=>rfl
 | cons b bs ih=>
  rw [List.length_cons,List.range_succ_eq_map,List.all_cons,List.all_map,List.all_cons]
  congr 1
theorem Aa (hc:X.calm = true):fH X (.builtin "all") (LR X.K):=by
 intro pins s σ H xs us Q I r h
 obtain ⟨a,bs,rfl,ha,q⟩:=h
 obtain ⟨u,rfl,ru⟩:=vals1 r
 cases ru
 obtain ⟨aL,rv,pl,hz⟩:=I.list ha
 obtain rfl:=oJ rv
 have ll:a < s.heap.objs.size:=by obtain ⟨_,e,_⟩:=pl.isList; exact Heap.lt_size e
 refine call_all_walk (wpAny_pyIter_list pl.isList ?_)
 refine ⟨s.heap.objs.size,_,_,_,_,_,fun i=>bs.getD i false,rfl,Walks.list (A:=X.A.in1) (I.ok.hd hc) s.heap.objs.size a (Nat.ne_of_lt ll) (bs.map Value.bool).toArray,⟨⟨_,Heap.get?_push_size _ rfl,rfl,rfl⟩,pl.isList.at fun o e=>Heap.get?_push_of_some _ e⟩,fun i v s' Q' E' hv hq=>?_,fun h' tk hk=>?_⟩
 ·have BK:(bs.map Value.bool)[i]? = some v:=by simpa using hv
  rw [List.getElem?_map] at BK
  cases e:bs[i]? with
  | none=>rw [e] at BK; cases BK
  | some b=>
   rw [e] at BK
   cases BK
   have:bs.getD i false = b:=by rw [List.getD_eq_getElem?_getD,e]; rfl
   have Ez:Q' b s':=by rw [← this]; exact hq
   exact wpAny_truthy_bool Ez
 ·have ez:(bs.map Value.bool).toArray.size = bs.length:=by simp
  rw [ez,all_range]
  exact ⟨.bl (bs.all id),H,I.kept (t':=tk) fun b o e=>hk b o (fun z=>by
   have:b = s.heap.objs.size:=by simpa using z
   exact absurd (Heap.lt_size e) (by rw [this]; exact Nat.lt_irrefl _)) (Heap.get?_push_of_some _ e),rfl,q⟩
end
section
variable {K:Frag} {σ : St} {H:Hp} {Q:VK}
theorem zZ {R:Hp→Prop} {acc a b:Addr} {xs ys:List V} {n:Nat} {g:TG} {tt:TT} {te:TE} (hn:n = min xs.length ys.length) (Pv:Nat→St→List V→Hp→Prop) (h0:Pv 0 σ [] H) (hl:∀ i σ zs H,i≤n→Pv i σ zs H→aD K H a xs∧aD K H b ys)
  (hs:∀ i x y p σ zs H,xs[i]? = some x→ys[i]? = some y→i < n→Pv i σ zs H→H p = none→g (.ref p) σ (upd H p (.tup [x,y])) fun σ2 H4=>tt σ2 H4 fun b H5=>if b = true then te σ2 H5 fun y H6=>H6 acc = some (.lst zs)∧zs.length < sizeLine∧∃ m',m' < n - i∧(m' = n - (i + 1)∧i + 1≤n∧Pv (i + 1) σ2 (zs ++ [y]) (upd H6 acc (.lst (zs ++ [y])))) else ∃ m',m' < n - i∧(m' = n - (i + 1)∧i + 1≤n∧Pv (i + 1) σ2 zs H5))
  (hd:∀ σ zs H,Pv n σ zs H→R H) :
  ∃ W:Nat→Nat→St→List V→Hp→Prop,(∃ m,W 0 m σ [] H)∧∀ i m σ' zs H2,W i m σ' zs H2→(((Dc K a b).stop i H2∧R H2)∨((Dc K a b).go i H2∧∀ x H3,(Dc K a b).xM i H2 x H3→g x σ' H3 fun σ2 H4=>tt σ2 H4 fun b H5=>
   if b = true then te σ2 H5 fun y H6=>H6 acc = some (.lst zs)∧zs.length < sizeLine∧∃ m',m' < m∧W (i + 1) m' σ2 (zs ++ [y]) (upd H6 acc (.lst (zs ++ [y]))) else ∃ m',m' < m∧W (i + 1) m' σ2 zs H5)):=by
 refine ⟨fun i m σ zs H=>m = n - i∧i≤n∧Pv i σ zs H,⟨n,by simp,Nat.zero_le _,h0⟩,?_⟩
 rintro i m σ zs H ⟨rfl,hi,p⟩
 obtain ⟨qa,qb⟩:=hl i σ zs H hi p
 by_cases eG:i < n
 ·have h1:i < xs.length:=by omega
  have h2:i < ys.length:=by omega
  refine .inr ⟨⟨xs,ys,xs[i],ys[i],qa,qb,by simp [h1],by simp [h2]⟩,fun x H' y=>?_⟩
  obtain ⟨r,u,v,hr,rfl,hu,hv,rfl⟩:=y
  exact hs i u v r σ zs H (hu xs qa) (hv ys qb) eG p hr
 ·have e:i = n:=by omega
  exact .inl ⟨⟨xs,ys,qa,qb,by omega⟩,hd σ zs H (e▸p)⟩
end
end L2
end
section
namespace PySem
namespace F
end F
end PySem
namespace L2
open PySem PySem.Spec PySem.W PySem.Calls PyProof.Rows
section
variable {X:Cx} {e st:Expr} {te QA:TE} {p2 pos:Pos}
def S8 (K:Frag) (te QA:TE):TE:=fun σ H Q=>te σ H fun x H1=>QA σ H1 fun y H2=>y = .int (-1)∧∃ a xs,x = .ref a∧aD K H2 a xs∧∀ p,H2 p = none→Q (.ref p) (upd H2 p (.lst xs.reverse))
end
section
variable {X:Cx} {l:Expr} {tl:TE} {p p2 pos wO:Pos}
def F3 (K:Frag) (tl:TE):TE:=fun σ H Q=>tl σ H fun x H1=>∃ a xs,x = .ref a∧aD K H1 a xs∧∀ p,H1 p = none→Q (.ref p) (upd H1 p (.lst xs.reverse))
end
end L2
end
section
namespace Gm
open PySem L2
def kN (ks:List (aj×Int)):List (List Key×V):=ks.map fun p=>(eR p.1,V.int p.2)
theorem Ej (ks:List (aj×Int)):(kN ks).length = ks.length:=by unfold kN; simp
theorem nO:∀ {ks:List (aj×Int)} {d:aj},d∉ks.map (·.1)→eE (kN ks) (eR d) = none
 | [],_,_=>rfl
 | p :: ks,d,h=>by
  unfold kN
  rw [List.map_cons,dI (fun y=>h (by rw [← lX y]; exact List.mem_cons_self))]
  exact nO (ks:=ks) fun z=>h (List.mem_cons_of_mem _ z)
theorem nN:∀ {ks:List (aj×Int)} {d:aj} {n:Int},(ks.map (·.1)).Nodup→(d,n)∈ks→eE (kN ks) (eR d) = some (.int n)
 | [],_,_,_,h=>by cases h
 | p :: ks,d,n,hn,h=>by
  unfold kN
  rw [List.map_cons]
  obtain ⟨h1,h2⟩:=List.nodup_cons.mp hn
  by_cases e:p.1 = d
  ·rw [eZ (congrArg eR e)]
   rcases List.mem_cons.mp h with z | z
   ·rw [← z]
   ·exact absurd (show p.1∈ks.map (·.1) by rw [e]; exact List.mem_map.mpr ⟨_,z,rfl⟩) h1
  ·rw [dI (fun y=>e (lX y))]
   rcases List.mem_cons.mp h with z | z
   ·exact absurd (by rw [← z]) e
   ·exact nN (ks:=ks) h2 z
theorem GC {ks:List (aj×Int)} {d:aj} {n:Int} (h:d∉ks.map (·.1)):putK (kN ks) (eR d) (.int n) = kN (ks ++ [(d,n)]):=by
 rw [i9 _ (nO h)]
 unfold kN
 rw [List.map_append]
 rfl
def lk (s:List Int→Nat) (R:List (List Int)):Nat→List (aj×Int)
 | 0=>[]
 | k + 1=>lk s R k ++ (sh (s (R.getD k [])) (R.getD k [])).map fun d=>(d,(k:Int))
theorem kO {s:List Int→Nat} {R:List (List Int)}:∀ {k:Nat},k≤R.length→(lk s R k).map (·.1) = (R.take k).flatMap fun r=>sh (s r) r
 | 0,_=>rfl
 | k + 1,h=>by
  have e:R.take (k + 1) = R.take k ++ [R.getD k []]:=by
   rw [List.take_succ,List.getD_eq_getElem?_getD,List.getElem?_eq_getElem (by omega)]
   rfl
  rw [lk,List.map_append,kO (by omega),List.map_map,e,List.flatMap_append,List.flatMap_singleton]
  congr 1
  exact List.map_id _
theorem zf {s:List Int→Nat} {R:List (List Int)}:∀ {k i:Nat} {r:List Int} {d:aj},i < k→R[i]? = some r→d∈sh (s r) r→(d,(i:Int))∈lk s R k
 | 0,_,_,_,h,_,_=>by omega
 | k + 1,i,r,d,h,hr,hd=>by
  rw [lk,List.mem_append]
  by_cases e:i = k
  ·subst e
   have er:R.getD i [] = r:=by rw [List.getD_eq_getElem?_getD,hr]; rfl
   rw [er]
   exact .inr (List.mem_map.mpr ⟨d,hd,rfl⟩)
  ·exact .inl (zf (by omega) hr hd)
theorem mw {s:List Int→Nat}:∀ (R:List (List Int)),(R.flatMap fun r=>sh (s r) r).Perm (R.flatMap (sh 0))
 | []=>.nil
 | r :: R=>by
  rw [List.flatMap_cons,List.flatMap_cons]
  exact (eL r _).append (mw R)
def lo (R:List (List Int)) (d:aj):Int:=(R.findIdx fun r=>decide (d∈sh 0 r):Nat)
theorem vK {R:List (List Int)} (h:(R.flatMap (sh 0)).Nodup) {i:Nat} {r:List Int} {d:aj} (hr:R[i]? = some r) (hd:d∈sh 0 r):lo R d = i:=by
 induction R generalizing i with
 | nil=>simp at hr
 | cons q R ih=>
  rw [List.flatMap_cons,List.nodup_append] at h
  obtain ⟨h1,h2,h3⟩:=h
  unfold lo
  rw [List.findIdx_cons]
  cases i with
  | zero=>
   have e:q = r:=by simpa using hr
   subst e
   rw [decide_eq_true hd]
   rfl
  | succ i=>
   have BL:R[i]? = some r:=by simpa using hr
   have nq:d∉sh 0 q:=fun z=>h3 d z d (List.mem_flatMap.mpr ⟨r,List.mem_of_getElem? BL,hd⟩) rfl
   rw [decide_eq_false nq]
   have:=ih h2 BL
   unfold lo at this
   show ((R.findIdx (fun r=>decide (d∈sh 0 r)) + 1:Nat):Int) = _
   omega
theorem Ed {s:List Int→Nat} {L R:List (List Int)} (ld:bq L R) {d:aj} (hd:Dt L d):eE (kN (lk s R R.length)) (eR d) = some (.int (lo R d)):=by
 obtain ⟨r,hr,hm⟩:=List.mem_flatMap.mp (ld.all d hd)
 obtain ⟨i,hi⟩:=List.mem_iff_getElem?.mp hr
 rw [vK ld.nd hi hm]
 refine nN ?_ (zf (List.getElem?_eq_some_iff.mp hi).1 hi ((eL r _).mem_iff.mpr hm))
 rw [kO (Nat.le_refl _),List.take_length]
 exact (mw R).nodup_iff.mpr ld.nd
theorem lU {L R:List (List Int)} (ld:bq L R) {d:aj} (hd:Dt L d):0≤lo R d∧lo R d < R.length:=by
 obtain ⟨r,hr,hm⟩:=List.mem_flatMap.mp (ld.all d hd)
 obtain ⟨i,hi⟩:=List.mem_iff_getElem?.mp hr
 rw [vK ld.nd hi hm]
 have:=(List.getElem?_eq_some_iff.mp hi).1
 omega
def gE (R:List (List Int)) (s:Nat) (r:List Int):List Int:=(sh s r).map fun d=>lo R (d.2,d.1)
theorem df (R:List (List Int)) (s:Nat) (r:List Int):(gE R s r).length = r.length:=by unfold gE; rw [List.length_map,bQ]
theorem jH {R:List (List Int)} {s:Nat} {r:List Int} {j:Nat} (h:j < r.length):(gE R s r)[j]? = some (lo R ((dj r (j + s)).2,(dj r (j + s)).1)):=by
 unfold gE
 rw [List.getElem?_map,n6 h]
 rfl
theorem uc {R:List (List Int)} {s:Nat} {r:List Int} (h0:0 < r.length) (j:Nat):cy (gE R s r) j = lo R ((dj r (j + s)).2,(dj r (j + s)).1):=by
 have hm:j % r.length < r.length:=Nat.mod_lt _ h0
 have e1:cy (gE R s r) j = cy (gE R s r) (j % r.length):=cw (by rw [df,Nat.mod_mod])
 have hl:j % r.length < (gE R s r).length:=by rw [df]; exact hm
 rw [e1,dk hl]
 have e2:=jH (R:=R) (s:=s) hm
 rw [List.getElem?_eq_getElem hl] at e2
 rw [Option.some.inj e2]
 have e3:dj r (j % r.length + s) = dj r (j + s):=ck (by rw [Nat.mod_add_mod])
 rw [e3]
def mU (D:List (List Int)):Prop:=∀ (k:Nat) (l:List Int),D[k]? = some l→(k:Int)∉l∧l.Nodup
theorem qC {L:List (List Int)} (im:aw L) {d:aj} (h:Dt L d):Dt L (d.2,d.1):=by
 have:=h.back im
 exact ⟨this.1,this.2.1,this.2.2.2⟩
end Gm
namespace Gm
open PySem L2
theorem jL {L R:List (List Int)} (ld:bq L R):(R.flatMap (sh 0)).length≤(cT L L.length).length:=
 bN ld.nd fun x hx=>by
  obtain ⟨r,hr,hd⟩:=List.mem_flatMap.mp hx
  have g:=ld.good r hr
  obtain ⟨j,rfl⟩:=(cG (by have:=g.two; omega)).mp hd
  exact (g.dt j).all
theorem yo {L R:List (List Int)} (ld:bq L R) {r:List Int} (hr:r∈R):r.length≤(cT L L.length).length:=by
 have h1:=jL ld
 have h2:(sh 0 r).length≤(R.flatMap (sh 0)).length:=by
  clear h1 ld
  induction R with
  | nil=>cases hr
  | cons q R ih=>
   rw [List.flatMap_cons,List.length_append]
   rcases List.mem_cons.mp hr with z | z
   ·rw [z]; omega
   ·have:=ih z; omega
 rw [bQ] at h2
 omega
end Gm
namespace L2
end L2
namespace Gm
open PySem L2
theorem ow {L R:List (List Int)} (ld:bq L R):2 * R.length≤(cT L L.length).length:=by
 refine Nat.le_trans ?_ (jL ld)
 have h:∀ S:List (List Int),(∀ r∈S,2≤r.length)→2 * S.length≤(S.flatMap (sh 0)).length:=by
  intro S
  induction S with
  | nil=>intro _; simp
  | cons q S ih=>
   intro hs
   rw [List.flatMap_cons,List.length_append,bQ,List.length_cons]
   have h1:=hs q List.mem_cons_self
   have h2:=ih fun r hr=>hs r (List.mem_cons_of_mem _ hr)
   omega
 exact h R fun r hr=>(ld.good r hr).two
end Gm
namespace Gm
theorem oB {α β : Type} (f : α→List β) (R:List α) (i:Nat):((R.take i).flatMap f).Sublist (R.flatMap f):=by
 have e:R.flatMap f = (R.take i).flatMap f ++ (R.drop i).flatMap f:=by rw [← List.flatMap_append,List.take_append_drop]
 rw [e]
 exact List.sublist_append_left _ _
end Gm
namespace L2
open PySem
theorem vG {X:Cx} {K:PySem.W.Frag} (hK:X.K = K) {pos:Pos} {es:List Expr} {k:Nat} {t:AH} {n:Nat} (hc:X.calm = true) (h:IU X es t)
  (hn:(assignEach es X.env).length = n:=by rfl) (Eu:(assignEach es X.env).findIdx? (·.1) = none:=by rfl):PG X (.Tuple es k pos) (EL K n t):=by
 subst hK
 exact gS hc h hn Eu
end L2
namespace L2
theorem jE {σ : St} {H:Hp} {Q:VK} {td ty:TE} (h:td σ H fun x H1=>ty σ H1 fun y H2=>∃ a v,x = .ref a∧eD H2 a y (some v)∧Q v H2):CC td ty σ H Q:=h
end L2
end
section
namespace Gm
open PySem L2
inductive gz (L:List (List Int)) (S:List Int) (s:Int):Int→Prop where
 | here:gz L S s s
 | step {i:Nat} {l:List Int} {x:Int}:gz L S s i→L[i]? = some l→x∈l→x∉S→gz L S s x
theorem gz.rg {L:List (List Int)} {S:List Int} {s x:Int} (h:gz L S s x) (m:aw L) (hs:0≤s∧s < L.length):0≤x∧x < L.length:=by
 cases h with
 | here=>exact hs
 | step _ e hx _=>
  have:=m.rg _ _ e x hx
  exact ⟨this.1,this.2.1⟩
structure ZX (L:List (List Int)) (S:List Int) (s:Int) (ks ws:List Int):Prop where
 nd:ks.Nodup
 nw:ws.Nodup
 st:s∈ks
 re:∀ x∈ks,gz L S s x
 sub:∀ x∈ws,x∈ks
 cl:∀ (i:Nat) (l:List Int),(i:Int)∈ks→(i:Int)∉ws→L[i]? = some l→∀ x∈l,x∉S→x∈ks
structure ZY (L:List (List Int)) (S:List Int) (s:Int) (ks ws:List Int) (pl:Nat) (l:List Int) (k:Nat):Prop where
 nd:ks.Nodup
 nw:ws.Nodup
 st:s∈ks
 re:∀ x∈ks,gz L S s x
 sub:∀ x∈ws,x∈ks
 pk:(pl:Int)∈ks
 cl:∀ (i:Nat) (m:List Int),(i:Int)∈ks→(i:Int)∉ws→i≠pl→L[i]? = some m→∀ x∈m,x∉S→x∈ks
 tk:∀ x∈l.take k,x∉S→x∈ks
def Jc (L:List (List Int)) (S fs:List Int):Prop:=∀ (i:Nat) (l:List Int),L[i]? = some l→(i:Int)∉S→(∃ x,x∈l∧x∈fs)→(i:Int)∈fs
structure ZM (L:List (List Int)) (S:List Int) (s:Int) (fs:List Int) (k:Nat):Prop where
 nd:fs.Nodup
 st:s∈fs
 re:∀ x∈fs,gz L S s x
 gr:Jc L S fs∨k + 1≤fs.length
structure ZL (L:List (List Int)) (S:List Int) (s:Int) (BY fs:List Int) (j:Nat):Prop where
 nd:fs.Nodup
 st:s∈fs
 re:∀ x∈fs,gz L S s x
 kp:Jc L S BY→fs = BY
 gr:BY.length < fs.length∨(fs = BY∧∀ (i:Nat) (l:List Int),i < j→L[i]? = some l→(i:Int)∉S→(∃ x,x∈l∧x∈fs)→(i:Int)∈fs)
def aT (n:Nat):List Int:=(List.range n).map fun i:Nat=>(i:Int)
theorem aV {n:Nat} {x:Int}:x∈aT n↔0≤x∧x < n:=by
 unfold aT
 rw [List.mem_map]
 constructor
 ·rintro ⟨i,hi,rfl⟩
  have:=List.mem_range.mp hi
  omega
 ·intro ⟨h1,h2⟩
  exact ⟨x.toNat,List.mem_range.mpr (by omega),by omega⟩
theorem eK (n:Nat):(aT n).Nodup:=List.Pairwise.map _ (fun a b h z=>h (by omega)) List.nodup_range
theorem uS {n i:Nat} (h:i < n):(aT n)[i]? = some (i:Int):=by unfold aT; simp [h]
theorem bh (n:Nat):(aT n).length = n:=by unfold aT; simp
def left (n:Nat) (S:List Int):List Int:=(aT n).filter fun x=>!decide (x∈S)
open Classical in
noncomputable def rn (L:List (List Int)) (S:List Int) (s:Int):Nat:=((aT L.length).filter fun x=>decide (gz L S s x)).length
noncomputable def Y9 (L:List (List Int)) (S:List Int):Bool:=match left L.length S with | []=>false | s :: r=>decide (rn L S s < (s :: r).length)
def twos (n one:Nat):List (List Int):=(List.range (n - (one + 1))).map fun j:Nat=>[(one:Int),(one:Int) + 1 + (j:Int)]
def Dv (n:Nat):Nat→List (List Int)
 | 0=>[] :: (aT n).map fun i=>[i]
 | k + 1=>Dv n k ++ twos n k
theorem h9 (i:Nat):aT (i + 1) = aT i ++ [(i:Int)]:=by unfold aT; rw [List.range_succ,List.map_append]; rfl
end Gm
end
section
namespace Gm
open PySem L2
def sw (d:aj):aj:=(d.2,d.1)
def Zj (L:List (List Int)):List (List Int):=L.map List.reverse
theorem zv {l:List Int} {k:Nat} (n:l.Nodup) (hk:k < l.length):l.idxOf l[k] = k:=by
 have ix:=List.idxOf_lt_length_of_mem (List.getElem_mem hk)
 exact (List.getElem_inj n).mp (List.getElem_idxOf ix)
def Jd (r s:List Int):Prop:=∃ c,c < r.length∧s = bM r.reverse c∧wz s
abbrev SN:List (List Int)→List (List Int)→Prop:=Paired Jd
end Gm
end
section
namespace Gm
open PySem L2
end Gm
end
section
namespace Gm
open PySem L2
structure Lay (A B:List (List Int)) (f:Int→Int):Prop where
 len:A.length = B.length
 rg:∀ i:Int,0≤i→i < A.length→0≤f i∧f i < B.length
 row:∀ i:Int,0≤i→i < A.length→aW ((rowOf A i).map f) (rowOf B (f i))
theorem pQ {n:Nat} {l:List Int} (hl:l.length≤n) (h:∀ x:Int,0≤x→x < n→x∈l):l.Nodup:=by
 refine List.pairwise_iff_getElem.mpr fun i j hi hj Ay e=>?_
 have sub:∀ x∈aT n,x∈l.eraseIdx j:=fun x hx=>by
  have r:=aV.mp hx
  obtain ⟨k,hk,ek⟩:=List.mem_iff_getElem.mp (h x r.1 r.2)
  rw [List.mem_eraseIdx_iff_getElem]
  by_cases z:k = j
  ·subst z
   exact ⟨i,hi,by omega,by rw [e]; exact ek⟩
  ·exact ⟨k,hk,z,ek⟩
 have h1:=bN (eK n) sub
 rw [bh,List.length_eraseIdx_of_lt hj] at h1
 omega
theorem Lay.yO {A B:List (List Int)} {f:Int→Int} (h:Lay A B f) (mA:aw A) (mB:aw B) (n0:0 < A.length) (hB:∀ x:Int,0≤x→x < B.length→Reach B (f 0) x) :
  ∀ y:Int,0≤y→y < B.length→∃ i:Int,0≤i∧i < A.length∧f i = y:=by
 have r0:=h.rg 0 (by omega) (by omega)
 have key:∀ y,Reach B (f 0) y→∃ i:Int,0≤i∧i < A.length∧f i = y:=by
  intro y ry
  induction ry with
  | here=>exact ⟨0,by omega,by omega,rfl⟩
  | @step j l x rj e hx ih=>
   obtain ⟨i,i0,i1,ei⟩:=ih
   have er:rowOf B (f i) = l:=by
    rw [ei]
    unfold rowOf
    rw [Int.toNat_natCast,List.getD_eq_getElem?_getD,e]
    rfl
   have hm:=(h.row i i0 i1).perm.mem_iff.mpr (show x∈rowOf B (f i) by rw [er]; exact hx)
   obtain ⟨k,hk,ek⟩:=List.mem_map.mp hm
   have bk:=Dt.back (L:=A) (d:=(i,k)) ⟨i0,i1,hk⟩ mA
   exact ⟨k,bk.1,bk.2.1,ek⟩
 exact fun y y0 y1=>key y (hB y y0 y1)
theorem Lay.nodup {A B:List (List Int)} {f:Int→Int} (h:Lay A B f) (mA:aw A) (mB:aw B) (n0:0 < A.length) (hB:∀ x:Int,0≤x→x < B.length→Reach B (f 0) x):((aT A.length).map f).Nodup:=by
 refine pQ (n:=A.length) (by rw [List.length_map,bh]; exact Nat.le_refl _) fun y y0 y1=>?_
 obtain ⟨i,i0,i1,e⟩:=h.yO mA mB n0 hB y y0 (by rw [← h.len]; exact y1)
 exact List.mem_map.mpr ⟨i,aV.mpr ⟨i0,i1⟩,e⟩
theorem u7 {m a b:List Int} (n:m.Nodup) (ha:aW a m) (hb:aW b m) {k:Nat} {x:Int} (h1:a[k]? = some x) (h2:b[k]? = some x):a = b:=by
 have la:=ha.len
 have lb:=hb.len
 have k1:=(List.getElem?_eq_some_iff.mp h1).1
 have all:∀ {c:List Int},aW c m→∃ j,j < m.length∧c = bM m j:=fun {c} hc=>by
  rcases hc with rfl | ⟨j,hj,e⟩
  ·exact ⟨0,by omega,by unfold bM; simp⟩
  ·exact ⟨j,hj,e⟩
 obtain ⟨i,hi,rfl⟩:=all ha
 obtain ⟨j,hj,rfl⟩:=all hb
 rw [Ad (by rw [bF (by omega)]; omega),dW hi] at h1
 rw [Ad (by rw [bF (by omega)]; omega),dW hj] at h2
 have e:=Option.some.inj (h1.trans h2.symm)
 have p0:0 < m.length:=by omega
 have mi:=Nat.mod_lt (k + i) p0
 have mj:=Nat.mod_lt (k + j) p0
 have e1:cy m (k + i) = m[(k + i) % m.length]:=by rw [← dk mi]; exact cw (by rw [Nat.mod_mod])
 have e2:cy m (k + j) = m[(k + j) % m.length]:=by rw [← dk mj]; exact cw (by rw [Nat.mod_mod])
 rw [e1,e2] at e
 have em:=(List.getElem_inj n).mp e
 have kl:k < m.length:=by rw [bF (by omega)] at k1; exact k1
 have:i = j:=by
  have a1:(k + i) % m.length = if k + i < m.length then k + i else k + i - m.length:=by
   split
   ·exact Nat.mod_eq_of_lt (by assumption)
   ·rw [Nat.mod_eq_sub_mod (by omega),Nat.mod_eq_of_lt (by omega)]
  have a2:(k + j) % m.length = if k + j < m.length then k + j else k + j - m.length:=by
   split
   ·exact Nat.mod_eq_of_lt (by assumption)
   ·rw [Nat.mod_eq_sub_mod (by omega),Nat.mod_eq_of_lt (by omega)]
  rw [a1,a2] at em
  split at em <;> split at em <;> omega
 rw [this]
theorem Lay.near {A B:List (List Int)} {f g:Int→Int} (hf:Lay A B f) (hg:Lay A B g) (mB:aw B) {i x:Int} (i0:0≤i) (i1:i < A.length) (e:f i = g i) (hx:x∈rowOf A i) (ex:f x = g x):∀ y∈rowOf A i,f y = g y:=by
 obtain ⟨k,hk,ek⟩:=List.mem_iff_getElem.mp hx
 have r:=hf.rg i i0 i1
 have rf:=hf.row i i0 i1
 have Fo:=hg.row i i0 i1
 rw [← e] at Fo
 have h1:((rowOf A i).map f)[k]? = some (f x):=by rw [List.getElem?_map,List.getElem?_eq_getElem hk,ek]; rfl
 have h2:((rowOf A i).map g)[k]? = some (f x):=by rw [List.getElem?_map,List.getElem?_eq_getElem hk,ek,ex]; rfl
 have em:=u7 (mB.nd _ _ (aq r.1 r.2)) rf Fo h1 h2
 intro y hy
 obtain ⟨j,hj,ej⟩:=List.mem_iff_getElem.mp hy
 have:=congrArg (fun l=>l[j]?) em
 simp only [List.getElem?_map,List.getElem?_eq_getElem hj,ej] at this
 exact Option.some.inj this
theorem Lay.unique {A B:List (List Int)} {f g:Int→Int} (hf:Lay A B f) (hg:Lay A B g) (mA:aw A) (mB:aw B) (n0:0 < A.length) {x:Int} (hx:x∈rowOf A 0) (e0:f 0 = g 0) (ex:f x = g x):∀ y,Reach A 0 y→f y = g y:=by
 have key:∀ y,Reach A 0 y→f y = g y∧∀ z∈rowOf A y,f z = g z:=by
  intro y ry
  induction ry with
  | here=>exact ⟨e0,hf.near hg mB (by omega) (by omega) e0 hx ex⟩
  | @step j l y rj e hy ih=>
   have rg:=rj.rg mA ⟨Int.le_refl 0,by omega⟩
   have er:rowOf A (j:Int) = l:=by
    unfold rowOf
    rw [Int.toNat_natCast,List.getD_eq_getElem?_getD,e]
    rfl
   have As:y∈rowOf A (j:Int):=by rw [er]; exact hy
   have ey:=ih.2 y As
   have bk:=Dt.back (L:=A) (d:=((j:Int),y)) ⟨rg.1,rg.2,As⟩ mA
   exact ⟨ey,hf.near hg mB bk.1 bk.2.1 ey bk.2.2.2 ih.1⟩
 exact fun y ry=>(key y ry).1
end Gm
end
section
namespace Gm
open PySem L2
theorem su (f:Int→Int) (r:List Int) (k:Nat):(bM r k).map f = bM (r.map f) k:=by
 unfold bM
 rw [List.map_append,List.map_drop,List.map_take]
theorem aW.symm {a b:List Int} (h:aW a b):aW b a:=by
 rcases h with rfl | ⟨c,hc,rfl⟩
 ·exact .inl rfl
 ·by_cases c0:c = 0
  ·subst c0
   refine .inl ?_
   unfold bM
   simp
  ·refine .inr ⟨b.length - c,by rw [bF (by omega)]; omega,?_⟩
   rw [kC hc (by omega),show b.length - c + c = b.length by omega,Nat.mod_self]
   unfold bM
   simp
def nm (ks:List (Int×Int)) (p:Int):Int:=(ks.lookup p).getD 0
theorem nm_at:∀ {ks:List (Int×Int)} {p v:Int},(ks.map (·.1)).Nodup→(p,v)∈ks→nm ks p = v
 | [],_,_,_,h=>by cases h
 | k :: ks,p,v,nd,h=>by
  obtain ⟨h1,h2⟩:=List.nodup_cons.mp nd
  unfold nm
  rw [List.lookup_cons]
  by_cases e:p = k.1
  ·rw [show (p == k.1) = true by simpa using e]
   rcases List.mem_cons.mp h with z | z
   ·rw [← z]; rfl
   ·exact absurd (List.mem_map.mpr ⟨_,z,e⟩) h1
  ·rw [show (p == k.1) = false by simpa using e]
   rcases List.mem_cons.mp h with z | z
   ·exact absurd (by rw [← z]) e
   ·exact nm_at h2 z
theorem nm_uniq {ks:List (Int×Int)} {p v u:Int} (nd:(ks.map (·.1)).Nodup) (h1:(p,v)∈ks) (h2:(p,u)∈ks):v = u:=(nm_at nd h1).symm.trans (nm_at nd h2)
structure eC (A B:List (List Int)) (first x0 second:Int) (f:Int→Int):Prop where
 lay:Lay A B f
 e0:f 0 = first
 e1:f x0 = second
abbrev Wait:=Int×Int×Int
structure Nf (A B:List (List Int)) (first x0 second:Int) (ks:List (Int×Int)) (ws:List Wait):Prop where
 nd:(ks.map (·.1)).Nodup
 rg:∀ p∈ks,(0≤p.1∧p.1 < A.length)∧0≤p.2∧p.2 < B.length
 st:(0,first)∈ks
 wn:(ws.map (·.1)).Nodup
 wk:∀ w∈ws,∃ v,(w.1,v)∈ks∧w.2.1∈rowOf A w.1∧w.2.2∈rowOf B v
 cl:∀ p v,(p,v)∈ks→p∉ws.map (·.1)→(∀ y∈rowOf A p,∃ u,(y,u)∈ks)∧aW ((rowOf A p).map (nm ks)) (rowOf B v)
 un:∀ f,eC A B first x0 second f→(∀ p∈ks,f p.1 = p.2)∧∀ w∈ws,f w.2.1 = w.2.2
 Fu:(0,x0,second)∈ws∨(x0,second)∈ks
structure Ni (A B:List (List Int)) (first x0 second:Int) (ks:List (Int×Int)) (ws:List Wait) (p v:Int) (od gl:List Int) (k:Nat):Prop where
 nd:(ks.map (·.1)).Nodup
 rg:∀ p∈ks,(0≤p.1∧p.1 < A.length)∧0≤p.2∧p.2 < B.length
 st:(0,first)∈ks
 wn:(ws.map (·.1)).Nodup
 pn:p∉ws.map (·.1)
 pk:(p,v)∈ks
 wk:∀ w∈ws,∃ v,(w.1,v)∈ks∧w.2.1∈rowOf A w.1∧w.2.2∈rowOf B v
 cl:∀ q u,(q,u)∈ks→q∉ws.map (·.1)→q≠p→(∀ y∈rowOf A q,∃ u,(y,u)∈ks)∧aW ((rowOf A q).map (nm ks)) (rowOf B u)
 un:∀ f,eC A B first x0 second f→(∀ p∈ks,f p.1 = p.2)∧∀ w∈ws,f w.2.1 = w.2.2
 tk:∀ (t:Nat) (y u:Int),t < k→od[t]? = some y→gl[t]? = some u→(y,u)∈ks
 Fu:(0,x0,second)∈ws∨(x0,second)∈ks∨(od[0]? = some x0∧gl[0]? = some second)
section
variable {A B:List (List Int)} {first x0 second p v:Int} {ks:List (Int×Int)} {ws:List Wait} {od gl:List Int} {k:Nat}
theorem Nf.start (n0:0 < A.length) (hf:0≤first∧first < B.length) (hx:x0∈rowOf A 0) (hs:second∈rowOf B first):Nf A B first x0 second [(0,first)] [(0,x0,second)]:=
 ⟨by simp,fun p hp=>by rw [List.mem_singleton.mp hp]; exact ⟨⟨Int.le_refl 0,by simpa using n0⟩,hf⟩,List.mem_singleton.mpr rfl,by simp,fun w hw=>by rw [List.mem_singleton.mp hw]; exact ⟨first,List.mem_singleton.mpr rfl,hx,hs⟩,
  fun p v hp hn=>by
   have e:=List.mem_singleton.mp hp
   have e1:p = 0:=congrArg Prod.fst e
   exact absurd (by rw [e1]; simp) hn,
  fun f w=>⟨fun p hp=>by rw [List.mem_singleton.mp hp]; exact w.e0,fun q hq=>by rw [List.mem_singleton.mp hq]; exact w.e1⟩,.inl (List.mem_singleton.mpr rfl)⟩
theorem Nf.turn {q r:Int} (h:Nf A B first x0 second ks (ws ++ [(p,q,r)])) (hp:(p,v)∈ks) (h1:od[0]? = some q) (h2:gl[0]? = some r):Ni A B first x0 second ks ws p v od gl 0:=by
 have wn:=h.wn
 rw [List.map_append,List.map_singleton,ic] at wn
 refine ⟨h.nd,h.rg,h.st,wn.2,wn.1,hp,fun w hw=>h.wk w (List.mem_append_left _ hw),fun q u hq hn gD=>h.cl q u hq fun z=>?_,fun f w=>⟨(h.un f w).1,fun x hx=>(h.un f w).2 x (List.mem_append_left _ hx)⟩,fun t y u ht=>by omega,?_⟩
 ·rw [List.map_append,List.map_singleton] at z
  rcases List.mem_append.mp z with z | z
  ·exact hn z
  ·exact gD (List.mem_singleton.mp z)
 ·rcases h.Fu with z | z
  ·rcases List.mem_append.mp z with z | z
   ·exact .inl z
   ·have e:=List.mem_singleton.mp z
    have e1:x0 = q:=congrArg (fun w=>w.2.1) e
    have e2:second = r:=congrArg (fun w=>w.2.2) e
    exact .inr (.inr ⟨by rw [e1]; exact h1,by rw [e2]; exact h2⟩)
  ·exact .inr (.inl z)
theorem Ni.old {y u:Int} (h:Ni A B first x0 second ks ws p v od gl k) (hy:od[k]? = some y) (hu:gl[k]? = some u) (hm:(y,u)∈ks):Ni A B first x0 second ks ws p v od gl (k + 1):=
 ⟨h.nd,h.rg,h.st,h.wn,h.pn,h.pk,h.wk,h.cl,h.un,fun t y' u' ht h1 h2=>by
  by_cases e:t = k
  ·subst e
   rw [hy] at h1
   rw [hu] at h2
   cases h1
   cases h2
   exact hm
  ·exact h.tk t y' u' (by omega) h1 h2,h.Fu⟩
theorem nm_snoc {y u q:Int} (hq:∃ w,(q,w)∈ks) (nd:((ks ++ [(y,u)]).map (·.1)).Nodup):nm (ks ++ [(y,u)]) q = nm ks q:=by
 obtain ⟨w,hw⟩:=hq
 have ou:(ks.map (·.1)).Nodup:=by rw [List.map_append] at nd; exact (List.nodup_append.mp nd).1
 rw [nm_at nd (List.mem_append_left _ hw),nm_at ou hw]
theorem Ni.new {y u:Int} (mA:aw A) (mB:aw B) (h:Ni A B first x0 second ks ws p v od gl k) (hy:od[k]? = some y) (hu:gl[k]? = some u) (hn:y∉ks.map (·.1)) (ho:∀ z∈od,z∈rowOf A p) (hg:∀ z∈gl,z∈rowOf B v)
  (uf:∀ f,eC A B first x0 second f→f y = u):Ni A B first x0 second (ks ++ [(y,u)]) (ws ++ [(y,p,v)]) p v od gl (k + 1):=by
 have CN:((ks ++ [(y,u)]).map (·.1)).Nodup:=by rw [List.map_append,List.map_singleton]; exact ic.mpr ⟨hn,h.nd⟩
 have rp:=h.rg _ h.pk
 have yA:=ho y (List.mem_of_getElem? hy)
 have uB:=hg u (List.mem_of_getElem? hu)
 have PF:=Dt.back (L:=A) (d:=(p,y)) ⟨rp.1.1,rp.1.2,yA⟩ mA
 have bu:=Dt.back (L:=B) (d:=(v,u)) ⟨rp.2.1,rp.2.2,uB⟩ mB
 have SS:∀ z,z∈ws.map (·.1)→z∈ks.map (·.1):=fun z hz=>by
  obtain ⟨w,hw,rfl⟩:=List.mem_map.mp hz
  obtain ⟨v',BK,_⟩:=h.wk w hw
  exact List.mem_map.mpr ⟨_,BK,rfl⟩
 refine ⟨CN,fun q hq=>?_,List.mem_append_left _ h.st,?_,fun z=>?_,List.mem_append_left _ h.pk,fun w hw=>?_,fun q u' hq NX gD=>?_,fun f w=>⟨fun q hq=>?_,fun x hx=>?_⟩,fun t y' u' ht h1 h2=>?_,?_⟩
 ·rcases List.mem_append.mp hq with z | z
  ·exact h.rg q z
  ·rw [List.mem_singleton.mp z]; exact ⟨⟨PF.1,PF.2.1⟩,bu.1,bu.2.1⟩
 ·rw [List.map_append,List.map_singleton]
  exact ic.mpr ⟨fun z=>hn (SS _ z),h.wn⟩
 ·rw [List.map_append,List.map_singleton] at z
  rcases List.mem_append.mp z with z | z
  ·exact h.pn z
  ·have e:p = y:=List.mem_singleton.mp z
   exact hn (by rw [← e]; exact List.mem_map.mpr ⟨_,h.pk,rfl⟩)
 ·rcases List.mem_append.mp hw with z | z
  ·obtain ⟨v',a,b,c⟩:=h.wk w z
   exact ⟨v',List.mem_append_left _ a,b,c⟩
  ·rw [List.mem_singleton.mp z]
   exact ⟨u,List.mem_append_right _ (List.mem_singleton.mpr rfl),PF.2.2.2,bu.2.2.2⟩
 ·rw [List.map_append,List.map_singleton] at NX
  rcases List.mem_append.mp hq with z | z
  ·obtain ⟨c1,c2⟩:=h.cl q u' z (fun e=>NX (List.mem_append_left _ e)) gD
   refine ⟨fun x hx=>?_,?_⟩
   ·obtain ⟨w,hw⟩:=c1 x hx
    exact ⟨w,List.mem_append_left _ hw⟩
   ·have e:(rowOf A q).map (nm (ks ++ [(y,u)])) = (rowOf A q).map (nm ks):=List.map_congr_left fun x hx=>nm_snoc (c1 x hx) CN
    rw [e]
    exact c2
  ·have e:=List.mem_singleton.mp z
   have e1:q = y:=congrArg Prod.fst e
   exact absurd (List.mem_append_right _ (List.mem_singleton.mpr e1)) NX
 ·rcases List.mem_append.mp hq with z | z
  ·exact (h.un f w).1 q z
  ·rw [List.mem_singleton.mp z]; exact uf f w
 ·rcases List.mem_append.mp hx with z | z
  ·exact (h.un f w).2 x z
  ·rw [List.mem_singleton.mp z]; exact (h.un f w).1 _ h.pk
 ·by_cases e:t = k
  ·subst e
   rw [hy] at h1
   rw [hu] at h2
   cases h1
   cases h2
   exact List.mem_append_right _ (List.mem_singleton.mpr rfl)
  ·exact List.mem_append_left _ (h.tk t y' u' (by omega) h1 h2)
 ·rcases h.Fu with z | z | z
  ·exact .inl (List.mem_append_left _ z)
  ·exact .inr (.inl (List.mem_append_left _ z))
  ·exact .inr (.inr z)
theorem Ni.done (h:Ni A B first x0 second ks ws p v od gl od.length) (ho:aW od (rowOf A p)) (hg:aW gl (rowOf B v)) (hl:od.length = gl.length):Nf A B first x0 second ks ws:=by
 refine ⟨h.nd,h.rg,h.st,h.wn,h.wk,fun q u hq hn=>?_,h.un,?_⟩
 rotate_left
 ·rcases h.Fu with z | z | z
  ·exact .inl z
  ·exact .inr z
  ·exact .inr (h.tk 0 x0 second (List.getElem?_eq_some_iff.mp z.1).1 z.1 z.2)
 by_cases e:q = p
 ·subst e
  obtain rfl:=nm_uniq h.nd hq h.pk
  have all:∀ y∈rowOf A q,∃ u,(y,u)∈ks:=fun y hy=>by
   obtain ⟨t,ht,et⟩:=List.mem_iff_getElem.mp (ho.perm.mem_iff.mpr hy)
   exact ⟨gl[t]'(by omega),h.tk t y _ ht (by rw [List.getElem?_eq_getElem ht,et]) (List.getElem?_eq_getElem (by omega))⟩
  refine ⟨all,?_⟩
  have em:od.map (nm ks) = gl:=by
   refine List.ext_getElem (by rw [List.length_map]; exact hl) fun t h1 h2=>?_
   rw [List.length_map] at h1
   rw [List.getElem_map]
   exact nm_at h.nd (h.tk t od[t] gl[t] h1 (List.getElem?_eq_getElem h1) (List.getElem?_eq_getElem h2))
  have r1:aW ((rowOf A q).map (nm ks)) (od.map (nm ks)):=by
   rcases ho.symm with e | ⟨c,hc,e⟩
   ·exact .inl (by rw [e])
   ·exact .inr ⟨c,by rw [List.length_map]; exact hc,by rw [e,su]⟩
  rw [em] at r1
  exact r1.trans hg
 ·exact h.cl q u hq hn e
theorem Nf.lay (mA:aw A) (hl:A.length = B.length) (n0:0 < A.length) (h:Nf A B first x0 second ks []) (hA:∀ x:Int,0≤x→x < A.length→Reach A 0 x):(∀ x:Int,0≤x→x < A.length→∃ u,(x,u)∈ks)∧Lay A B (nm ks):=by
 have all:∀ x,Reach A 0 x→∃ u,(x,u)∈ks:=by
  intro x r
  induction r with
  | here=>exact ⟨_,h.st⟩
  | @step j l y rj e hy ih=>
   obtain ⟨u,hu⟩:=ih
   have er:rowOf A (j:Int) = l:=by
    unfold rowOf
    rw [Int.toNat_natCast,List.getD_eq_getElem?_getD,e]
    rfl
   exact (h.cl j u hu (by simp)).1 y (by rw [er]; exact hy)
 refine ⟨fun x h0 h1=>all x (hA x h0 h1),hl,fun i i0 i1=>?_,fun i i0 i1=>?_⟩
 ·obtain ⟨u,hu⟩:=all i (hA i i0 i1)
  rw [nm_at h.nd hu]
  exact (h.rg _ hu).2
 ·obtain ⟨u,hu⟩:=all i (hA i i0 i1)
  rw [nm_at h.nd hu]
  exact (h.cl i u hu (by simp)).2
theorem eC.Ot {f:Int→Int} (w:eC A B first x0 second f) (mB:aw B) (hp:0≤p∧p < A.length) (hv:f p = v) (Rw:0≤v∧v < B.length) (ho:aW od (rowOf A p)) (hg:aW gl (rowOf B v)) {q r:Int} (h1:od[0]? = some q) (h2:gl[0]? = some r) (hq:f q = r):od.map f = gl:=by
 have rr:=w.lay.row p hp.1 hp.2
 rw [hv] at rr
 have r1:aW (od.map f) ((rowOf A p).map f):=by
  rcases ho with e | ⟨c,hc,e⟩
  ·exact .inl (by rw [e])
  ·exact .inr ⟨c,by rw [List.length_map]; exact hc,by rw [e,su]⟩
 exact u7 (mB.nd _ _ (aq Rw.1 Rw.2)) (r1.trans rr) hg (k:=0) (x:=r) (by rw [List.getElem?_map,h1]; exact congrArg some hq) h2
end
end Gm
end
section
namespace Gm
open PySem L2
def kI (ks:List (Int×Int)):List (Key×V):=ks.map fun p=>((Sum.inl p.1:Key),V.int p.2)
theorem uv (ks:List (Int×Int)):(kI ks).length = ks.length:=by unfold kI; simp
theorem jA:∀ {ks:List (Int×Int)} {p:Int},p∉ks.map (·.1)→eE (kI ks) (.inl p) = none
 | [],_,_=>rfl
 | k :: ks,p,h=>by
  unfold kI
  rw [List.map_cons,dI (fun y=>h (by rw [← Sum.inl.inj y]; exact List.mem_cons_self))]
  exact jA (ks:=ks) fun z=>h (List.mem_cons_of_mem _ z)
theorem dP:∀ {ks:List (Int×Int)} {p v:Int},(ks.map (·.1)).Nodup→(p,v)∈ks→eE (kI ks) (.inl p) = some (.int v)
 | [],_,_,_,h=>by cases h
 | k :: ks,p,v,hn,h=>by
  unfold kI
  rw [List.map_cons]
  obtain ⟨h1,h2⟩:=List.nodup_cons.mp hn
  by_cases e:k.1 = p
  ·rw [eZ (congrArg Sum.inl e)]
   rcases List.mem_cons.mp h with z | z
   ·rw [← z]
   ·exact absurd (show k.1∈ks.map (·.1) by rw [e]; exact List.mem_map.mpr ⟨_,z,rfl⟩) h1
  ·rw [dI (fun y=>e (Sum.inl.inj y))]
   rcases List.mem_cons.mp h with z | z
   ·exact absurd (by rw [← z]) e
   ·exact dP (ks:=ks) h2 z
theorem GD {ks:List (Int×Int)} {p v:Int} (h:p∉ks.map (·.1)):putK (kI ks) (.inl p) (.int v) = kI (ks ++ [(p,v)]):=by
 rw [i9 _ (jA h)]
 unfold kI
 rw [List.map_append]
 rfl
theorem AR {ks:List (Int×Int)} {p:Int} (nd:(ks.map (·.1)).Nodup):(eE (kI ks) (.inl p)).isSome = decide (p∈ks.map (·.1)):=by
 by_cases h:p∈ks.map (·.1)
 ·obtain ⟨k,hk,rfl⟩:=List.mem_map.mp h
  rw [dP nd (show (k.1,k.2)∈ks from hk),decide_eq_true h]
  rfl
 ·rw [jA h,decide_eq_false h]
  rfl
abbrev WR (H:Hp):List Addr→List Wait→Prop:=Paired fun a w=>H a = some (.tup [.int w.1,.int w.2.1,.int w.2.2])
theorem WR.app {H:Hp}:∀ {as bs:List Addr} {ws vs:List Wait},WR H as ws→WR H bs vs→WR H (as ++ bs) (ws ++ vs)
 | _,_,_,_,.nil,h=>h
 | _,_,_,_,.cons r t,h=>.cons r (WR.app t h)
theorem WR.last {H:Hp} {as:List Addr} {ws:List Wait} (h:WR H as ws) (gD:ws≠[]):∃ KA a oP w,as = KA ++ [a]∧ws = oP ++ [w]∧WR H KA oP∧H a = some (.tup [.int w.1,.int w.2.1,.int w.2.2]):=by
 induction h with
 | nil=>exact absurd rfl gD
 | @cons a w as ws hw t ih=>
  by_cases e:ws = []
  ·subst e
   cases t
   exact ⟨[],a,[],w,rfl,rfl,.nil,hw⟩
  ·obtain ⟨KA,a',oP,w',e1,e2,e3,e4⟩:=ih e
   exact ⟨a :: KA,a',w :: oP,w',by rw [e1]; rfl,by rw [e2]; rfl,.cons hw e3,e4⟩
theorem BC (l:List Int):Le l l:=by
 unfold Le
 induction l with
 | nil=>rfl
 | cons a l ih=>simp [HT.lexLt,ih]
theorem BE {A B:List (List Int)} (mA:aw A) (mB:aw B) (h1:A.length = 1) (hl:A.length = B.length):∃ f,Lay A B f∧(aT A.length).map f = [0]:=by
 have em:∀ {C:List (List Int)},aw C→C.length = 1→rowOf C 0 = []:=fun {C} m hc=>by
  have r:=aq (L:=C) (a:=0) (by omega) (by omega)
  cases e:rowOf C 0 with
  | nil=>rfl
  | cons x l=>
   have:=m.rg _ _ r x (by rw [e]; exact List.mem_cons_self)
   omega
 refine ⟨fun _=>0,⟨hl,fun i i0 i1=>⟨Int.le_refl 0,by omega⟩,fun i i0 i1=>?_⟩,by rw [h1]; rfl⟩
 have:i = 0:=by omega
 subst this
 rw [em mA h1,em mB (by omega)]
 exact .inl rfl
theorem LD {A:List (List Int)} (m:aw A) (n2:2≤A.length) (hA:∀ x:Int,0≤x→x < A.length→Reach A 0 x):∃ x0,(rowOf A 0)[0]? = some x0:=by
 cases e:rowOf A 0 with
 | cons x l=>exact ⟨x,by simp⟩
 | nil=>
  exfalso
  have key:∀ y,Reach A 0 y→y = 0:=by
   intro y r
   induction r with
   | here=>rfl
   | @step j l x _ e2 hx ih=>
    have hj:j = 0:=by omega
    subst hj
    have:rowOf A 0 = l:=by
     unfold rowOf
     rw [show (0:Int).toNat = 0 from rfl,List.getD_eq_getElem?_getD,e2]
     rfl
    rw [← this,e] at hx
    cases hx
  have:=key 1 (hA 1 (by omega) (by omega))
  omega
end Gm
end
section
namespace L2
open PySem PySem.Spec PySem.W PySem.Calls PyProof.Rows Gm
section
variable {X:Cx} {l:Expr} {tl:TE} {p p2 pos wO:Pos}
def qY (tl:TE):TE:=fun σ H Q=>tl σ H fun x H1=>∃ n:Nat,x = .int (n:Int)∧n≤1000∧∀ p,H1 p = none→Q (.ref p) (upd H1 p (.lst ((aT n).map V.int)))
theorem wC {acc:Array Value} {n:Nat} (h:ItemsOf (fun i v=>∃ t,v = Value.int (0 + (i:Int) * 1) t) acc n):Vals ((aT n).map V.int) acc.toList:=by
 obtain ⟨hs,h⟩:=h
 have key:∀ (l:List Value) (k:Nat),(∀ j v,l[j]? = some v→∃ t,v = Value.int (((k + j:Nat):Int)) t)→Vals (((List.range' k l.length).map fun i:Nat=>(i:Int)).map V.int) l:=by
  intro l
  induction l with
  | nil=>intro k _; exact .nil
  | cons a l ih=>
   intro k hk
   rw [List.length_cons,List.range'_succ,List.map_cons,List.map_cons]
   refine .cons ?_ (ih (k + 1) fun j v e=>?_)
   ·obtain ⟨t,e⟩:=hk 0 a rfl
    exact ⟨t,e⟩
   ·obtain ⟨t,e'⟩:=hk (j + 1) v (by simpa using e)
    exact ⟨t,by rw [e']; congr 2; omega⟩
 have:=key acc.toList 0 fun j v e=>by
  obtain ⟨t,e'⟩:=h j v (by rw [← Array.getElem?_toList]; exact e)
  refine ⟨t,?_⟩
  rw [e']
  congr 1
  omega
 rw [Array.length_toList,hs] at this
 unfold aT
 rw [List.range_eq_range']
 exact this
theorem je (hc:X.calm = true) (hm:X.mg "range" = none) (vU:X.mg "list" = none) (ha:PE X l tl) (hg:Gl X "range":=by rfl) (N9:Gl X "list":=by rfl)
  (he:starEach [l] X.env = (false,eval l X.env) :: starEach [] X.env:=by rfl)
  (BR:starEach [.Call (.Name "range" p) [l] [] pos] X.env = (false,eval (.Call (.Name "range" p) [l] [] pos) X.env) :: starEach [] X.env:=by rfl) :
  PE X (.Call (.Name "list" p2) [.Call (.Name "range" p) [l] [] pos] [] wO) (qY tl):=by
 intro pins s σ H Q I h
 refine Call_ (gk I N9 vU mM (PyProof.Rows.callWith_type1 ?_ BR rfl))
 rw [BR]
 show wpAny _ _ (spliced ((false,eval (.Call (.Name "range" p) [l] [] pos) X.env) :: backTo wO (starEach [] X.env))) _ _ s
 refine Calls.spliced_cons ?_
 refine Call_ (gk I hg hm boot_range (PyProof.Rows.callWith_type1 ?_ he rfl))
 rw [he]
 show wpAny _ _ (spliced ((false,eval l X.env) :: backTo pos (starEach [] X.env))) _ _ s
 refine Calls.spliced_cons (dc (ha pins s σ H _ I h) fun u1 s1 ⟨x,H1,I1,r1,q1⟩=>?_)
 refine Calls.spliced_nil ?_
 obtain ⟨n,rfl,hn,q⟩:=q1
 obtain ⟨t,rfl⟩:=r1
 refine call_range_1 ?_
 refine Calls.spliced_nil ?_
 generalize Hm:s1.heap.push { cls:=Value.type "range",data:=Data.fields #[Value.int 0 s1.toks,Value.int (n:Int) t,Value.int 1 (s1.toks + 1)] } = h'
 have kp:∀ c o,s1.heap.get? c = some o→h'.get? c = some o:=fun c o e=>Hm▸Heap.get?_push_of_some _ e
 have hz:IsRange h' s1.heap.objs.size 0 (n:Int) 1 s1.toks t (s1.toks + 1):=Hm▸IsRange.new ..
 have I2:Inv X pins σ H1 { s1 with heap:=h',toks:=s1.toks + 1 + 1 }:=I1.kept kp
 refine call_list_range (s:={ s1 with heap:=h',toks:=s1.toks + 1 + 1 }) (n:=n) (I2.ok.hd hc) hz (small_one (by omega) (by omega) (by omega) (by omega)) (by rw [rangeSize_one]; split <;> omega) (by omega) fun h3 tk acc c hk hS hit=>?_
 have I3:Inv X pins σ (upd H1 h'.objs.size (.lst ((aT n).map V.int))) { s1 with heap:=h3,toks:=tk }:=by
  refine Inv.jB (s:={ s1 with heap:=h',toks:=s1.toks + 1 + 1 }) (ch:=[]) I2 (fun b u _ e=>hk b u e) (fun b hb=>by simp at hb) (Nat.le_refl _) ?_
  exact ⟨by rw [List.length_map,bh,PySem.sizeLine_eq]; omega,acc.toList,c,wC hit,by rw [Array.toArray_toList]; exact hS⟩
 exact ⟨.ref h'.objs.size,_,I3,rfl,q _ (I2.bS.fresh (Nat.le_refl _))⟩
end
section
variable {σ : St} {H:Hp} {Q:VK} {K:Frag}
theorem oi {tl:TE} (h:tl σ H fun x H1=>∃ n:Nat,x = .int (n:Int)∧n≤1000∧∀ p,H1 p = none→Q (.ref p) (upd H1 p (.lst ((aT n).map V.int)))):qY tl σ H Q:=h
theorem vc {r:V→Option Int→Option Int→Hp→VK→Prop} {te:TE} {tl th:TO} (h:te σ H fun x H1=>tl σ H1 fun l H2=>th σ H2 fun u H3=>r x l u H3 Q):Ff r te tl th σ H Q:=h
end
end L2
end
section
namespace Gm
open PySem L2
def Vy (n:Nat) (l:List Int):List (List Int):=((aT n).filter fun x=>!decide (x∈l)).map fun x=>l ++ [x]
def Qb (n:Nat):Nat→List (List Int)
 | 0=>[[]]
 | k + 1=>(Qb n k).flatMap (Vy n)
theorem uR (n:Nat):(aT n).Pairwise (· < ·):=List.Pairwise.map _ (fun a b h=>by omega) List.pairwise_lt_range
def fD (l:List Int) (i:Int):Int:=l.getD i.toNat 0
theorem gg {l:List Int} {k:Nat} {x:Int} (h:l[k]? = some x):fD l (k:Int) = x:=by
 unfold fD
 rw [Int.toNat_natCast,List.getD_eq_getElem?_getD,h]
 rfl
theorem kK {l:List Int} {i:Int} (h0:0≤i) (h1:i < l.length):l[i.toNat]? = some (fD l i):=by
 have hl:i.toNat < l.length:=by omega
 have:=gg (List.getElem?_eq_getElem hl)
 rw [Int.toNat_of_nonneg h0] at this
 rw [this]
 exact List.getElem?_eq_getElem hl
theorem zu {l:List Int} {x:Int} (h0:0≤x) (h1:x < l.length):kU (l.map V.int) x = some (V.int (fD l x)):=by
 have:=ir (xs:=l.map V.int) (j:=x.toNat) (v:=V.int (fD l x)) (by rw [List.getElem?_map,kK h0 h1]; rfl)
 rwa [Int.toNat_of_nonneg h0] at this
theorem Bt (l:List Int):(aT l.length).map (fD l) = l:=by
 refine List.ext_getElem (by rw [List.length_map,bh]) fun k h1 h2=>?_
 rw [List.getElem_map]
 have:(aT l.length)[k]'(by rw [bh]; exact h2) = (k:Int):=by unfold aT; simp
 rw [this]
 exact gg (List.getElem?_eq_getElem h2)
theorem pR {n:Nat} {f:Int→Int} {i:Int} (h0:0≤i) (h1:i < n):fD ((aT n).map f) i = f i:=by
 have e:((i.toNat:Nat):Int) = i:=Int.toNat_of_nonneg h0
 have hl:i.toNat < n:=by omega
 have:=gg (l:=(aT n).map f) (k:=i.toNat) (x:=f i) (by
  rw [List.getElem?_map]
  have:(aT n)[i.toNat]? = some i:=by
   rw [List.getElem?_eq_getElem (by rw [bh]; exact hl)]
   unfold aT
   simp [e]
  rw [this]; rfl)
 rw [e] at this
 exact this
theorem Lay.congr {A B:List (List Int)} {f g:Int→Int} (h:Lay A B f) (mA:aw A) (e:∀ i:Int,0≤i→i < A.length→f i = g i):Lay A B g:=by
 refine ⟨h.len,fun i i0 i1=>by rw [← e i i0 i1]; exact h.rg i i0 i1,fun i i0 i1=>?_⟩
 have hr:=h.row i i0 i1
 rw [← e i i0 i1]
 have:(rowOf A i).map g = (rowOf A i).map f:=List.map_congr_left fun x hx=>by
  have b:=Dt.back (L:=A) (d:=(i,x)) ⟨i0,i1,hx⟩ mA
  exact (e x b.1 b.2.1).symm
 rw [this]
 exact hr
structure nI (n:Nat) (l:List Int):Prop where
 len:l.length = n
 nd:l.Nodup
 rg:∀ x∈l,0≤x∧x < n
theorem nI.all {n:Nat} {l:List Int} (h:nI n l) {x:Int} (h0:0≤x) (h1:x < n):x∈l:=by
 refine Classical.byContradiction fun z=>?_
 have:=bC (n:=n) (l:=x :: l) (List.nodup_cons.mpr ⟨z,h.nd⟩) fun y hy=>by
  rcases List.mem_cons.mp hy with rfl | hy
  ·exact ⟨h0,h1⟩
  ·exact h.rg y hy
 rw [List.length_cons,h.len] at this
 omega
theorem nI.pL {n:Nat} {l:List Int} (h:l.Perm (aT n)):nI n l:=
 ⟨by rw [h.length_eq,bh],h.nodup_iff.mpr (eK n),fun x hx=>aV.mp (h.mem_iff.mp hx)⟩
theorem nI.Gq {n:Nat} {l:List Int} (h:nI n l) {i:Int} (h0:0≤i) (h1:i < n):0≤fD l i∧fD l i < n:=
 h.rg _ (List.mem_of_getElem? (kK h0 (by rw [h.len]; exact h1)))
theorem nI.inj {n:Nat} {l:List Int} (h:nI n l) {i j:Int} (i0:0≤i) (i1:i < n) (j0:0≤j) (j1:j < n) (e:fD l i = fD l j):i = j:=by
 have a:=kK (l:=l) i0 (by rw [h.len]; exact i1)
 have b:=kK (l:=l) j0 (by rw [h.len]; exact j1)
 rw [e] at a
 obtain ⟨a1,a2⟩:=List.getElem?_eq_some_iff.mp a
 obtain ⟨b1,b2⟩:=List.getElem?_eq_some_iff.mp b
 have:=(List.getElem_inj h.nd).mp (a2.trans b2.symm)
 omega
theorem nI.yO {n:Nat} {l:List Int} (h:nI n l) {x:Int} (h0:0≤x) (h1:x < n):∃ j:Int,0≤j∧j < n∧fD l j = x:=by
 obtain ⟨k,hk,e⟩:=List.mem_iff_getElem.mp (h.all h0 h1)
 exact ⟨(k:Int),by omega,by rw [h.len] at hk; omega,gg (by rw [List.getElem?_eq_getElem hk,e])⟩
structure IQ (A:List (List Int)) (l:List Int) (R:List (List Int)):Prop where
 len:R.length = A.length
 row:∀ j:Int,0≤j→j < A.length→R[(fD l j).toNat]? = some ((rowOf A j).map (fD l))
theorem cP {L:List (List Int)} {i:Nat} {l:List Int} (h:L[i]? = some l):rowOf L (i:Int) = l:=by
 unfold rowOf
 rw [Int.toNat_natCast,List.getD_eq_getElem?_getD,h]
 rfl
theorem IQ.lay {A B R:List (List Int)} {l:List Int} (h:IQ A l R) (n:nI A.length l) (hl:A.length = B.length) :
  (∀ (i:Nat) (r b:List Int),R[i]? = some r→B[i]? = some b→aW r b)↔Lay A B (fD l):=by
 constructor
 ·intro q
  refine ⟨hl,fun i i0 i1=>by rw [← hl]; exact n.Gq i0 i1,fun i i0 i1=>?_⟩
  have r:=n.Gq i0 i1
  exact q _ _ _ (h.row i i0 i1) (aq r.1 (by rw [← hl]; exact r.2))
 ·intro ly i r b hr hb
  have hi:=(List.getElem?_eq_some_iff.mp hr).1
  rw [h.len] at hi
  obtain ⟨j,j0,j1,e⟩:=n.yO (x:=(i:Int)) (by omega) (by omega)
  have h1:=h.row j j0 j1
  rw [e,Int.toNat_natCast,hr] at h1
  rw [Option.some.inj h1]
  have h2:=ly.row j j0 j1
  rw [e,cP hb] at h2
  exact h2
theorem IQ.eJ {A R:List (List Int)} {l:List Int} (h:IQ A l R) (n:nI A.length l) (m:aw A):aw R:=by
 have at_:∀ (i:Nat) (r:List Int),R[i]? = some r→∃ j:Int,0≤j∧j < A.length∧fD l j = i∧r = (rowOf A j).map (fD l):=fun i r hr=>by
  have hi:=(List.getElem?_eq_some_iff.mp hr).1
  rw [h.len] at hi
  obtain ⟨j,j0,j1,e⟩:=n.yO (x:=(i:Int)) (by omega) (by omega)
  have h1:=h.row j j0 j1
  rw [e,Int.toNat_natCast,hr] at h1
  exact ⟨j,j0,j1,e,Option.some.inj h1⟩
 have rg:∀ {j x:Int},0≤j→j < A.length→x∈rowOf A j→0≤x∧x < A.length∧x≠j∧j∈rowOf A x:=fun {j x} j0 j1 hx=>Dt.back (L:=A) (d:=(j,x)) ⟨j0,j1,hx⟩ m
 refine ⟨fun i r hr=>?_,fun i r hr y hy=>?_,fun i r hr y hy k ek m' Wy=>?_⟩
 ·obtain ⟨j,j0,j1,e,rfl⟩:=at_ i r hr
  have nd:=m.nd _ _ (aq j0 j1)
  have:∀ l':List Int,l'.Nodup→(∀ x∈l',0≤x∧x < A.length)→(l'.map (fD l)).Nodup:=by
   intro l'
   induction l' with
   | nil=>intro _ _; exact List.nodup_nil
   | cons a l' ih=>
    intro JH Fo
    rw [List.map_cons,List.nodup_cons]
    have CN:=List.nodup_cons.mp JH
    refine ⟨fun z=>?_,ih CN.2 fun x hx=>Fo x (List.mem_cons_of_mem _ hx)⟩
    obtain ⟨b,hb,eb⟩:=List.mem_map.mp z
    have ra:=Fo a List.mem_cons_self
    have rb:=Fo b (List.mem_cons_of_mem _ hb)
    exact CN.1 (n.inj rb.1 rb.2 ra.1 ra.2 eb▸hb)
  exact this _ nd fun x hx=>⟨(rg j0 j1 hx).1,(rg j0 j1 hx).2.1⟩
 ·obtain ⟨j,j0,j1,e,rfl⟩:=at_ i r hr
  obtain ⟨x,hx,rfl⟩:=List.mem_map.mp hy
  have rx:=rg j0 j1 hx
  have r2:=n.Gq rx.1 rx.2.1
  exact ⟨r2.1,by rw [h.len]; exact r2.2,fun z=>rx.2.2.1 (n.inj rx.1 rx.2.1 j0 j1 (z.trans e.symm))⟩
 ·obtain ⟨j,j0,j1,e,rfl⟩:=at_ i r hr
  obtain ⟨x,hx,rfl⟩:=List.mem_map.mp hy
  have rx:=rg j0 j1 hx
  have h1:=h.row x rx.1 rx.2.1
  rw [ek,Int.toNat_natCast,Wy] at h1
  rw [Option.some.inj h1]
  exact List.mem_map.mpr ⟨j,rx.2.2.2,e⟩
def mP (L:List (List Int)):Prop:=∀ x:Int,0≤x→x < L.length→Reach L 0 x
theorem Reach.sym {L:List (List Int)} {s x:Int} (h:Reach L s x) (m:aw L) (hs:0≤s∧s < L.length):Reach L x s:=by
 induction h with
 | here=>exact .here
 | @step i l x r e hx ih=>
  have d:=Reach.nD e hx
  have b:=d.back m
  exact (Reach.one (d:=(x,(i:Int))) .here ⟨b.1,b.2.1,b.2.2.2⟩).trans ih
theorem mP.from {L:List (List Int)} (h:mP L) (m:aw L) {s:Int} (s0:0≤s) (s1:s < L.length):∀ x:Int,0≤x→x < L.length→Reach L s x:=fun x x0 x1=>
 ((h s s0 s1).sym m ⟨Int.le_refl 0,by omega⟩).trans (h x x0 x1)
theorem mP.of {L:List (List Int)} (m:aw L) {s:Int} (s0:0≤s) (s1:s < L.length) (h:∀ x:Int,0≤x→x < L.length→Reach L s x):mP L:=fun x x0 x1=>
 ((h 0 (Int.le_refl 0) (by omega)).sym m ⟨s0,s1⟩).trans (h x x0 x1)
def Bo (n:Nat) (k:Nat):List Int:=[(k:Int) - 1,(k:Int) + 1].filter fun x=>decide (0≤x) && decide (x < n)
def path (n:Nat):List (List Int):=(List.range n).map (Bo n)
theorem DF {a b:TS} {D:Ends} {σ : St} {H:Hp} (Pv:St→Hp→Prop) (hb:∀ σ' H',Pv σ' H'→b D σ' H') (ha:∀ T:St→Hp→Prop,(∀ σ' H',Pv σ' H'→T σ' H')→a { D with nx:=T } σ H):Dj a b D σ H:=ha _ hb
theorem Bd {K:PySem.W.Frag} {t:TE} {σ : St} {H:Hp} {R:It→Hp→Prop} (h:t σ H fun x H1=>∃ a,x = .ref a∧(∃ xs,aD K H1 a xs)∧R (Cn K a) H1):CT K t σ H R:=h
def Xz (A B:List (List Int)):PyData:=.list [zW A,zW B]
end Gm
end
section
namespace L2
open PySem PySem.Spec PySem.W PySem.Calls PyProof.Rows HT
def Ug (K:Frag):R2:=fun x y H Q=>∃ (a b:Addr) (ns ms:List Int),x = .ref a∧y = .ref b∧aD K H a (ns.map V.int)∧aD K H b (ms.map V.int)∧Q (.bl (lexLt ms ns)) H
end L2
end
section
namespace L2
open PySem PySem.Spec PySem.W PySem.Calls PyProof.Rows Gm
section
variable {X:Cx}
def rJoin (K:Frag):V→List V→Hp→VK→Prop:=fun x vs H Q=>∃ (sep:Str) (a:Addr) (ts:List Str),x = .str sep∧vs = [.ref a]∧aD K H a (ts.map V.str)∧JoinOk sep ts = true∧Q (.str (Str.join sep ts)) H
def LG:V→List V→Hp→VK→Prop:=fun x vs H Q=>∃ (z y:Str),x = .str z∧vs = [.str y]∧(y.length == 0) = false∧z.length≤1000000∧(Builtin.Str.partsBetween z (Builtin.Str.occurrences z y 0 z.length (z.length + 1)) y.length).length≤sizeLine∧
 ∀ p,H p = none→Q (.ref p) (upd H p (.lst ((Txt.split z y).map V.str)))
def Td (te:TE) (y:Str):TE:=fun σ H Q=>te σ H fun x H1=>∃ n:Int,x = .int n∧n.natAbs.log2 < 1920∧((toString n:String):Str).length + y.length≤1000000∧Q (.str (((toString n:String):Str) ++ y)) H1
end
def Ym (x:Str):It:=⟨fun i _=>i < x.cps.size,fun i H v H'=>H' = H∧∃ c,x.cps[i]? = some c∧v = .str ⟨#[c]⟩,fun i _=>x.cps.size≤i⟩
section
variable {X:Cx} {tg:Expr}
def V2 (tl:TE):TI:=fun σ H R=>tl σ H fun x H1=>∃ z:Str,x = .str z∧z.cps.all (· < 128) = true∧R (Ym z) H1
end
end L2
end
section
namespace Gm
open PySem L2
def jl (s:List Nat):List (List Nat)→List Nat
 | []=>[]
 | [a]=>a
 | a :: b :: r=>a ++ s ++ jl s (b :: r)
abbrev num (n:Int):Str:=((toString n:String):Str)
structure Num (x:Str):Prop where
 l1:1≤x.length
 l2:x.length≤2
 dg:∀ c∈x.cps.toList,48≤c∧c≤57
 hd:x = ((("0" : String)):Str)∨∃ c,x.cps[0]? = some c∧c≠48
end Gm
end
section
namespace Gm
open PySem L2
theorem fE {c:List aj} (h:(c.map (·.1)).Nodup) {d e:aj} (hd:d∈c) (he:e∈c) (q:d.1 = e.1):d = e:=by
 obtain ⟨i,hi,rfl⟩:=List.mem_iff_getElem.mp hd
 obtain ⟨j,hj,rfl⟩:=List.mem_iff_getElem.mp he
 have:i = j:=(List.getElem_inj (h₀:=by rw [List.length_map]; exact hi) (h₁:=by rw [List.length_map]; exact hj) h).mp (by rw [List.getElem_map,List.getElem_map]; exact q)
 subst this
 rfl
theorem Wk.hold {f:aj→aj} {P:aj→Prop} {x y:aj} {l:List aj} (k:Wk f x l y) (h0:P x) (hs:∀ d,d∈l→P d→P (f d)):∀ e∈l,P e:=by
 induction k with
 | nil _=>intro e he; cases he
 | @cons x y l k ih=>
  intro e he
  rcases List.mem_cons.mp he with z | z
  ·rw [z]; exact h0
  ·exact ih (hs x List.mem_cons_self h0) (fun d hd=>hs d (List.mem_cons_of_mem _ hd)) e z
theorem jW.all {f:aj→aj} {c:List aj} {P:aj→Prop} (h:jW f c) {d:aj} (hd:d∈c) (h0:P d) (hs:∀ e,e∈c→P e→P (f e)):∀ e∈c,P e:=by
 obtain ⟨v,pv,k⟩:=h.turn hd
 intro e he
 rcases List.mem_cons.mp (pv.mem_iff.mpr he) with z | z
 ·rw [z]; exact h0
 ·exact k.hold (hs d hd h0) (fun x hx=>hs x (pv.mem_iff.mp (List.mem_cons_of_mem _ hx))) e z
def jS (L:List (List Int)):Prop:=∀ d,Dt L d→∃ c,d∈c∧jW (nx L) c∧(c.map (·.1)).Nodup
theorem jS.ring {L:List (List Int)} {r:List Int} (s:jS L) (g:Good L r) (n:(sh 0 r).Nodup):r.Nodup:=by
 obtain ⟨c,hc,Ig,nd⟩:=s _ (g.dt 0)
 have all:∀ j,dj r j∈c:=fun j=>g.on (P:=fun d=>d∈c) (fun d _ hd=>Ig.on hd) (i:=0) hc j
 refine List.pairwise_iff_getElem.mpr fun i j hi hj Ay e=>?_
 refine iF n Ay (by omega) (fE nd (all i) (all j) ?_)
 show cy r i = cy r j
 rw [dk hi,dk hj]
 exact e
theorem jS.apart {L:List (List Int)} (s:jS L) (st:bb L) (h3:3≤L.length) {R:List (List aj)} (D:Dec L R) {a b:Int} (h:Dt L (a,b)) {c:List aj} (hc:c∈R) (h1:(a,b)∈c):(b,a)∉c:=by
 intro h2
 obtain ⟨c',qh,Ig,nd⟩:=s _ h
 have Cc:=D.hZ c hc
 have b1:(b,a)∈c':=Cc.all (P:=fun d=>d∈c') h1 qh (fun e _ he=>Ig.on he) _ h2
 have e1:nx L (a,b) = (b,a):=fE nd (Ig.on qh) b1 rfl
 have e2:nx L (b,a) = (a,b):=fE nd (Ig.on b1) qh rfl
 have all:=Cc.all (P:=fun d=>d = (a,b)∨d = (b,a)) h1 (.inl rfl) fun e _ he=>by
  rcases he with rfl | rfl
  ·exact .inr e1
  ·exact .inl e2
 have cn:c.Nodup:=(List.pairwise_flatten.mp D.nd).1 c hc
 have:=bN (r:=[(a,b),(b,a)]) cn fun x hx=>by
  rcases all x hx with z | z <;> simp [z]
 have:=st.three h3 D hc
 simp at *
 omega
def seg (r:List Int) (s m:Nat):List aj:=(List.range m).map fun t=>dj r (s + t)
theorem rP (r:List Int) (s m:Nat):seg r s (m + 1) = seg r s m ++ [dj r (s + m)]:=by
 unfold seg; rw [List.range_succ,List.map_append]; rfl
theorem ik {r:List Int} {s m:Nat} {d:aj}:d∈seg r s m↔∃ t,t < m∧d = dj r (s + t):=by
 unfold seg
 rw [List.mem_map]
 constructor
 ·rintro ⟨t,ht,e⟩; exact ⟨t,List.mem_range.mp ht,e.symm⟩
 ·rintro ⟨t,ht,e⟩; exact ⟨t,List.mem_range.mpr ht,e.symm⟩
theorem rO {f:aj→aj} {r:List Int} {s:Nat}:∀ {m:Nat},(∀ t,t + 1 < m + 1→f (dj r (s + t)) = dj r (s + t + 1))→Wk f (dj r s) (seg r s m) (dj r (s + m))
 | 0,_=>.nil _
 | m + 1,h=>by
  rw [rP]
  refine (rO (m:=m) fun t ht=>h t (by omega)).append ?_
  refine .cons ?_
  rw [h m (by omega)]
  exact .nil _
theorem oZ {f:aj→aj} {r:List Int} {s m:Nat} {y:aj} (m0:0 < m) (h:∀ t,t + 1 < m→f (dj r (s + t)) = dj r (s + t + 1)) (e:f (dj r (s + (m - 1))) = y):Wk f (dj r s) (seg r s m) y:=by
 obtain ⟨k,rfl⟩:∃ k,m = k + 1:=⟨m - 1,by omega⟩
 rw [rP]
 refine (rO (m:=k) fun t ht=>h t (by omega)).append (.cons ?_)
 rw [Nat.add_sub_cancel] at e
 rw [e]
 exact .nil _
theorem jR {r:List Int} (n:r.Nodup) {i j:Nat} (h:i < j) (h2:j < i + r.length):cy r i≠cy r j:=by
 intro z
 have r0:0 < r.length:=by omega
 have m1:=Nat.mod_lt i r0
 have m2:=Nat.mod_lt j r0
 have e1:cy r i = r[i % r.length]:=by rw [← dk m1]; exact cw (by rw [Nat.mod_mod])
 have e2:cy r j = r[j % r.length]:=by rw [← dk m2]; exact cw (by rw [Nat.mod_mod])
 rw [e1,e2] at z
 have e3:=(List.getElem_inj n).mp z
 have:=Nat.div_add_mod i r.length
 have:=Nat.div_add_mod j r.length
 have a:r.length * (i / r.length) < r.length * (j / r.length):=by omega
 have b:i / r.length + 1≤j / r.length:=Nat.lt_of_mul_lt_mul_left a
 have c:=Nat.mul_le_mul_left r.length b
 rw [Nat.mul_add,Nat.mul_one] at c
 omega
theorem Dg {r:List Int} (n:r.Nodup) (s:Nat):∀ {m:Nat},m≤r.length→((List.range m).map fun t=>cy r (s + t)).Nodup:=fun {m} hm=>by
 refine List.Pairwise.map _ (R:=fun a b=>a < b∧b < m) (fun a b h=>?_) ?_
 ·exact jR n (by omega) (by omega)
 ·refine List.Pairwise.imp_of_mem (fun {a b} ha hb h=>⟨h,List.mem_range.mp hb⟩) List.pairwise_lt_range
theorem A7 (r:List Int) (s m:Nat):(seg r s m).map (·.1) = (List.range m).map fun t=>cy r (s + t):=by
 unfold seg
 rw [List.map_map]
 rfl
theorem o3 {r:List Int} (n:r.Nodup) {s m:Nat} (h:m + 1≤r.length):(cy r (s + m) :: (seg r s m).map (·.1)).Nodup:=by
 have:=Dg n s h
 rw [List.range_succ,List.map_append,List.map_singleton] at this
 rw [A7]
 exact (List.perm_append_singleton _ _).nodup_iff.mp this
theorem seg_at {r:List Int} {s t:Nat} (h0:0 < r.length):∃ u,u < r.length∧dj r t = dj r (s + u):=by
 refine ⟨(t + s * r.length - s) % r.length,Nat.mod_lt _ h0,ck ?_⟩
 have e:s≤s * r.length:=Nat.le_mul_of_pos_right s h0
 rw [Nat.add_mod_mod,show s + (t + s * r.length - s) = t + s * r.length by omega,Nat.add_mul_mod_self_right]
end Gm
end
section
namespace Gm
open PySem L2
section
variable {L:List (List Int)} {a b:Int} {A B:List Int}
theorem bB.Bs (F:bB L a b A B) {z1 z2:Int} (h1:z1∈rowOf L a) (h2:z2∈rowOf L b) (f1:pre A z1 = b) (f2:pre B z2 = a) :
  nx (both L a b A B) (z1,a) = (a,b)∧nx (both L a b A B) (z2,b) = (b,a)∧nx (both L a b A B) (a,b) = nx L (z2,b)∧nx (both L a b A B) (b,a) = nx L (z1,a)∧
  ∀ d,Dt L d→d≠(z1,a)→d≠(z2,b)→nx (both L a b A B) d = nx L d:=by
 obtain ⟨c0,c1,c2,c3⟩:=Dt.back (d:=(a,z1)) ⟨F.a0,F.a1,h1⟩ F.map
 obtain ⟨e0,e1,e2,e3⟩:=Dt.back (d:=(b,z2)) ⟨F.b0,F.b1,h2⟩ F.map
 have d1:Dt L (z1,a):=⟨c0,c1,c3⟩
 have d2:Dt L (z2,b):=⟨e0,e1,e3⟩
 have n1:nx (both L a b A B) (z1,a) = (a,b):=by
  unfold nx; dsimp only; rw [F.row F.a0,if_neg F.ne,if_pos rfl,f1]
 have n2:nx (both L a b A B) (z2,b) = (b,a):=by
  unfold nx; dsimp only; rw [F.row F.b0,if_pos rfl,f2]
 have rn:∀ d,Dt L d→nx L d = if nx (both L a b A B) d = (b,a) then nx (both L a b A B) (a,b) else if nx (both L a b A B) d = (a,b) then nx (both L a b A B) (b,a) else nx (both L a b A B) d:=fun d hd=>by
  have:=iJ F.eJ F.dt (d:=d) (by rw [F.rem]; exact hd)
  rwa [F.rem] at this
 refine ⟨n1,n2,?_,?_,fun d hd q1 q2=>?_⟩
 ·have:=rn _ d2
  rw [if_pos n2] at this
  exact this.symm
 ·have:=rn _ d1
  rw [n1,if_neg (fun z=>F.ne (congrArg Prod.fst z)),if_pos rfl] at this
  exact this.symm
 ·have:=rn d hd
  rw [if_neg (fun z=>q2 (dA F.eJ (F.sub _ hd) (F.sub _ d2) (z.trans n2.symm))),if_neg (fun z=>q1 (dA F.eJ (F.sub _ hd) (F.sub _ d1) (z.trans n1.symm)))] at this
  exact this.symm
theorem bB.cT (F:bB L a b A B) {d:aj} (h:Dt (both L a b A B) d):Dt L d∨d = (a,b)∨d = (b,a):=by
 rcases (F.mem h.lo).mp h.mem with z | ⟨z,y⟩ | ⟨z,y⟩
 ·exact .inl ⟨h.lo,by have:=h.hi; rwa [dz] at this,z⟩
 ·exact .inr (.inl (Prod.ext z y))
 ·exact .inr (.inr (Prod.ext z y))
end
theorem jW.keep {f g:aj→aj} {c:List aj} (h:jW f c) (e:∀ d∈c,g d = f d):jW g c:=by
 obtain ⟨x,l,rfl,k⟩:=h
 exact ⟨x,l,rfl,k.congr e⟩
section
variable {L N:List (List Int)} {r:List Int}
theorem AV (m:aw L) (s:jS L) (g:Good L r) (nr:r.Nodup) (ns:(sh 0 r).Nodup) {i k:Nat} (k0:0 < k) (k1:k < r.length)
  (hd:∀ d,Dt N d→Dt L d∨d = (cy r i,cy r (i + k))∨d = (cy r (i + k),cy r i))
  (n1:nx N (dj r (i + (r.length - 1))) = (cy r i,cy r (i + k))) (n2:nx N (dj r (i + k + (r.length - 1))) = (cy r (i + k),cy r i))
  (n3:nx N (cy r i,cy r (i + k)) = dj r (i + k)) (n4:nx N (cy r (i + k),cy r i) = dj r i)
  (n5:∀ d,Dt L d→d≠dj r (i + (r.length - 1))→d≠dj r (i + k + (r.length - 1))→nx N d = nx L d):jS N:=by
 have e0:cy r (i + k + (r.length - k)) = cy r i:=cw (by rw [show i + k + (r.length - k) = i + r.length by omega,Nat.add_mod_right])
 have e1:dj r (i + k + (r.length - 1)) = dj r (i + (k - 1)):=ck (by rw [show i + k + (r.length - 1) = i + (k - 1) + r.length by omega,Nat.add_mod_right])
 have R1:jW (nx N) ((cy r i,cy r (i + k)) :: seg r (i + k) (r.length - k)):=by
  refine ⟨_,_,rfl,.cons ?_⟩
  rw [n3]
  refine oZ (by omega) (fun t ht=>?_) ?_
  ·rw [n5 _ (g.dt _) (iF ns (by omega) (by omega)) (iF ns (by omega) (by omega)),g.st]
  ·rw [show i + k + (r.length - k - 1) = i + (r.length - 1) by omega,n1]
 have R2:jW (nx N) ((cy r (i + k),cy r i) :: seg r i k):=by
  refine ⟨_,_,rfl,.cons ?_⟩
  rw [n4]
  refine oZ k0 (fun t ht=>?_) ?_
  ·rw [n5 _ (g.dt _) (iF ns (by omega) (by omega)) (by rw [e1]; exact iF ns (by omega) (by omega)),g.st]
  ·rw [← e1,n2]
 have S1:(((cy r i,cy r (i + k)) :: seg r (i + k) (r.length - k)).map (·.1)).Nodup:=by
  rw [List.map_cons]
  have:=o3 nr (s:=i + k) (m:=r.length - k) (by omega)
  rw [e0] at this
  exact this
 have S2:(((cy r (i + k),cy r i) :: seg r i k).map (·.1)).Nodup:=by
  rw [List.map_cons]
  exact o3 nr (by omega)
 have old:∀ d,Dt L d→∃ c,d∈c∧jW (nx N) c∧(c.map (·.1)).Nodup:=fun d h=>by
  by_cases q:∃ t,d = dj r t
  ·obtain ⟨t,rfl⟩:=q
   obtain ⟨u,hu,e⟩:=seg_at (r:=r) (s:=i) (t:=t) (by omega)
   rw [e]
   by_cases z:u < k
   ·exact ⟨_,List.mem_cons_of_mem _ (ik.mpr ⟨u,z,rfl⟩),R2,S2⟩
   ·exact ⟨_,List.mem_cons_of_mem _ (ik.mpr ⟨u - k,by omega,by rw [show i + k + (u - k) = i + u by omega]⟩),R1,S1⟩
  ·obtain ⟨c,hc,cc,nc⟩:=s d h
   have HZ:∀ e∈c,Dt L e:=cc.all (P:=fun e=>Dt L e) hc h fun e _ he=>he.nx m
   have no:∀ e∈c,∀ t,e≠dj r t:=fun e he t z=>q (by
    have:=cc.all (P:=fun e=>∃ t,e = dj r t) he ⟨t,z⟩ (fun x _ ⟨t,hx⟩=>⟨t + 1,by rw [hx,g.st]⟩) d hc
    exact this)
   exact ⟨c,hc,cc.keep fun e he=>n5 e (HZ e he) (no e he _) (no e he _),nc⟩
 intro d h
 rcases hd d h with z | z | z
 ·exact old d z
 ·exact ⟨_,by rw [z]; exact List.mem_cons_self,R1,S1⟩
 ·exact ⟨_,by rw [z]; exact List.mem_cons_self,R2,S2⟩
def KO (r:List Int) (n c1 cj:Nat) (d:aj):Prop:=(∃ i,cj≤i∧i < c1 + r.length∧d = dj r i)∨d = (cy r c1,(n:Int))∨d = ((n:Int),cy r cj)
def xW (L:List (List Int)) (r:List Int) (c1 cj:Nat) (M:List (List Int)):Prop:=∀ d,Dt M d→KO r L.length c1 cj d∨∃ c,d∈c∧jW (nx M) c∧(c.map (·.1)).Nodup
theorem xW.first (st:bb L) (s:jS L) (g:Good L r) (nd:(sh 0 r).Nodup) {c:Nat} (hc:c < r.length)
  (F:bB (dS L) (cy r c) (L.length:Int) (put (rowOf L (cy r c)) ((rowOf L (cy r c)).idxOf (cy r (c + (r.length - 1)))) L.length) [cy r c])
  (p:Pl L r c c [c] (both (dS L) (cy r c) (L.length:Int) (put (rowOf L (cy r c)) ((rowOf L (cy r c)).idxOf (cy r (c + (r.length - 1)))) L.length) [cy r c])) :
  xW L r c c (both (dS L) (cy r c) (L.length:Int) (put (rowOf L (cy r c)) ((rowOf L (cy r c)).idxOf (cy r (c + (r.length - 1)))) L.length) [cy r c]):=by
 generalize hM:both (dS L) (cy r c) (L.length:Int) (put (rowOf L (cy r c)) ((rowOf L (cy r c)).idxOf (cy r (c + (r.length - 1)))) L.length) [cy r c] = M at p ⊢
 have FM:aw M:=hM▸F.eJ
 have Fd:Dt M (cy r c,(L.length:Int)):=hM▸F.dt
 have Fr:rem M (cy r c) (L.length:Int) = dS L:=hM▸F.rem
 have x1:cy r c < L.length:=(cS g st.map (c:=c)).2.2.1
 have xn:cy r c≠(L.length:Int):=by omega
 have old:∀ d,Dt L d→(∀ t,d≠dj r t)→nx M d = nx L d:=fun d h q=>by
  have h0:=iJ FM Fd (d:=d) (by rw [Fr]; exact eQ.mpr h)
  rw [Fr,kM st.map h] at h0
  have dm:=p.sub d h
  have d1:=p.sub _ (g.dt (c + (r.length - 1)))
  have n1:nx M d≠(cy r c,(L.length:Int)):=fun z=>q _ (dA FM dm d1 (z.trans p.i2.symm))
  have n2:nx M d≠((L.length:Int),cy r c):=fun z=>by
   have e:=dA FM dm Fd (z.trans p.i3.symm)
   have:=(h.back st.map).2.1
   rw [e] at this
   simp at this
  rw [if_neg n2,if_neg n1] at h0
  exact h0.symm
 intro d h
 have:Dt L d∨d = (cy r c,(L.length:Int))∨d = ((L.length:Int),cy r c):=by
  rcases F.cT (hM▸h) with z | z | z
  ·exact .inl (eQ.mp z)
  ·exact .inr (.inl z)
  ·exact .inr (.inr z)
 rcases this with z | z | z
 ·by_cases q:∃ t,d = dj r t
  ·obtain ⟨t,rfl⟩:=q
   obtain ⟨u,hu,e⟩:=seg_at (r:=r) (s:=c) (t:=t) (by omega)
   exact .inl (.inl ⟨c + u,by omega,by omega,e⟩)
  ·right
   obtain ⟨k,hk,cc,nc⟩:=s d z
   have HZ:∀ e∈k,Dt L e:=cc.all (P:=fun e=>Dt L e) hk z fun e _ he=>he.nx st.map
   have no:∀ e∈k,∀ t,e≠dj r t:=fun e he t w=>q (cc.all (P:=fun e=>∃ t,e = dj r t) he ⟨t,w⟩ (fun x _ ⟨t,hx⟩=>⟨t + 1,by rw [hx,g.st]⟩) d hk)
   exact ⟨k,hk,cc.keep fun e he=>old e (HZ e he) (no e he),nc⟩
 ·exact .inl (.inr (.inl z))
 ·exact .inl (.inr (.inr z))
theorem sR (g:Good L r) (i:Nat):cy r i < L.length:=(g.dt i).hi
theorem xW.next {M:List (List Int)} {c1 cj c:Nat} {dn:List Nat} (st:bb L) (g:Good L r) (nr:r.Nodup) (nd:(Gm.sh 0 r).Nodup) (p:Pl L r c1 cj dn M) (s:xW L r c1 cj M) (hc:cj < c) (Oi:c < r.length)
  (F:bB M (cy r c) (L.length:Int) (put (rowOf L (cy r c)) ((rowOf L (cy r c)).idxOf (cy r (c + (r.length - 1)))) L.length) (rowOf M (L.length:Int) ++ [cy r c])) (un:∀ e∈dn,cy r e≠cy r c) :
  xW L r c1 c (both M (cy r c) (L.length:Int) (put (rowOf L (cy r c)) ((rowOf L (cy r c)).idxOf (cy r (c + (r.length - 1)))) L.length) (rowOf M (L.length:Int) ++ [cy r c])):=by
 have le:=p.le
 obtain ⟨z1,x0,x1,ed⟩:=cS g st.map (c:=c)
 have rx:=p.keep (cy r c) x0 x1 un
 have nn:=lQ st.map x0 x1
 obtain ⟨rest,WI⟩:=p.hd
 have tP:rowOf M (L.length:Int) = cy r c1 :: rest.map (cy r):=by rw [p.new,WI]; rfl
 have Ks:pre (put (rowOf L (cy r c)) ((rowOf L (cy r c)).idxOf (cy r (c + (r.length - 1)))) L.length) (cy r (c + (r.length - 1))) = (L.length:Int):=ft z1 nn
 have Kg:pre (rowOf M (L.length:Int) ++ [cy r c]) (cy r c1) = cy r c:=by rw [tP]; exact rW
 obtain ⟨m1,m2,m3,m4,m5⟩:=F.Bs (z1:=cy r (c + (r.length - 1))) (z2:=cy r c1) (by rw [rx]; exact z1) (by rw [tP]; exact List.mem_cons_self) Ks Kg
 have cT:=fun d=>F.cT (d:=d)
 have e1:dj r (c + (r.length - 1)) = dj r (c - 1):=ck (by rw [show c + (r.length - 1) = c - 1 + r.length by omega,Nat.add_mod_right])
 rw [← ed,e1] at m1 m4 m5
 rw [p.i3] at m3
 rw [p.i1 (c - 1) (by omega) (by omega),show c - 1 + 1 = c by omega] at m4
 generalize both M (cy r c) (L.length:Int) (put (rowOf L (cy r c)) ((rowOf L (cy r c)).idxOf (cy r (c + (r.length - 1)))) L.length) (rowOf M (L.length:Int) ++ [cy r c]) = N at m1 m2 m3 m4 m5 cT ⊢
 have sub:=p.sub
 have n4:nx N ((L.length:Int),cy r cj) = dj r cj:=by
  rw [m5 _ ?_ (fun z=>?_) (fun z=>?_),p.i4]
  ·have:=(p.sh.map |> fun m=>(Dt.nx (L:=M) (d:=(cy r c1,(L.length:Int))) ?_ m))
   ·rw [p.i3] at this; exact this
   ·have:=Dt.back (d:=((L.length:Int),cy r c1)) ⟨by simp,by rw [p.len]; simp; omega,by rw [tP]; exact List.mem_cons_self⟩ p.sh.map
    exact ⟨this.1,this.2.1,this.2.2.2⟩
  ·have:=congrArg Prod.fst z
   have q:(L.length:Int) = cy r (c - 1):=this
   have:=sR g (c - 1)
   omega
  ·have:=congrArg Prod.fst z
   have q:(L.length:Int) = cy r c1:=this
   have:=sR g c1
   omega
 have R:jW (nx N) ((cy r c,(L.length:Int)) :: ((L.length:Int),cy r cj) :: seg r cj (c - cj)):=by
  refine ⟨_,_,rfl,.cons ?_⟩
  rw [m3]
  refine .cons ?_
  rw [n4]
  refine oZ (by omega) (fun t ht=>?_) ?_
  ·rw [m5 _ (sub _ (g.dt _)) (iF nd (by omega) (by omega)) (fun z=>?_),p.i1 _ (by omega) (by omega)]
   have q:=(g.dt (cj + t)).back st.map
   rw [z] at q
   simp at q
  ·rw [show cj + (c - cj - 1) = c - 1 by omega,m1]
 have S:(((cy r c,(L.length:Int)) :: ((L.length:Int),cy r cj) :: seg r cj (c - cj)).map (·.1)).Nodup:=by
  have a:=o3 nr (s:=cj) (m:=c - cj) (by omega)
  rw [show cj + (c - cj) = c by omega,List.nodup_cons] at a
  have ln:∀ x∈(seg r cj (c - cj)).map (·.1),x≠(L.length:Int):=fun x hx=>by
   obtain ⟨d,hd,rfl⟩:=List.mem_map.mp hx
   obtain ⟨t,_,rfl⟩:=ik.mp hd
   have:cy r (cj + t) < L.length:=sR g _
   show cy r (cj + t)≠_
   omega
  rw [List.map_cons,List.map_cons,List.nodup_cons,List.nodup_cons]
  refine ⟨fun z=>?_,fun z=>ln _ z rfl,a.2⟩
  rcases List.mem_cons.mp z with z | z
  ·have z':cy r c = (L.length:Int):=z
   omega
  ·exact a.1 z
 intro d h
 by_cases q:KO r L.length c1 cj d
 ·rcases q with ⟨i,i0,i1,rfl⟩ | rfl | rfl
  ·by_cases z:i < c
   ·exact .inr ⟨_,List.mem_cons_of_mem _ (List.mem_cons_of_mem _ (ik.mpr ⟨i - cj,by omega,by rw [show cj + (i - cj) = i by omega]⟩)),R,S⟩
   ·exact .inl (.inl ⟨i,by omega,i1,rfl⟩)
  ·exact .inl (.inr (.inl rfl))
  ·exact .inr ⟨_,List.mem_cons_of_mem _ List.mem_cons_self,R,S⟩
 ·rcases cT d h with z | z | z
  ·rcases s d z with w | ⟨k,hk,cc,nc⟩
   ·exact absurd w q
   ·right
    have HZ:∀ e∈k,Dt M e:=cc.all (P:=fun e=>Dt M e) hk z fun e _ he=>he.nx p.sh.map
    have no:∀ e∈k,¬ KO r L.length c1 cj e:=fun e he w=>q (cc.all (P:=fun e=>KO r L.length c1 cj e) he w (fun x _ hx=>by
     rcases hx with ⟨i,i0,i1,rfl⟩ | rfl | rfl
     ·by_cases y:i + 1 < c1 + r.length
      ·rw [p.i1 i i0 y]; exact .inl ⟨i + 1,by omega,y,rfl⟩
      ·rw [show i = c1 + (r.length - 1) by omega,p.i2]; exact .inr (.inl rfl)
     ·rw [p.i3]; exact .inr (.inr rfl)
     ·rw [p.i4]; exact .inl ⟨cj,Nat.le_refl _,by omega,rfl⟩) d hk)
    exact ⟨k,hk,cc.keep fun e he=>m5 e (HZ e he) (fun z=>no e he (.inl ⟨c - 1,by omega,by omega,z⟩)) (fun z=>no e he (.inr (.inl z))),nc⟩
  ·exact .inr ⟨_,by rw [z]; exact List.mem_cons_self,R,S⟩
  ·exact .inl (.inr (.inr z))
theorem xW.done {M:List (List Int)} {c1 cj:Nat} {dn:List Nat} (g:Good L r) (nr:r.Nodup) (p:Pl L r c1 cj dn M) (s:xW L r c1 cj M) (h:c1 < cj):jS M:=by
 have top:=p.top
 have R:jW (nx M) ((cy r c1,(L.length:Int)) :: ((L.length:Int),cy r cj) :: seg r cj (c1 + r.length - cj)):=by
  refine ⟨_,_,rfl,.cons ?_⟩
  rw [p.i3]
  refine .cons ?_
  rw [p.i4]
  refine oZ (by omega) (fun t ht=>p.i1 _ (by omega) (by omega)) ?_
  rw [show cj + (c1 + r.length - cj - 1) = c1 + (r.length - 1) by omega,p.i2]
 have S:(((cy r c1,(L.length:Int)) :: ((L.length:Int),cy r cj) :: seg r cj (c1 + r.length - cj)).map (·.1)).Nodup:=by
  have a:=o3 nr (s:=cj) (m:=c1 + r.length - cj) (by omega)
  have e:cy r (cj + (c1 + r.length - cj)) = cy r c1:=cw (by rw [show cj + (c1 + r.length - cj) = c1 + r.length by omega,Nat.add_mod_right])
  rw [e,List.nodup_cons] at a
  have ln:∀ x∈(seg r cj (c1 + r.length - cj)).map (·.1),x≠(L.length:Int):=fun x hx=>by
   obtain ⟨d,hd,rfl⟩:=List.mem_map.mp hx
   obtain ⟨t,_,rfl⟩:=ik.mp hd
   have:cy r (cj + t) < L.length:=sR g _
   show cy r (cj + t)≠_
   omega
  rw [List.map_cons,List.map_cons,List.nodup_cons,List.nodup_cons]
  refine ⟨fun z=>?_,fun z=>ln _ z rfl,a.2⟩
  rcases List.mem_cons.mp z with z | z
  ·have z':cy r c1 = (L.length:Int):=z
   have:=sR g c1
   omega
  ·exact a.1 z
 intro d hd
 rcases s d hd with (⟨i,i0,i1,rfl⟩ | rfl | rfl) | w
 ·exact ⟨_,List.mem_cons_of_mem _ (List.mem_cons_of_mem _ (ik.mpr ⟨i - cj,by omega,by rw [show cj + (i - cj) = i by omega]⟩)),R,S⟩
 ·exact ⟨_,List.mem_cons_self,R,S⟩
 ·exact ⟨_,List.mem_cons_of_mem _ List.mem_cons_self,R,S⟩
 ·exact w
end
end Gm
end
section
namespace Gm
open PySem L2
theorem aW.map {a b:List Int} (h:aW a b) (f:Int→Int):aW (a.map f) (b.map f):=by
 rcases h with rfl | ⟨c,hc,rfl⟩
 ·exact .inl rfl
 ·exact .inr ⟨c,by rw [List.length_map]; exact hc,by unfold bM; rw [List.map_append,List.map_drop,List.map_take]⟩
theorem Lay.back {A B:List (List Int)} {f:Int→Int} (h:Lay A B f) (mA:aw A) (mB:aw B) (n0:0 < A.length) (hB:mP B):∃ g,Lay B A g:=by
 have r0:=h.rg 0 (Int.le_refl 0) (by omega)
 have on:=h.yO mA mB n0 (hB.from mB r0.1 r0.2)
 have nd:=h.nodup mA mB n0 (hB.from mB r0.1 r0.2)
 have inj:∀ i j:Int,0≤i→i < A.length→0≤j→j < A.length→f i = f j→i = j:=fun i j i0 i1 j0 j1 e=>by
  have tj:nI A.length ((aT A.length).map f):=⟨by rw [List.length_map,bh],nd,fun x hx=>by
   obtain ⟨k,hk,rfl⟩:=List.mem_map.mp hx
   have rk:=aV.mp hk
   rw [h.len]
   exact h.rg k rk.1 rk.2⟩
  exact tj.inj i0 i1 j0 j1 (by rw [pR i0 i1,pR j0 j1]; exact e)
 have ex:∀ y:Int,∃ i:Int,0≤y→y < B.length→0≤i∧i < A.length∧f i = y:=fun y=>by
  by_cases q:0≤y∧y < B.length
  ·obtain ⟨i,hi⟩:=on y q.1 q.2
   exact ⟨i,fun _ _=>hi⟩
  ·exact ⟨0,fun a b=>absurd ⟨a,b⟩ q⟩
 let g:Int→Int:=fun y=>Classical.choose (ex y)
 have hg:∀ y:Int,0≤y→y < B.length→0≤g y∧g y < A.length∧f (g y) = y:=fun y=>Classical.choose_spec (ex y)
 have gf:∀ i:Int,0≤i→i < A.length→g (f i) = i:=fun i i0 i1=>by
  have r:=h.rg i i0 i1
  have q:=hg _ r.1 r.2
  exact inj _ _ q.1 q.2.1 i0 i1 q.2.2
 refine ⟨g,h.len.symm,fun y y0 y1=>⟨(hg y y0 y1).1,(hg y y0 y1).2.1⟩,fun y y0 y1=>?_⟩
 have q:=hg y y0 y1
 have r:=(h.row (g y) q.1 q.2.1).symm.map g
 rw [q.2.2] at r
 have e:((rowOf A (g y)).map f).map g = rowOf A (g y):=by
  rw [List.map_map]
  refine (List.map_congr_left fun x hx=>?_).trans (List.map_id _)
  have b:=Dt.back (L:=A) (d:=(g y,x)) ⟨q.1,q.2.1,hx⟩ mA
  exact gf x b.1 b.2.1
 rw [e] at r
 exact r
theorem bb.zH {L:List (List Int)} (s:bb L):mP L:=fun x x0 x1=>by
 obtain ⟨t,ht,r⟩:=s.span x x0 x1
 rw [List.mem_singleton.mp ht] at r
 exact r
theorem Lay.tj {A B:List (List Int)} {f:Int→Int} (h:Lay A B f) (mA:aw A) (mB:aw B) (n0:0 < A.length) (hB:mP B):nI A.length ((aT A.length).map f):=by
 have r0:=h.rg 0 (Int.le_refl 0) (by omega)
 exact ⟨by rw [List.length_map,bh],h.nodup mA mB n0 (hB.from mB r0.1 r0.2),fun x hx=>by
  obtain ⟨k,hk,rfl⟩:=List.mem_map.mp hx
  have rk:=aV.mp hk
  rw [h.len]
  exact h.rg k rk.1 rk.2⟩
theorem y8:∀ {l r:List Int},l.Pairwise (· < ·)→r.Pairwise (· < ·)→(∀ x,x∈l↔x∈r)→l = r
 | [],[],_,_,_=>rfl
 | [],b :: r,_,_,h=>absurd ((h b).mpr List.mem_cons_self) (by simp)
 | a :: l,[],_,_,h=>absurd ((h a).mp List.mem_cons_self) (by simp)
 | a :: l,b :: r,hl,hr,h=>by
  obtain ⟨l1,l2⟩:=List.pairwise_cons.mp hl
  obtain ⟨r1,r2⟩:=List.pairwise_cons.mp hr
  have e:a = b:=by
   rcases List.mem_cons.mp ((h a).mp List.mem_cons_self) with z | z
   ·exact z
   ·rcases List.mem_cons.mp ((h b).mpr List.mem_cons_self) with y | y
    ·exact y.symm
    ·have:=l1 b y; have:=r1 a z; omega
  subst e
  congr 1
  refine y8 l2 r2 fun x=>⟨fun z=>?_,fun z=>?_⟩
  ·rcases List.mem_cons.mp ((h x).mp (List.mem_cons_of_mem _ z)) with y | y
   ·have:=l1 x z; omega
   ·exact y
  ·rcases List.mem_cons.mp ((h x).mpr (List.mem_cons_of_mem _ z)) with y | y
   ·have:=r1 x z; omega
   ·exact y
theorem nI.sorted {n:Nat} {l s:List Int} (h:nI n l) (p:s.Perm l) (o:s.Pairwise (·≤·)):s = aT n:=
 y8 (strict o (p.nodup_iff.mpr h.nd)) (uR n) fun x=>by
  rw [p.mem_iff,aV]
  exact ⟨fun z=>h.rg x z,fun z=>h.all z.1 z.2⟩
def tetra:List (List Int):=[[1,3,2],[2,3,0],[0,3,1],[2,0,1]]
theorem tetra_dts:cT tetra 4 = [(0,1),(0,3),(0,2),(1,2),(1,3),(1,0),(2,0),(2,3),(2,1),(3,2),(3,0),(3,1)]:=rfl
theorem tetra_map:aw tetra:=by
 refine hW fun x x0 x1=>?_
 have x1:x < 4:=x1
 have:x = 0∨x = 1∨x = 2∨x = 3:=by omega
 rcases this with rfl | rfl | rfl | rfl
 ·refine ⟨by decide,fun y hy=>?_⟩
  have hy:y∈([1,3,2]:List Int):=hy
  simp at hy
  rcases hy with rfl | rfl | rfl <;> decide
 ·refine ⟨by decide,fun y hy=>?_⟩
  have hy:y∈([2,3,0]:List Int):=hy
  simp at hy
  rcases hy with rfl | rfl | rfl <;> decide
 ·refine ⟨by decide,fun y hy=>?_⟩
  have hy:y∈([0,3,1]:List Int):=hy
  simp at hy
  rcases hy with rfl | rfl | rfl <;> decide
 ·refine ⟨by decide,fun y hy=>?_⟩
  have hy:y∈([2,0,1]:List Int):=hy
  simp at hy
  rcases hy with rfl | rfl | rfl <;> decide
def tetraR:List (List aj):=[[(0,1),(1,3),(3,0)],[(0,3),(3,2),(2,0)],[(0,2),(2,1),(1,0)],[(1,2),(2,3),(3,1)]]
theorem tetra_cyc:∀ c∈tetraR,jW (nx tetra) c∧(c.map (·.1)).Nodup:=fun c hc=>by
 unfold tetraR at hc
 simp only [List.mem_cons,List.not_mem_nil,or_false] at hc
 rcases hc with rfl | rfl | rfl | rfl
 ·exact ⟨⟨(0,1),_,rfl,.cons (.cons (.cons (.nil _)))⟩,by decide⟩
 ·exact ⟨⟨(0,3),_,rfl,.cons (.cons (.cons (.nil _)))⟩,by decide⟩
 ·exact ⟨⟨(0,2),_,rfl,.cons (.cons (.cons (.nil _)))⟩,by decide⟩
 ·exact ⟨⟨(1,2),_,rfl,.cons (.cons (.cons (.nil _)))⟩,by decide⟩
theorem tetra_mem (d:aj):d∈tetraR.flatten↔Dt tetra d:=by
 have e:d∈cT tetra 4↔Dt tetra d:=⟨fun h=>Dt.of h,fun h=>h.all⟩
 rw [← e,tetra_dts]
 have:tetraR.flatten.Perm [(0,1),(0,3),(0,2),(1,2),(1,3),(1,0),(2,0),(2,3),(2,1),(3,2),(3,0),(3,1)]:=by decide
 exact this.mem_iff
theorem tetra_sheet:bb tetra:=by
 refine ⟨tetra_map,by decide,fun x x0 x1=>?_,tetraR,⟨fun c hc=>(tetra_cyc c hc).1,by decide,tetra_mem⟩,by decide⟩
 have x1:x < 4:=x1
 have ms:∀ y:Int,(0,y)∈cT tetra 4→Reach tetra 0 y:=fun y hy=>Reach.one (d:=(0,y)) .here (Dt.of hy)
 have:x = 0∨x = 1∨x = 2∨x = 3:=by omega
 rcases this with rfl | rfl | rfl | rfl
 ·exact ⟨0,by simp,.here⟩
 ·exact ⟨0,by simp,ms 1 (by rw [tetra_dts]; decide)⟩
 ·exact ⟨0,by simp,ms 2 (by rw [tetra_dts]; decide)⟩
 ·exact ⟨0,by simp,ms 3 (by rw [tetra_dts]; decide)⟩
theorem tetra_smp:jS tetra:=fun d hd=>by
 obtain ⟨c,hc,h⟩:=List.mem_flatten.mp ((tetra_mem d).mpr hd)
 exact ⟨c,h,tetra_cyc c hc⟩
end Gm
end
section
namespace Gm
open PySem L2
abbrev Tp:Str:=((" " : String):Str)
abbrev To:Str:=((":" : String):Str)
abbrev Tq:Str:=(("\n" : String):Str)
abbrev t0:Str:=(("" : String):Str)
def LB (k:Int) (l:List Int):Str:=Str.join Tp ((num k ++ To) :: l.map num)
def Gi (L:List (List Int)):List Str:=L.mapIdx fun i l=>LB ((i:Nat):Int) l
def Vp (L:List (List Int)):Str:=Str.join Tq (Gi L)
def Yr (l:List Int):Prop:=l.length≤14∧∀ x∈l,0≤x∧x < 14
structure Sm (L:List (List Int)):Prop where
 len:L.length≤14
 xS:∀ l∈L,Yr l
def mn (l:List Int):Int:=l.min?.getD 0
def lb (l:List Int):List Int:=bM l (l.idxOf (mn l))
end Gm
end
section
namespace L2
open PySem PySem.Spec PySem.W PySem.Calls PyProof.Rows Gm
theorem E1:bootBuiltins "all" = some (.builtin "all"):=by decide +kernel
end L2
end
section
namespace L2
open PySem PySem.Spec PySem.W PySem.Calls PyProof.Rows Gm
def ZH (A:List (List Int)) (l:List Int):PyData:=.list [zW A,fF l]
end L2
end
section
namespace L2
open PySem PySem.Spec PySem.W PySem.Calls PyProof.Rows Gm
section
variable {X:Cx}
noncomputable def AD (H:Hp) (l:List Int):Value→Bool:=fun v=>match v with | .ref b=>@decide (H b = some (.lst (l.map V.int))) (Classical.propDecidable _) | _=>false
theorem vS:∀ {a b:List Int},a.map V.int = b.map V.int→a = b
 | [],[],_=>rfl
 | [],_ :: _,h=>by simp at h
 | _ :: _,[],h=>by simp at h
 | x :: a,y :: b,h=>by
  rw [List.map_cons,List.map_cons] at h
  injection h with h1 h2
  injection h1 with h1
  rw [h1,vS h2]
theorem zN {H:Hp} {l r:List Int} {b:Addr} (h:H b = some (.lst (r.map V.int))):AD H l (.ref b) = decide (r = l):=by
 show @decide (H b = some (.lst (l.map V.int))) (Classical.propDecidable _) = _
 by_cases q:r = l
 ·subst q
  rw [@decide_eq_true _ (Classical.propDecidable _) h,decide_eq_true rfl]
 ·refine (@decide_eq_false _ (Classical.propDecidable _) ?_).trans (decide_eq_false q).symm
  intro w
  rw [h] at w
  injection w with w
  injection w with w
  exact q (vS w)
theorem oC {pins:List (Addr×Obj)} {σ : St} {H:Hp} {s:Shared} (I:Inv X pins σ H s) (hu:X.A.units + 64 < cLine) {a t:Addr} {bs:List Addr} {R:List (List Int)} {l:List Int} (ha:H a = some (.lst (l.map V.int))) (g:aQ H t bs R) {aL:List Value} (rv:Vals (bs.map V.ref) aL) :
  (∀ (j:Nat) (hj:j < aL.length),∃ (r:List Int),R[j]? = some r∧AD H l aL[j] = decide (r = l))∧∀ y∈aL,SeqAt.EqAt X.A.in1 s y (.ref a) (AD H l y):=by
 have at_:∀ (j:Nat) (hj:j < aL.length),∃ (b:Addr) (r:List Int),aL[j] = .ref b∧R[j]? = some r∧H b = some (.lst (r.map V.int)):=fun j hj=>by
  have hl:=rv.length
  rw [List.length_map] at hl
  obtain ⟨b,r,hb,hr,bO⟩:=g.at (i:=j) (by rw [← g.len]; omega)
  have:∀ {xs:List V} {us:List Value} (_:Vals xs us) (j:Nat) (b:Addr),xs[j]? = some (V.ref b)→us[j]? = some (.ref b):=by
   intro xs us h
   induction h with
   | nil=>intro j b z; simp at z
   | cons r _ ih=>
    intro j b z
    cases j with
    | zero=>simp at z; subst z; cases r; rfl
    | succ j=>exact ih j b (by simpa using z)
  have e:=this rv j b (by rw [List.getElem?_map,hb]; rfl)
  exact ⟨b,r,(List.getElem?_eq_some_iff.mp e).2,hr,bO⟩
 refine ⟨fun j hj=>?_,fun y hy=>?_⟩
 ·obtain ⟨b,r,e,hr,bO⟩:=at_ j hj
  exact ⟨r,hr,by rw [e]; exact zN bO⟩
 ·obtain ⟨j,hj,rfl⟩:=List.mem_iff_getElem.mp hy
  obtain ⟨b,r,e,hr,bO⟩:=at_ j hj
  rw [e,zN bO,← qv]
  obtain ⟨ZJ,r1⟩:=tJ.reads I (ie bO) (show RelV (V.ref b) (.ref b) from rfl)
  obtain ⟨ZI,r2⟩:=tJ.reads I (ie ha) (show RelV (V.ref a) (.ref a) from rfl)
  have d1:(fF r).depth≤1:=by unfold fF; simp [PyData.depth,(lay_ints r).2]
  exact SeqAt.eqAt_reads _ _ _ _ _ _ _ _ r1 r2 (SeqAt.canLay_of_shaped (Gm.shaped_ints _)) (SeqAt.canLay_of_shaped (Gm.shaped_ints _)) (by simp only [Around.in1_units]; omega)
def LO (neg:Bool):R2:=fun x y H Q=>∃ (a t:Addr) (bs:List Addr) (R:List (List Int)) (l:List Int),x = .ref a∧y = .ref t∧H a = some (.lst (l.map V.int))∧aQ H t bs R∧Q (.bl (if neg then !decide (l∈R) else decide (l∈R))) H
theorem IK {R:List (List Int)} {l:List Int} {aL:List Value} {H:Hp} (hl:aL.length = R.length) (h:∀ (j:Nat) (hj:j < aL.length),∃ (r:List Int),R[j]? = some r∧AD H l aL[j] = decide (r = l)):aL.toArray.any (AD H l) = decide (l∈R):=by
 rw [Bool.eq_iff_iff,decide_eq_true_iff]
 simp only [List.any_toArray,List.any_eq_true]
 constructor
 ·rintro ⟨y,hy,e⟩
  obtain ⟨j,hj,rfl⟩:=List.mem_iff_getElem.mp hy
  obtain ⟨r,hr,e2⟩:=h j hj
  rw [e2] at e
  rw [← of_decide_eq_true e]
  exact List.mem_of_getElem? hr
 ·intro hm
  obtain ⟨j,hj⟩:=List.mem_iff_getElem?.mp hm
  have jl:=(List.getElem?_eq_some_iff.mp hj).1
  obtain ⟨r,hr,e2⟩:=h j (by omega)
  rw [hj] at hr
  cases hr
  exact ⟨aL[j]'(by omega),List.getElem_mem _,by rw [e2]; exact decide_eq_true rfl⟩
theorem wQ (hu:X.A.units + 64 < cLine):jT X (compareOp .NotIn) (LO true):=by
 intro pins s σ H x y v u Q I rx ry h
 obtain ⟨a,t,bs,R,l,rfl,rfl,ha,g,q⟩:=h
 cases rx
 cases ry
 obtain ⟨z,aL,n,r,_,e⟩:=I.nj g.top
 obtain ⟨k1,k2⟩:=oC I hu ha g r
 have hl:=r.length
 rw [List.length_map,g.len] at hl
 refine SeqAt.notIn_listAt (AD H l) ⟨_,e,rfl,n,rfl⟩ (fun y hy=>k2 y (by simpa using hy)) ⟨.bl (!decide (l∈R)),H,I,?_,q⟩
 show Value.bool (!aL.toArray.any (AD H l)) = Value.bool (!decide (l∈R))
 rw [IK hl.symm k1]
def Bj:V→List V→Hp→VK→Prop:=fun x vs H Q=>∃ (a t:Addr) (bs:List Addr) (R:List (List Int)) (l:List Int),x = .ref t∧vs = [.ref a]∧H a = some (.lst (l.map V.int))∧aQ H t bs R∧l∈R∧Q (.int (R.idxOf l:Nat)) H
theorem ma:∀ (R:List (List Int)) (l:List Int) (m:Nat),m < R.idxOf l→R[m]?≠some l
 | [],_,_,h=>by simp at h
 | r :: R,l,m,h=>by
  rw [List.idxOf_cons] at h
  cases e:r == l with
  | true=>rw [e] at h; simp at h
  | false=>
   rw [e] at h
   cases m with
   | zero=>intro z; simp at z; rw [z] at e; simp at e
   | succ m=>simpa using ma R l m (by simpa using h)
theorem wZ (hu:X.A.units + 64 < cLine):FK X "list.index" Bj:=by
 intro pins s σ H x vs v us Q I rx rv h
 obtain ⟨a,t,bs,R,l,rfl,rfl,ha,g,hm,q⟩:=h
 cases rx
 obtain ⟨u,rfl,ru⟩:=vals1 rv
 cases ru
 obtain ⟨z,aL,n,r,_,e⟩:=I.nj g.top
 obtain ⟨k1,k2⟩:=oC I hu ha g r
 have hl:=r.length
 rw [List.length_map,g.len] at hl
 have RV:=gZ
 have hj:R.idxOf l < R.length:=List.idxOf_lt_length_of_mem hm
 rw [List.length_map,g.len] at z
 refine call_meets F.slot_list_index ⟨_,e,rfl⟩ F.entry_list_index (F.args_list_index_2 _ _) (SeqAt.list_indexAt t aL.toArray n none #[] (.ref a) (AD H l) (R.idxOf l) (by rw [List.size_toArray]; omega) (by omega) ?_ ?_) ⟨e,?_,?_⟩
 ·obtain ⟨r',hr,e2⟩:=k1 (R.idxOf l) (by omega)
  show AD H l aL[R.idxOf l] = true
  rw [e2]
  rw [List.getElem?_eq_getElem hj,List.getElem_idxOf hj] at hr
  cases hr
  exact decide_eq_true rfl
 ·intro m vU eG
  obtain ⟨r',hr,e2⟩:=k1 m (by simpa using vU)
  show AD H l (aL[m]'(by simpa using vU)) = false
  rw [e2]
  exact decide_eq_false fun w=>ma R l m eG (by rw [hr,w])
 ·intro y hy
  exact k2 y (by simpa using hy)
 ·exact ⟨.int (R.idxOf l:Nat),H,I.tok _,⟨_,rfl⟩,q⟩
end
end L2
end
section
namespace L2
open PySem PySem.Spec PySem.W PySem.Calls PyProof.Rows HT
theorem yt (A:Around) (s:Shared) (a:Int) (t:Tok) (c:Int) (u:Tok) (prog:Program) (w:World) (E:Value→Shared→Prop) (Q:Value→Shared→Prop) (h:Q (.bool (decide (a≤c))) s) :
  wpAny (model prog w) A (richCompare .LtE (.int a t) (.int c u)) Q E s:=
 (PyProof.Rows.le_int h:wpAny (model prog w) A (compareOp .LtE (.int a t) (.int c u)) Q E s)
section
open PySem.SeqAt
open PySem.AutoSeq1 (wpAny_loadPart')
open PySem.MeetsSeq PySem.MeetsSeq2 PySem.MeetsSeq3
theorem BD (l b:Addr) (us vs:Array Value) (n1 n2:Nat) (d1 d2:Option Addr) (s1 s2:Array (Option Value)) (ns ms:List Int) (hi:IntsAre us.toList ns) (hj:IntsAre vs.toList ms) (k:Nat) :
  ∀ i:Nat,us.size - i = k→i≤ns.length→i≤ms.length→Meets (Builtin.«list.__eq__.loop» ⟨[.ref l,.ref b,rawInt i,rawInt 1],[]⟩)
   (fun A R s=>s.heap.get? l = some { cls:=.type "list",dict:=d1,data:=.seq us n1,slots:=s1 }∧
    s.heap.get? b = some { cls:=.type "list",dict:=d2,data:=.seq vs n2,slots:=s2 }∧R (.ok (.ret (.bool (!lexLt (ms.drop i) (ns.drop i))))) s):=by
 have z1:us.size = ns.length:=by rw [← hi.length]; simp
 have z2:vs.size = ms.length:=by rw [← hj.length]; simp
 have stop:∀ i,i≤ns.length→i≤ms.length→¬ (i < ns.length∧i < ms.length)→(!lexLt (ms.drop i) (ns.drop i)) = decide (us.size≤vs.size):=fun i h1 h2 h3=>by
  by_cases q:i < ns.length
  ·have q2:ms.drop i = []:=List.drop_eq_nil_of_le (by omega)
   rw [q2,List.drop_eq_getElem_cons q,hJ]
   exact (decide_eq_false (by omega)).symm
  ·have q2:ns.drop i = []:=List.drop_eq_nil_of_le (by omega)
   rw [q2]
   by_cases q3:i < ms.length
   ·rw [List.drop_eq_getElem_cons q3,hU]
    exact (decide_eq_true (by omega)).symm
   ·rw [List.drop_eq_nil_of_le (by omega),iB]
    exact (decide_eq_true (by omega)).symm
 have ends:∀ i,i≤ns.length→i≤ms.length→¬ (i < ns.length∧i < ms.length)→Meets (Builtin.«list.__eq__.loop» ⟨[.ref l,.ref b,rawInt i,rawInt 1],[]⟩)
   (fun A R s=>s.heap.get? l = some { cls:=.type "list",dict:=d1,data:=.seq us n1,slots:=s1 }∧
    s.heap.get? b = some { cls:=.type "list",dict:=d2,data:=.seq vs n2,slots:=s2 }∧R (.ok (.ret (.bool (!lexLt (ms.drop i) (ns.drop i))))) s):=by
  intro i h1 h2 h3 prog w A R s h
  have e:=stop i h1 h2 h3
  obtain ⟨hp,g,d,tk,os⟩:=s; obtain ⟨hl,hb,h⟩:=h
  rw [e] at h
  wp_walk using wpAny_loadPart' hb,wpAny_loadPart' hl
  by_cases q:i < us.size
  ·have x1:us[((i:Nat):Int).toNat]? = some us[i]:=by simp [q]
   have x2:vs[((i:Nat):Int).toNat]? = none:=by simp; omega
   rw [x1,x2]
   wp_walk using wpAny_loadPart' hb,wpAny_loadPart' hl
   exact h
  ·have x1:us[((i:Nat):Int).toNat]? = none:=by simp; omega
   rw [x1]
   wp_walk using wpAny_loadPart' hb,wpAny_loadPart' hl
   exact h
 induction k with
 | zero=>exact fun i hk h1 h2=>ends i h1 h2 (by omega)
 | succ k ih=>
  intro i hk h1 h2
  by_cases BU:i < ms.length
  ·have EK:i < ns.length:=by omega
   intro prog w A R s h
   obtain ⟨hp,g,d,tk,os⟩:=s; obtain ⟨hl,hb,h⟩:=h
   obtain ⟨t1,e1⟩:=ju hi EK
   obtain ⟨t2,e2⟩:=ju hj BU
   have x1:us[((i:Nat):Int).toNat]? = some (.int ns[i] t1):=by simpa using e1
   have x2:vs[((i:Nat):Int).toNat]? = some (.int ms[i] t2):=by simpa using e2
   rw [List.drop_eq_getElem_cons EK,List.drop_eq_getElem_cons BU,dC] at h
   wp_walk using wpAny_loadPart' hb,wpAny_loadPart' hl
   rw [x1,x2]
   obtain ⟨e,he,zC⟩:=sO A.in1 ⟨hp,g,d,tk,os⟩ ns[i] t1 ms[i] t2
   refine wpAny_bind (he prog w _ _ ?_)
   have Oj:((i:Int) + 1) = ((i + 1:Nat):Int):=by omega
   cases e with
   | true=>
    rw [if_pos (zC.mp rfl).symm] at h
    wp_walk
    rw [Oj]
    refine ⟨plainId_quiet plain_eq_loop _,codeAny_builtin entry_eq_loop ?_⟩
    rw [Around.under_plainId plain_eq_loop _]
    exact ih (i + 1) (by omega) (by omega) (by omega) prog w A R _ ⟨hl,hb,h⟩
   | false=>
    rw [if_neg (fun q=>absurd (zC.mpr q.symm) Bool.false_ne_true)] at h
    have nb:(!decide (ms[i] < ns[i])) = decide (ns[i]≤ms[i]):=by
     by_cases z:ms[i] < ns[i]
     ·rw [decide_eq_true z,decide_eq_false (by omega)]; rfl
     ·rw [decide_eq_false z,decide_eq_true (by omega)]; rfl
    rw [nb] at h
    wp_walk using wpAny_loadPart' hb,wpAny_loadPart' hl
    rw [x1,x2]
    have NP:=yt A.in1 ⟨hp,g,d,tk,os⟩ ns[i] t1 ms[i] t2 prog w
    wp_walk using NP
    exact h
  ·exact ends i h1 h2 (by omega)
theorem pY (l b:Addr) (us vs:Array Value) (n1 n2:Nat) (d1 d2:Option Addr) (s1 s2:Array (Option Value)) (ns ms:List Int) (hi:IntsAre us.toList ns) (hj:IntsAre vs.toList ms) :
  Meets (Builtin.«list.__le__» ⟨[.ref l,.ref b],[]⟩)
   (fun A R s=>s.heap.get? l = some { cls:=.type "list",dict:=d1,data:=.seq us n1,slots:=s1 }∧
    s.heap.get? b = some { cls:=.type "list",dict:=d2,data:=.seq vs n2,slots:=s2 }∧R (.ok (.ret (.bool (!lexLt ms ns)))) s):=by
 intro prog w A R s h
 obtain ⟨hp,g,d,tk,os⟩:=s; obtain ⟨hl,hb,h⟩:=h
 have f3:=AutoSeq1.sub_list_list
 wp_walk using wpAny_loadPart' hb,wpAny_loadPart' hl
 refine ⟨plainId_quiet plain_eq_loop _,codeAny_builtin entry_eq_loop ?_⟩
 rw [Around.under_plainId plain_eq_loop _]
 exact BD l b us vs n1 n2 d1 d2 s1 s2 ns ms hi hj _ 0 rfl (Nat.zero_le _) (Nat.zero_le _) prog w A R _ ⟨hl,hb,h⟩
end
section
variable {prog:Program} {w:World} {A:Around} {E:Value→Shared→Prop} {s:Shared} {l b:Addr} {us vs:Array Value} {ns ms:List Int}
theorem zq {Q:Value→Shared→Prop} (hl:s.heap.IsList l us) (hb:s.heap.IsList b vs) (hi:IntsAre us.toList ns) (hj:IntsAre vs.toList ms) (hu:A.units < cLine) (h:Q (.bool (!lexLt ms ns)) s) :
  wpAny (model prog w) A (compareOp .LtE (.ref l) (.ref b)) Q E s:=by
 obtain ⟨⟨c1,d1,a1,z1⟩,h1,k1,n1,q1⟩:=id hl
 obtain ⟨⟨c2,d2,a2,z2⟩,h2,k2,n2,q2⟩:=id hb
 dsimp only at k1 q1 k2 q2
 subst k1 q1 k2 q2
 exact richCompare_meets_room (op:=.LtE) ⟨_,h1,rfl⟩ ⟨_,h2,rfl⟩ PySem.F.slot_list_le PySem.F.entry_list_le (PySem.F.args_list_le_2 _ _) (pY l b us vs n1 n2 d1 d2 z1 z2 ns ms hi hj)
  ⟨h1,h2,show Value.bool (!lexLt ms ns)≠Value.notImplemented∧Q (.bool (!lexLt ms ns)) s from ⟨nofun,h⟩⟩ hu
end
def LK (K:Frag):R2:=fun x y H Q=>∃ (a b:Addr) (ns ms:List Int),x = .ref a∧y = .ref b∧aD K H a (ns.map V.int)∧aD K H b (ms.map V.int)∧Q (.bl (!lexLt ms ns)) H
theorem DU {X:Cx} (hu:X.A.units < cLine):jT X (compareOp .LtE) (LK X.K):=by
 intro pins s σ H x y v u Q I rx ry h
 obtain ⟨a,b,ns,ms,rfl,rfl,ha,hb,q⟩:=h
 cases rx
 cases ry
 obtain ⟨i1,r1,p1,_⟩:=I.list ha
 obtain ⟨i2,r2,p2,_⟩:=I.list hb
 have q1:IntsAre i1.toArray.toList ns:=intsAre_of r1
 have q2:IntsAre i2.toArray.toList ms:=intsAre_of r2
 exact zq p1.isList p2.isList q1 q2 hu ⟨.bl (!lexLt ms ns),H,I,rfl,q⟩
end L2
end
section
namespace Gm
open PySem L2
section
variable {L:List (List Int)} {a b:Int}
theorem yp {R:List (List aj)} {S:List Int} (m:aw L) (h:Dt L (a,b)) (D:Dec L R) (s:h7 L S) :
  ∃ R' S',Dec (rem L a b) R'∧h7 (rem L a b) S'∧((R'.length + iso (rem L a b) = R.length + iso L + 1∧S'.length = S.length + 1)∨(R'.length + 1 + iso (rem L a b) = R.length + iso L∧S'.length = S.length)):=by
 obtain ⟨b0,b1,b2,b3⟩:=h.back m
 have hb:Dt L (b,a):=⟨b0,b1,b3⟩
 have Em:=o5 m h
 have ib:=eX m h
 have ia:(rowOf L a).erase b = []↔nx L (b,a) = (a,b):=eX m hb
 rcases o6 m h D with ⟨A,B,T,D',lR,kA,kB⟩ | ⟨A,B,T,D',lR,A0,B0,kA,kB,dd⟩
 ·obtain ⟨t0,s'⟩:=s.more m h
  have eA:A = []↔nx L (a,b) = (b,a):=by
   constructor
   ·intro z; rw [z] at kA; exact kA.nil_eq
   ·intro z
    cases A with
    | nil=>rfl
    | cons p A=>
     have hp:=kA.hd
     have dt:Dt (rem L a b) p:=(D'.mem p).mp (List.mem_flatten.mpr ⟨p :: A,by simp,List.mem_cons_self⟩)
     rw [hp,z] at dt
     exact absurd rfl ((bR m h).mp dt).2.2
  have eB:B = []↔nx L (b,a) = (a,b):=by
   constructor
   ·intro z; rw [z] at kB; exact kB.nil_eq
   ·intro z
    cases B with
    | nil=>rfl
    | cons p B=>
     have hp:=kB.hd
     have dt:Dt (rem L a b) p:=(D'.mem p).mp (List.mem_flatten.mpr ⟨p :: B,by simp,List.mem_cons_self⟩)
     rw [hp,z] at dt
     exact absurd rfl ((bR m h).mp dt).2.1
  have l1:∀ A:List aj,((if A = [] then [] else [A]):List (List aj)).length = if A = [] then 0 else 1:=fun A=>by
   by_cases z:A = []
   ·rw [if_pos z,if_pos z]; rfl
   ·rw [if_neg z,if_neg z]; rfl
  have key:(if A = [] then 0 else 1) + (if (rowOf L b).erase a = [] then 1 else 0) = 1:=by
   by_cases z:A = []
   ·rw [if_pos z,if_pos (ib.mpr (eA.mp z))]
   ·rw [if_neg z,if_neg (fun y=>z (eA.mpr (ib.mp y)))]
  have VJ:(if B = [] then 0 else 1) + (if (rowOf L a).erase b = [] then 1 else 0) = 1:=by
   by_cases z:B = []
   ·rw [if_pos z,if_pos (ia.mpr (eB.mp z))]
   ·rw [if_neg z,if_neg (fun y=>z (eB.mpr (ia.mp y)))]
  refine ⟨_,_,D',s',.inl ⟨?_,rfl⟩⟩
  rw [List.length_append,List.length_append,l1,l1,Em]
  omega
 ·have AE:∀ d∈A,Dt (rem L a b) d:=fun d hd=>dd d (List.mem_append_left _ hd)
  have So:∀ d∈B,Dt (rem L a b) d:=fun d hd=>dd d (List.mem_append_right _ hd)
  have r2:Reach (rem L a b) b a:=kA.reach AE
  have r1:Reach (rem L a b) a b:=kB.reach So
  have nb:¬ (rowOf L b).erase a = []:=fun z=>by
   cases A with
   | nil=>exact A0 rfl
   | cons p A=>
    have hp:=kA.hd
    have dt:=AE p List.mem_cons_self
    rw [hp,ib.mp z] at dt
    exact ((bR m h).mp dt).2.2 rfl
  have na:¬ (rowOf L a).erase b = []:=fun z=>by
   cases B with
   | nil=>exact B0 rfl
   | cons p B=>
    have hp:=kB.hd
    have dt:=So p List.mem_cons_self
    rw [hp,ia.mp z] at dt
    exact ((bR m h).mp dt).2.1 rfl
  rw [if_neg nb,if_neg na] at Em
  refine ⟨_,_,D',s.F9 m h r1 r2,.inr ⟨?_,rfl⟩⟩
  rw [List.length_cons,Em]
  omega
end
structure AI (L:List (List Int)):Prop where
 map:aw L
 Ca:∃ R S,Dec L R∧h7 L S∧2 * (L.length + R.length + iso L) = (cT L L.length).length + 4 * S.length
theorem bb.UA {L:List (List Int)} (s:bb L):AI L:=by
 obtain ⟨R,D,e⟩:=s.Ca
 have:=cZ s.map
 exact ⟨s.map,R,[0],D,s.span,by simp only [List.length_cons,List.length_nil]; omega⟩
theorem AI.rem {L:List (List Int)} {a b:Int} (f:AI L) (h:Dt L (a,b)):AI (rem L a b):=by
 obtain ⟨R,S,D,s,e⟩:=f.Ca
 obtain ⟨R',S',D',s',c⟩:=yp f.map h D s
 have:=(i8 f.map h).2
 refine ⟨va f.map h,R',S',D',s',?_⟩
 rw [eO] at *
 omega
theorem iP {p:Int→Bool} {x:Int} (hx:p x = false):∀ (l:List Int),(l.erase x).filter p = l.filter p
 | []=>rfl
 | y :: l=>by
  rw [List.erase_cons]
  by_cases e:y = x
  ·subst e
   rw [if_pos (beq_self_eq_true _),List.filter_cons,hx]
   rfl
  ·rw [if_neg (by simpa using e),List.filter_cons,List.filter_cons,iP hx l]
theorem AI.sub (K:aj→Bool) (sy:∀ x y,K (x,y) = K (y,x)):∀ (N:Nat) {L:List (List Int)},AI L→(cT L L.length).length = N→
  ∃ M,AI M∧M.length = L.length∧∀ x:Int,0≤x→rowOf M x = (rowOf L x).filter fun y=>K (x,y):=by
 intro N
 induction N using Nat.strongRecOn with
 | _ N ih=>
 intro L f hN
 by_cases q:∀ d,Dt L d→K d = true
 ·refine ⟨L,f,rfl,fun x x0=>?_⟩
  by_cases x1:x < L.length
  ·exact (List.filter_eq_self.mpr fun y hy=>q (x,y) ⟨x0,x1,hy⟩).symm
  ·have:rowOf L x = []:=by unfold rowOf; rw [List.getD_eq_getElem?_getD,List.getElem?_eq_none (by omega)]; rfl
   rw [this]; rfl
 ·have ⟨d,hd⟩:∃ d,¬ (Dt L d→K d = true):=Classical.not_forall.mp q
  have h:Dt L d:=Classical.byContradiction fun z=>hd fun y=>absurd y z
  have k:K d = false:=by
   cases e:K d with
   | false=>rfl
   | true=>exact absurd (fun _=>e) hd
  obtain ⟨a,b⟩:=d
  have lN:=(i8 f.map h).2
  obtain ⟨M,fM,lM,rM⟩:=ih _ (by omega) (f.rem h) rfl
  refine ⟨M,fM,lM.trans eO,fun x x0=>?_⟩
  rw [rM x x0,kE f.map h x0]
  by_cases e1:x = b
  ·subst e1
   rw [if_pos rfl]
   exact iP (by rw [sy]; exact k) _
  ·rw [if_neg e1]
   by_cases e2:x = a
   ·subst e2
    rw [if_pos rfl]
    exact iP k _
   ·rw [if_neg e2]
theorem oT:∀ (L:List (List Int)),(∀ l∈L,l = []∨l.length = 2)→(L.map List.length).sum + 2 * L.countP (·.isEmpty) = 2 * L.length
 | [],_=>by simp
 | l :: L,h=>by
  have ih:=oT L fun l hl=>h l (List.mem_cons_of_mem _ hl)
  rw [List.length_cons,List.map_cons,List.sum_cons,List.countP_cons]
  rcases h l List.mem_cons_self with z | z
  ·subst z
   simp only [List.length_nil,List.isEmpty_nil,if_true]
   omega
  ·rw [if_neg (by cases l with | nil=>simp at z | cons _ _=>simp)]
   omega
theorem B8 (L:List (List Int)):(cT L L.length).length = (L.map List.length).sum:=by
 have h:=vM (L:=L) (k:=L.length) (Nat.le_refl _)
 rw [List.take_length] at h
 have g:∀ (l:List (List Int)),(l.map fun l=>(l.length:Int)).sum = ((l.map List.length).sum:Nat):=fun l=>by
  induction l with
  | nil=>rfl
  | cons a l ih=>rw [List.map_cons,List.map_cons,List.sum_cons,List.sum_cons,ih]; simp
 rw [g] at h
 exact Int.ofNat.inj h
theorem Ae (L:List (List Int)):(List.range L.length).map (fun i=>L.getD i []) = L:=by
 refine List.ext_getElem (by simp) fun i h1 h2=>?_
 simp at h1 ⊢
 simp [h1]
theorem ye {L:List (List Int)} {S:List Int} {x:Int} (s:h7 L S) (x0:0≤x) (x1:x < L.length) (hx:rowOf L x≠[]) (m:aw L):iso L + 1≤S.length:=by
 obtain ⟨s0,hs,r⟩:=s x x0 x1
 have s1:rowOf L s0≠[]:=fun z=>by
  rcases r.inv with e | ⟨j,l,hj,hl⟩
  ·rw [e] at hx; exact hx z
  ·-- x is a wY of j; OE qT way back to s0
   have:∀ y,Reach L s0 y→y = s0:=fun y ry=>by
    induction ry with
    | here=>rfl
    | step ry e hy ih=>
     rename_i i l' y
     have:rowOf L s0 = l':=by rw [← ih]; exact (by unfold rowOf; simp [e])
     rw [z] at this
     rw [← this] at hy
     cases hy
   rw [this x r] at hx
   exact hx z
 let I:List Int:=((List.range L.length).filter fun i=>(L.getD i []).isEmpty).map fun i:Nat=>(i:Int)
 have li:I.length = iso L:=by
  show (((List.range L.length).filter fun i=>(L.getD i []).isEmpty).map fun i:Nat=>(i:Int)).length = _
  rw [List.length_map,← List.countP_eq_length_filter]
  unfold iso
  have:=congrArg (List.countP (·.isEmpty)) (Ae L)
  rw [List.countP_map] at this
  exact this
 have mI:∀ y,y∈I→0≤y∧y < L.length∧rowOf L y = []:=fun y hy=>by
  obtain ⟨i,hi,rfl⟩:=List.mem_map.mp hy
  obtain ⟨h1,h2⟩:=List.mem_filter.mp hi
  have:=List.mem_range.mp h1
  exact ⟨by omega,by omega,by unfold rowOf; simpa using h2⟩
 have:=bN (l:=s0 :: I) (r:=S) (List.nodup_cons.mpr ⟨fun z=>s1 (mI _ z).2.2,(List.Pairwise.map _ (fun a b h z=>h (by omega)) (List.nodup_range.filter _))⟩) fun y hy=>by
  rcases List.mem_cons.mp hy with z | z
  ·rw [z]; exact hs
  ·obtain ⟨y0,y1,yr⟩:=mI y z
   obtain ⟨t,ht,rt⟩:=s y y0 y1
   cases rt with
   | here=>exact ht
   | step r' e As=>
    rename_i i l
    have d:=Reach.nD e As
    have:=(d.back m).2.2.2
    rw [yr] at this
    cases this
 rw [List.length_cons,li] at this
 exact this
end Gm
end
section
namespace Gm
open PySem L2
theorem two_pre {l:List Int} {a b:Int} (n:l.Nodup) (h:∀ z,z∈l↔z = a∨z = b) (ne:a≠b):l.length = 2∧pre l a = b∧pre l b = a:=by
 have l2:l.length = 2:=len_eq (r:=[a,b]) n (by simp [ne]) fun z=>by rw [h z]; simp
 match l,l2 with
 | [x,y],_=>
  have xy:x≠y:=by simpa using n
  have hx:x = a∨x = b:=(h x).mp (by simp)
  have hy:y = a∨y = b:=(h y).mp (by simp)
  refine ⟨rfl,?_⟩
  rcases hx with rfl | rfl <;> rcases hy with rfl | rfl
  ·exact absurd rfl xy
  ·have b1:(x == y) = false:=by simpa using xy
   constructor <;> simp [pre,cy,List.idxOf_cons,b1]
  ·have b1:(x == y) = false:=by simpa using xy
   constructor <;> simp [pre,cy,List.idxOf_cons,b1]
  ·exact absurd rfl xy
theorem zL {a b c d:Int} (n:[a,b,c,d].Nodup):pre [a,b,c,d] a = d∧pre [a,b,c,d] b = a∧pre [a,b,c,d] c = b∧pre [a,b,c,d] d = c:=by
 simp at n
 obtain ⟨⟨h1,h2,h3⟩,⟨h4,h5⟩,h6⟩:=n
 have b1:(a == b) = false:=by simpa using h1
 have b2:(a == c) = false:=by simpa using h2
 have b3:(a == d) = false:=by simpa using h3
 have b4:(b == c) = false:=by simpa using h4
 have b5:(b == d) = false:=by simpa using h5
 have b6:(c == d) = false:=by simpa using h6
 refine ⟨?_,?_,?_,?_⟩ <;> simp [pre,cy,List.idxOf_cons,b1,b2,b3,b4,b5,b6]
theorem uF {P:Int→Bool} {s l:List Int} (h:s.Sublist l):l.Nodup→(∀ y∈l,P y = true↔y∈s)→l.filter P = s:=by
 induction h with
 | slnil=>intro _ _; rfl
 | @cons s l a h ih=>
  intro n k
  obtain ⟨n1,n2⟩:=List.nodup_cons.mp n
  have:¬ P a = true:=fun z=>n1 (h.subset ((k a List.mem_cons_self).mp z))
  rw [List.filter_cons_of_neg this]
  exact ih n2 fun y hy=>k y (List.mem_cons_of_mem _ hy)
 | @cons_cons s l a h ih=>
  intro n k
  obtain ⟨n1,n2⟩:=List.nodup_cons.mp n
  rw [List.filter_cons_of_pos ((k a List.mem_cons_self).mpr List.mem_cons_self)]
  rw [ih n2 fun y hy=>(k y (List.mem_cons_of_mem _ hy)).trans ⟨fun z=>(List.mem_cons.mp z).resolve_left fun e=>n1 (e▸hy),fun z=>List.mem_cons_of_mem _ z⟩]
def lp (v:Int) (p:List Int) (j:Nat):Int:=if j = 0 then v else p.getD (j - 1) v
def On (v:Int) (p:List Int) (d:aj):Prop:=∃ j,j≤p.length∧(d = (lp v p j,lp v p (j + 1))∨d = (lp v p (j + 1),lp v p j))
section
variable {v:Int} {p:List Int}
theorem pW:lp v p 0 = v:=rfl
theorem gX {i:Nat} (h0:1≤i) (h1:i≤p.length):lp v p i = p[i - 1]'(by omega):=by
 unfold lp
 rw [if_neg (by omega),List.getD_eq_getElem?_getD,List.getElem?_eq_getElem (by omega),Option.getD_some]
theorem gj:lp v p (p.length + 1) = v:=by
 unfold lp
 rw [if_neg (by omega),List.getD_eq_getElem?_getD,List.getElem?_eq_none (by omega),Option.getD_none]
theorem pX {i:Nat} (h0:1≤i) (h1:i≤p.length):lp v p i∈p:=by rw [gX h0 h1]; exact List.getElem_mem _
theorem j5 (hv:v∉p) {i:Nat} (h0:1≤i) (h1:i≤p.length):lp v p i≠v:=fun z=>hv (z▸pX h0 h1)
theorem um (n:p.Nodup) {i j:Nat} (h0:1≤i) (h1:i≤p.length) (k0:1≤j) (k1:j≤p.length) (e:lp v p i = lp v p j):i = j:=by
 rw [gX h0 h1,gX k0 k1] at e
 have:=(List.getElem_inj n).mp e
 omega
theorem sv {j:Nat} (h:j≤p.length + 1):lp v p j = v∨lp v p j∈p:=by
 by_cases h0:j = 0
 ·exact .inl (by rw [h0]; rfl)
 ·by_cases h1:j = p.length + 1
  ·exact .inl (by rw [h1]; exact gj)
  ·exact .inr (pX (by omega) (by omega))
theorem On.sw {x y:Int} (h:On v p (x,y)):On v p (y,x):=by
 obtain ⟨j,hj,e⟩:=h
 refine ⟨j,hj,?_⟩
 rcases e with e | e
 ·right; exact Prod.ext (congrArg Prod.snd e) (congrArg Prod.fst e)
 ·left; exact Prod.ext (congrArg Prod.snd e) (congrArg Prod.fst e)
theorem On.fst {d:aj} (h:On v p d):d.1 = v∨d.1∈p:=by
 obtain ⟨j,hj,e⟩:=h
 rcases e with e | e <;> rw [e]
 ·exact sv (j:=j) (by omega)
 ·exact sv (j:=j + 1) (by omega)
theorem On.mid (n:p.Nodup) (hv:v∉p) {i:Nat} (h0:1≤i) (h1:i≤p.length) (y:Int):On v p (lp v p i,y)↔y = lp v p (i - 1)∨y = lp v p (i + 1):=by
 constructor
 ·rintro ⟨j,hj,e | e⟩
  ·have e1:lp v p i = lp v p j:=congrArg Prod.fst e
   have e2:y = lp v p (j + 1):=congrArg Prod.snd e
   by_cases z:j = 0
   ·rw [z] at e1; exact absurd e1 (j5 hv h0 h1)
   ·have:=um n h0 h1 (by omega) hj e1
    rw [this]; exact .inr e2
  ·have e1:lp v p i = lp v p (j + 1):=congrArg Prod.fst e
   have e2:y = lp v p j:=congrArg Prod.snd e
   by_cases z:j + 1 = p.length + 1
   ·rw [z,gj] at e1; exact absurd e1 (j5 hv h0 h1)
   ·have:=um n h0 h1 (by omega) (by omega) e1
    left; rw [e2,this]; rfl
 ·rintro (e | e)
  ·exact ⟨i - 1,by omega,.inr (by rw [e]; rw [show i - 1 + 1 = i by omega])⟩
  ·exact ⟨i,by omega,.inl (by rw [e])⟩
theorem jk (n:p.Nodup) (hv:v∉p) (h2:2≤p.length) {i:Nat} (h0:1≤i) (h1:i≤p.length):lp v p (i - 1)≠lp v p (i + 1):=fun e=>by
 by_cases z:i = 1
 ·subst z
  exact j5 hv (i:=2) (by omega) h2 e.symm
 ·by_cases y:i = p.length
  ·rw [y,gj] at e
   exact j5 hv (i:=p.length - 1) (by omega) (by omega) e
  ·have:=um n (i:=i - 1) (j:=i + 1) (by omega) (by omega) (by omega) (by omega) e
   omega
theorem On.at (hv:v∉p) (h1:1≤p.length) (y:Int):On v p (v,y)↔y = lp v p 1∨y = lp v p p.length:=by
 constructor
 ·rintro ⟨j,hj,e | e⟩
  ·have e1:v = lp v p j:=congrArg Prod.fst e
   have e2:y = lp v p (j + 1):=congrArg Prod.snd e
   by_cases z:j = 0
   ·subst z; exact .inl e2
   ·exact absurd e1.symm (j5 hv (by omega) hj)
  ·have e1:v = lp v p (j + 1):=congrArg Prod.fst e
   have e2:y = lp v p j:=congrArg Prod.snd e
   by_cases z:j = p.length
   ·subst z; exact .inr e2
   ·exact absurd e1.symm (j5 hv (by omega) (by omega))
 ·rintro (e | e)
  ·exact ⟨0,by omega,.inl (by rw [e]; rfl)⟩
  ·exact ⟨p.length,by omega,.inr (by rw [e,gj])⟩
end
section
variable {M:List (List Int)} {v:Int} {p:List Int}
theorem along (n:p.Nodup) (hv:v∉p) (h2:2≤p.length) (nd:∀ i,1≤i→i≤p.length→(rowOf M (lp v p i)).Nodup) (row:∀ i,1≤i→i≤p.length→∀ y,y∈rowOf M (lp v p i)↔y = lp v p (i - 1)∨y = lp v p (i + 1))
  {C:aj→Prop} (on:∀ d,C d→C (nx M d)) (h:C (v,lp v p 1)):∀ j,j≤p.length→C (lp v p j,lp v p (j + 1))
 | 0,_=>h
 | j + 1,hj=>by
  have ih:=on _ (along n hv h2 nd row on h j (by omega))
  have t:=(two_pre (nd (j + 1) (by omega) hj) (row (j + 1) (by omega) hj) (jk n hv h2 (by omega) hj)).2.1
  have:nx M (lp v p j,lp v p (j + 1)) = (lp v p (j + 1),lp v p (j + 1 + 1)):=by
   show (_,_) = _
   exact Prod.ext rfl t
  rw [this] at ih
  exact ih
theorem Af (n:p.Nodup) (hv:v∉p) (h2:2≤p.length) (nd:∀ i,1≤i→i≤p.length→(rowOf M (lp v p i)).Nodup) (row:∀ i,1≤i→i≤p.length→∀ y,y∈rowOf M (lp v p i)↔y = lp v p (i - 1)∨y = lp v p (i + 1))
  {C:aj→Prop} (on:∀ d,C d→C (nx M d)) (h:C (v,lp v p p.length)):∀ k,k≤p.length→C (lp v p (p.length - k + 1),lp v p (p.length - k))
 | 0,_=>by rw [Nat.sub_zero,gj]; exact h
 | k + 1,hk=>by
  have ih:=on _ (Af n hv h2 nd row on h k (by omega))
  have t:=(two_pre (nd (p.length - k) (by omega) (by omega)) (row (p.length - k) (by omega) (by omega)) (jk n hv h2 (by omega) (by omega))).2.2
  have:nx M (lp v p (p.length - k + 1),lp v p (p.length - k)) = (lp v p (p.length - k),lp v p (p.length - k - 1)):=Prod.ext rfl t
  rw [this] at ih
  rw [show p.length - (k + 1) + 1 = p.length - k by omega,show p.length - (k + 1) = p.length - k - 1 by omega]
  exact ih
end
theorem yP {L:List (List Int)} {R:List (List aj)} (D:Dec L R) {c:List aj} (hc:c∈R) (all:∀ d,Dt L d→d∈c):R.length≤1:=by
 match R,D,hc with
 | [],_,_=>simp
 | [_],_,_=>simp
 | c1 :: c2 :: R,D,hc=>
  exfalso
  have w:∀ e∈c1 :: c2 :: R,∃ d∈e,d∈c:=fun e he=>by
   obtain ⟨x,l,rfl,_⟩:=D.hZ e he
   exact ⟨x,List.mem_cons_self,all x ((D.mem x).mp (List.mem_flatten.mpr ⟨_,he,List.mem_cons_self⟩))⟩
  obtain ⟨d1,m1,n1⟩:=w c1 (by simp)
  obtain ⟨d2,m2,n2⟩:=w c2 (by simp)
  have e1:=eY D.nd (c:=c1) (e:=c) (by simp) hc m1 n1
  have e2:=eY D.nd (c:=c2) (e:=c) (by simp) hc m2 n2
  have:=D.nd
  rw [List.flatten_cons,List.flatten_cons] at this
  exact (List.nodup_append.mp this).2.2 d1 m1 d1 (List.mem_append_left _ (by rw [e2,← e1]; exact m1)) rfl
theorem AI.Ii {L:List (List Int)} (f:AI L) {v n0 n1 n2 n3:Int} (v0:0≤v) (v1:v < L.length) (hs:[n0,n1,n2,n3].Sublist (rowOf L v)) {p q:List Int} (np:p.Nodup) (nq:q.Nodup)
  (vp:v∉p) (vq:v∉q) (pq:∀ x∈p,x∉q) (p2:2≤p.length) (q2:2≤q.length) (p0:lp v p 1 = n0) (pe:lp v p p.length = n2) (q0:lp v q 1 = n1) (qe:lp v q q.length = n3)
  (dp:∀ i,1≤i→i < p.length→Dt L (lp v p i,lp v p (i + 1))) (dq:∀ i,1≤i→i < q.length→Dt L (lp v q i,lp v q (i + 1))):False:=by
 have GK:(rowOf L v).Nodup:=f.map.nd _ _ (aq v0 v1)
 have n4:[n0,n1,n2,n3].Nodup:=hs.nodup GK
 have inv:∀ x∈[n0,n1,n2,n3],Dt L (v,x):=fun x hx=>⟨v0,v1,hs.subset hx⟩
 have back:∀ x y,Dt L (x,y)→Dt L (y,x):=fun x y h=>by
  obtain ⟨b0,b1,_,b3⟩:=h.back f.map
  exact ⟨b0,b1,b3⟩
 have Q4:∀ d,On v p d→Dt L d:=by
  rintro d ⟨j,hj,e⟩
  have:Dt L (lp v p j,lp v p (j + 1)):=by
   by_cases z:j = 0
   ·subst z; rw [pW,p0]; exact inv _ (by simp)
   ·by_cases y:j = p.length
    ·rw [y,gj,pe]; exact back _ _ (inv _ (by simp))
    ·exact dp j (by omega) (by omega)
  rcases e with e | e <;> rw [e]
  ·exact this
  ·exact back _ _ this
 have Q3:∀ d,On v q d→Dt L d:=by
  rintro d ⟨j,hj,e⟩
  have:Dt L (lp v q j,lp v q (j + 1)):=by
   by_cases z:j = 0
   ·subst z; rw [pW,q0]; exact inv _ (by simp)
   ·by_cases y:j = q.length
    ·rw [y,gj,qe]; exact back _ _ (inv _ (by simp))
    ·exact dq j (by omega) (by omega)
  rcases e with e | e <;> rw [e]
  ·exact this
  ·exact back _ _ this
 have dec:∀ d,Decidable (On v p d∨On v q d):=fun d=>Classical.propDecidable _
 obtain ⟨M,fM,lM,rM⟩:=AI.sub (fun d=>@decide _ (dec d)) (fun x y=>by
  have:(On v p (x,y)∨On v q (x,y))↔(On v p (y,x)∨On v q (y,x)):=⟨fun h=>h.imp On.sw On.sw,fun h=>h.imp On.sw On.sw⟩
  exact decide_eq_decide.mpr this) _ f rfl
 have mem:∀ x y:Int,0≤x→x < L.length→(y∈rowOf M x↔On v p (x,y)∨On v q (x,y)):=fun x y x0 x1=>by
  rw [rM x x0,List.mem_filter,decide_eq_true_iff]
  exact ⟨fun h=>h.2,fun h=>⟨(h.elim (Q4 _) (Q3 _)).mem,h⟩⟩
 have JF:∀ x:Int,0≤x→x < L.length→(rowOf M x).Nodup:=fun x x0 x1=>by
  rw [rM x x0]
  exact (f.map.nd _ _ (aq x0 x1)).filter _
 have Fn:∀ i,1≤i→i≤p.length→0≤lp v p i∧lp v p i < L.length:=fun i h0 h1=>by
  have:=Q4 (lp v p i,lp v p (i + 1)) ⟨i,h1,.inl rfl⟩
  exact ⟨this.lo,this.hi⟩
 have Fm:∀ i,1≤i→i≤q.length→0≤lp v q i∧lp v q i < L.length:=fun i h0 h1=>by
  have:=Q3 (lp v q i,lp v q (i + 1)) ⟨i,h1,.inl rfl⟩
  exact ⟨this.lo,this.hi⟩
 have DA:∀ i,1≤i→i≤p.length→∀ y,y∈rowOf M (lp v p i)↔y = lp v p (i - 1)∨y = lp v p (i + 1):=fun i h0 h1 y=>by
  rw [mem _ _ (Fn i h0 h1).1 (Fn i h0 h1).2,On.mid np vp h0 h1]
  refine ⟨fun h=>h.elim id fun z=>?_,.inl⟩
  rcases z.fst with z | z
  ·exact absurd z (j5 vp h0 h1)
  ·exact absurd z (pq _ (pX h0 h1))
 have Dz:∀ i,1≤i→i≤q.length→∀ y,y∈rowOf M (lp v q i)↔y = lp v q (i - 1)∨y = lp v q (i + 1):=fun i h0 h1 y=>by
  rw [mem _ _ (Fm i h0 h1).1 (Fm i h0 h1).2,On.mid nq vq h0 h1]
  refine ⟨fun h=>h.elim (fun z=>?_) id,.inr⟩
  rcases z.fst with z | z
  ·exact absurd z (j5 vq h0 h1)
  ·exact absurd (pX h0 h1) (pq _ z)
 have yk:rowOf M v = [n0,n1,n2,n3]:=by
  rw [rM v v0]
  refine uF hs GK fun y hy=>?_
  rw [decide_eq_true_iff,On.at vp (by omega),On.at vq (by omega),p0,pe,q0,qe]
  simp only [List.mem_cons,List.not_mem_nil,or_false]
  constructor
  ·rintro ((h | h) | (h | h)) <;> simp [h]
  ·rintro (h | h | h | h) <;> simp [h]
 have Vw:=fun i h0 h1=>two_pre (JF _ (Fn i h0 h1).1 (Fn i h0 h1).2) (DA i h0 h1) (jk np vp p2 h0 h1)
 have Vv:=fun i h0 h1=>two_pre (JF _ (Fm i h0 h1).1 (Fm i h0 h1).2) (Dz i h0 h1) (jk nq vq q2 h0 h1)
 -- all SW Zn on one ring
 obtain ⟨R,S,D,s,e⟩:=fM.Ca
 have dv:Dt M (v,n0):=⟨v0,by omega,by rw [yk]; simp⟩
 obtain ⟨c,hc,hd⟩:=List.mem_flatten.mp ((D.mem _).mpr dv)
 have on:∀ d,d∈c→nx M d∈c:=fun d hd=>(D.hZ c hc).on hd
 have MW:∀ x,nx M (x,v) = (v,pre [n0,n1,n2,n3] x):=fun x=>by show (v,pre (rowOf M v) x) = _; rw [yk]
 obtain ⟨f0,f1,f2,f3⟩:=zL n4
 have GQ:=fun i h0 h1=>JF _ (Fn i h0 h1).1 (Fn i h0 h1).2
 have Rg:=fun i h0 h1=>JF _ (Fm i h0 h1).1 (Fm i h0 h1).2
 have a1:=along np vp p2 GQ DA (C:=(·∈c)) on (by rw [p0]; exact hd)
 have b1:(n2,v)∈c:=by have:=a1 p.length (Nat.le_refl _); rw [gj,pe] at this; exact this
 have c1:(v,n1)∈c:=by have:=on _ b1; rw [MW,f2] at this; exact this
 have a2:=along nq vq q2 Rg Dz (C:=(·∈c)) on (by rw [q0]; exact c1)
 have b2:(n3,v)∈c:=by have:=a2 q.length (Nat.le_refl _); rw [gj,qe] at this; exact this
 have c2:(v,n2)∈c:=by have:=on _ b2; rw [MW,f3] at this; exact this
 have a3:=Af np vp p2 GQ DA (C:=(·∈c)) on (by rw [pe]; exact c2)
 have b3:(n0,v)∈c:=by have:=a3 p.length (Nat.le_refl _); rw [Nat.sub_self,pW,Nat.zero_add,p0] at this; exact this
 have c3:(v,n3)∈c:=by have:=on _ b3; rw [MW,f0] at this; exact this
 have a4:=Af nq vq q2 Rg Dz (C:=(·∈c)) on (by rw [qe]; exact c3)
 have all:∀ d,Dt M d→d∈c:=fun d hd=>by
  have:=(mem d.1 d.2 hd.lo (by have:=hd.hi; omega)).mp hd.mem
  rcases this with ⟨j,hj,e | e⟩ | ⟨j,hj,e | e⟩
  ·rw [show d = (lp v p j,lp v p (j + 1)) from e]; exact a1 j hj
  ·rw [show d = (lp v p (j + 1),lp v p j) from e]
   have:=a3 (p.length - j) (by omega)
   rw [show p.length - (p.length - j) = j by omega] at this
   exact this
  ·rw [show d = (lp v q j,lp v q (j + 1)) from e]; exact a2 j hj
  ·rw [show d = (lp v q (j + 1),lp v q j) from e]
   have:=a4 (q.length - j) (by omega)
   rw [show q.length - (q.length - j) = j by omega] at this
   exact this
 have r1:=yP D hc all
 have si:=ye s v0 (by omega) (by rw [yk]; simp) fM.map
 -- qT QS JJ
 have LC:∀ x:Int,0≤x→x < L.length→x≠v→rowOf M x = []∨(rowOf M x).length = 2:=fun x x0 x1 xv=>by
  by_cases hp:x∈p
  ·right
   obtain ⟨i,hi,rfl⟩:=List.mem_iff_getElem.mp hp
   have:=(Vw (i + 1) (by omega) (by omega)).1
   rw [gX (by omega) (by omega)] at this
   exact this
  ·by_cases hq:x∈q
   ·right
    obtain ⟨i,hi,rfl⟩:=List.mem_iff_getElem.mp hq
    have:=(Vv (i + 1) (by omega) (by omega)).1
    rw [gX (by omega) (by omega)] at this
    exact this
   ·left
    refine List.eq_nil_iff_forall_not_mem.mpr fun y hy=>?_
    rcases (mem x y x0 x1).mp hy with z | z
    ·rcases z.fst with z | z
     ·exact xv z
     ·exact hp z
    ·rcases z.fst with z | z
     ·exact xv z
     ·exact hq z
 have hv:v.toNat < M.length:=by omega
 have sp:M = M.take v.toNat ++ rowOf M v :: M.drop (v.toNat + 1):=by
  have:rowOf M v = M[v.toNat]:=by unfold rowOf; simp [hv]
  rw [this,List.getElem_cons_drop,List.take_append_drop]
 have part:∀ (k:Nat) (h:k < M.length),k≠v.toNat→M[k] = []∨M[k].length = 2:=fun k h hk=>by
  have:=LC (k:Int) (by omega) (by omega) (by omega)
  have e:rowOf M (k:Int) = M[k]:=by unfold rowOf; simp [h]
  rw [e] at this
  exact this
 have s1:=oT (M.take v.toNat) fun l hl=>by
  obtain ⟨i,hi,rfl⟩:=List.mem_iff_getElem.mp hl
  rw [List.getElem_take]
  rw [List.length_take] at hi
  exact part i (by omega) (by omega)
 have s2:=oT (M.drop (v.toNat + 1)) fun l hl=>by
  obtain ⟨i,hi,rfl⟩:=List.mem_iff_getElem.mp hl
  rw [List.getElem_drop]
  rw [List.length_drop] at hi
  exact part _ (by omega) (by omega)
 have t1:(cT M M.length).length = ((M.take v.toNat).map List.length).sum + (4 + ((M.drop (v.toNat + 1)).map List.length).sum):=by
  rw [B8]
  conv=>lhs; rw [sp]
  rw [List.map_append,List.map_cons,List.sum_append,List.sum_cons,yk]
  rfl
 have t2:iso M = (M.take v.toNat).countP (·.isEmpty) + (M.drop (v.toNat + 1)).countP (·.isEmpty):=by
  unfold iso
  conv=>lhs; rw [sp]
  rw [List.countP_append,List.countP_cons,yk]
  rfl
 have t3:M.length = (M.take v.toNat).length + (1 + (M.drop (v.toNat + 1)).length):=by
  rw [List.length_take,List.length_drop]; omega
 omega
end Gm
end
section
namespace L2
open PySem PySem.Spec PySem.W PySem.Calls PyProof.Rows Gm
def Yn (d:Addr) (o:Obj) (aI:List (Key×V)):It:=
 ⟨fun i H=>H d = some (.tG o (.dK aI))∧i < aI.length,fun i H x H'=>H' = H∧∃ k v,aI[i]? = some (k,v)∧x = kV k,fun i H=>H d = some (.tG o (.dK aI))∧aI.length≤i⟩
section
variable {X:Cx} {tg:Expr}
def Ru (tl:TE):TI:=fun σ H R=>tl σ H fun x H1=>∃ a aI,x = .ref a∧H1 a = some (.dK aI)∧∀ o,R (Yn a o aI) (upd H1 a (.tG o (.dK aI)))
def LJ:List V→Hp→VK→Prop:=fun xs H Q=>∃ a aI,xs = [V.ref a]∧H a = some (.dK aI)∧∀ p,H p = none→Q (.ref p) (upd H p (.lst (aI.map fun kv=>kV kv.1)))
def Yk (K:Frag) (a:Addr) (xs:List V):It:=
 ⟨fun i H=>aD K H a xs∧i < xs.length,fun i H x H'=>H' = H∧xs.reverse[i]? = some x,fun i H=>xs.length≤i⟩
def V3 (K:Frag) (tl:TE):TI:=fun σ H R=>tl σ H fun x H1=>∃ a xs,x = .ref a∧aD K H1 a xs∧R (Yk K a xs) H1
end
end L2
end
section
namespace Gm
open PySem L2
def kF (ks:List Int) (f:Int→Int):List (Key×V):=ks.map fun x=>((Sum.inl x:Key),V.int (f x))
def W8 (f:Int→Int) (x h:Int):Int→Int:=fun y=>if y = x then h else f y
structure ZQ (L:List (List Int)) (ks:List Int) (f:Int→Int):Prop where
 nd:ks.Nodup
 rg:∀ x∈ks,0≤x∧x < L.length
 hu:∀ x∈ks,0≤f x∧f x < 5
 ap:∀ x∈ks,∀ y∈rowOf L x,y∈ks→f y≠f x
def near (L:List (List Int)) (ks:List Int) (v:Int):List Int:=(rowOf L v).filter fun z=>decide (z∈ks)
def R6 (ts:List Int):List Int:=(aT 5).filter fun h=>!decide (h∈ts)
section
variable {L:List (List Int)} {ks:List Int} {f:Int→Int} {v:Int}
theorem cN (m:aw L) {x y:Int} (x0:0≤x) (x1:x < L.length) (h:y∈rowOf L x):0≤y∧y < L.length∧y≠x∧x∈rowOf L y:=Dt.back (d:=(x,y)) ⟨x0,x1,h⟩ m
structure Yd (L:List (List Int)) (ks:List Int) (f:Int→Int) (a b:Int) (S:List Int):Prop where
 sh:∀ x,x∈S↔(0≤x∧x < L.length)∧¬ (x∈ks∧(f x = a∨f x = b))
def Gb (L:List (List Int)) (ks:List Int) (f:Int→Int) (a b:Int):List Int:=(aT L.length).filter fun x=>!decide (x∈ks∧(f x = a∨f x = b))
def ZW (L:List (List Int)) (ks:List Int) (f:Int→Int) (one other x:Int):Prop:=gz L (Gb L ks f (f one) (f other)) one x
def Qz (f:Int→Int) (a b:Int) (G:List Int):Int→Int:=fun y=>if y∈G then a + b - f y else f y
end
theorem gz.road {L:List (List Int)} {S:List Int} {s x:Int} (h:gz L S s x) (m:aw L) (hs:0≤s∧s < L.length) (v:Int) :
  ∃ p:List Int,p.Nodup∧p≠[]∧lp v p 1 = s∧lp v p p.length = x∧(∀ y∈p,gz L S s y)∧∀ i,1≤i→i < p.length→Dt L (lp v p i,lp v p (i + 1)):=by
 induction h with
 | here=>exact ⟨[s],by simp,by simp,rfl,rfl,fun y hy=>by rw [List.mem_singleton.mp hy]; exact .here,fun i h0 h1=>by simp at h1; omega⟩
 | @step i l x r e hx hS ih=>
  obtain ⟨p,nd,p0,ps,pe,all,ch⟩:=ih
  have Zl:0 < p.length:=List.length_pos_iff.mpr p0
  by_cases hm:x∈p
  ·obtain ⟨k,hk,rfl⟩:=List.mem_iff_getElem.mp hm
   have tl:(p.take (k + 1)).length = k + 1:=by rw [List.length_take]; omega
   have tk:∀ j,1≤j→j≤k + 1→lp v (p.take (k + 1)) j = lp v p j:=fun j h0 h1=>by
    rw [gX h0 (by omega),gX h0 (by omega),List.getElem_take]
   refine ⟨p.take (k + 1),nd.sublist (List.take_sublist _ _),fun z=>by rw [z] at tl; simp at tl,by rw [tk 1 (by omega) (by omega)]; exact ps,?_,fun y hy=>all y (List.mem_of_mem_take hy),fun j h0 h1=>?_⟩
   ·rw [tl,tk _ (by omega) (by omega),gX (by omega) (by omega)]
    rfl
   ·rw [tk j h0 (by omega),tk (j + 1) (by omega) (by omega)]
    exact ch j h0 (by omega)
  ·have ad:∀ j,1≤j→j≤p.length→lp v (p ++ [x]) j = lp v p j:=fun j h0 h1=>by
    rw [gX h0 (by simp; omega),gX h0 h1,List.getElem_append_left]
   have al:lp v (p ++ [x]) (p.length + 1) = x:=by
    rw [gX (by omega) (by simp)]
    simp
   refine ⟨p ++ [x],?_,by simp,by rw [ad 1 (by omega) (by omega)]; exact ps,by rw [List.length_append,List.length_singleton]; exact al,fun y hy=>?_,fun j h0 h1=>?_⟩
   ·exact List.nodup_append.mpr ⟨nd,by simp,fun a ha b hb z=>hm (by rw [← List.mem_singleton.mp hb,← z]; exact ha)⟩
   ·rcases List.mem_append.mp hy with z | z
    ·exact all y z
    ·rw [List.mem_singleton.mp z]; exact gz.step r e hx hS
   ·rw [List.length_append,List.length_singleton] at h1
    rw [ad j h0 (by omega)]
    by_cases z:j = p.length
    ·rw [z,al,pe]; exact Reach.nD e hx
    ·rw [ad (j + 1) (by omega) (by omega)]
     exact ch j h0 (by omega)
structure Off (L:List (List Int)) (os:List Int):Prop where
 nd:os.Nodup
 rg:∀ x∈os,0≤x∧x < L.length
 xS:∀ (i:Nat) (x:Int),os[i]? = some x→((rowOf L x).filter fun z=>!decide (z∈os.take i)).length≤5
end Gm
end
section
namespace Gm
open PySem L2
def XZ:List (List Int):=[[1,2,3,4,5],[0,5,10,6,2],[0,1,6,7,3],[0,2,7,8,4],[0,3,8,9,5],[0,4,9,10,1],[1,10,11,7,2],[2,6,11,8,3],[3,7,11,9,4],[4,8,11,10,5],[5,9,11,6,1],[10,9,8,7,6]]
def SH:List (List aj):=[[(0,1),(1,2),(2,0)],[(0,2),(2,3),(3,0)],[(0,3),(3,4),(4,0)],[(0,4),(4,5),(5,0)],[(0,5),(5,1),(1,0)],[(1,5),(5,10),(10,1)],[(1,10),(10,6),(6,1)],[(1,6),(6,2),(2,1)],[(2,6),(6,7),(7,2)],[(2,7),(7,3),(3,2)],[(3,7),(7,8),(8,3)],[(3,8),(8,4),(4,3)],[(4,8),(8,9),(9,4)],[(4,9),(9,5),(5,4)],[(5,9),(9,10),(10,5)],[(6,10),(10,11),(11,6)],[(6,11),(11,7),(7,6)],[(7,11),(11,8),(8,7)],[(8,11),(11,9),(9,8)],[(9,11),(11,10),(10,9)]]
section
variable {A R:List (List Int)} {l:List Int}
def Za (l:List Int) (d:aj):aj:=(fD l d.1,fD l d.2)
end
end Gm
end
section
namespace L2
open PySem PySem.Spec PySem.W PySem.Calls PyProof.Rows Gm Fr
end L2
namespace Gm
open PySem L2
end Gm
end
section
namespace Gm
open PySem L2
theorem tX {l:List Int} {z n y:Int} (nd:l.Nodup) (hz:z∈l) (hn:n∉l) (hy:y∈l) (ne:y≠z):pre (put l (l.idxOf z) n) y = pre l y:=by
 have JH:(put l (l.idxOf z) n).Nodup:=wW hn nd
 have my:y∈put l (l.idxOf z) n:=kL.mpr (.inr hy)
 have mz:z∈put l (l.idxOf z) n:=kL.mpr (.inr hz)
 have mn:n∈put l (l.idxOf z) n:=kL.mpr (.inl rfl)
 have yn:y≠n:=fun e=>hn (e▸hy)
 have h:=jF JH my mn yn
 rw [fQ hn] at h
 have:pre (put l (l.idxOf z) n) y≠n:=fun e=>ne (vA JH my mz (e.trans (ft hz hn).symm))
 rw [if_neg this] at h
 exact h.symm
section
variable {L:List (List Int)} {r:List Int}
theorem bb.place (s:bb L) (g:Good L r) (nd:(sh 0 r).Nodup) {cs:List Nat} (inc:cs.Pairwise (· < ·)) (lt:∀ c∈cs,c < r.length) (un:(cs.map (cy r)).Nodup) :
  ∀ k,1≤k→k≤cs.length→∃ M c1 cj,Pl L r c1 cj (cs.take k) M∧cs[k - 1]? = some cj∧∀ c∈cs.take k,rowOf M (cy r c) = put (rowOf L (cy r c)) ((rowOf L (cy r c)).idxOf (cy r (c + (r.length - 1)))) L.length:=by
 intro k
 induction k with
 | zero=>intro h; omega
 | succ k ih=>
  intro _ hk
  obtain ⟨c,hc⟩:∃ c,cs[k]? = some c:=⟨cs[k],List.getElem?_eq_getElem (by omega)⟩
  have zF:=lt c (List.mem_of_getElem? hc)
  obtain ⟨zm,x0,x1,ed⟩:=cS g s.map (c:=c)
  have tk:cs.take (k + 1) = cs.take k ++ [c]:=by rw [List.take_add_one,hc]; rfl
  rw [tk]
  by_cases k0:k = 0
  ·subst k0
   obtain ⟨F,pl⟩:=Pl.first s g nd zF
   refine ⟨_,c,c,pl,by simpa using hc,fun e he=>?_⟩
   have e1:e = c:=by simpa using he
   subst e1
   rw [F.row x0,if_neg (by omega),if_pos rfl]
  ·obtain ⟨M,c1,cj,pl,Ht,rows⟩:=ih (by omega) (by omega)
   have lt':cj < c:=by
    obtain ⟨q1,w1⟩:=List.getElem?_eq_some_iff.mp Ht
    obtain ⟨q2,w2⟩:=List.getElem?_eq_some_iff.mp hc
    have:=List.pairwise_iff_getElem.mp inc (k - 1) k q1 q2 (by omega)
    rw [w1,w2] at this
    exact this
   have Qy:∀ e∈cs.take k,cy r e≠cy r c:=fun e he z=>by
    have:=dJ (A:=[]) (B:=cs.map (cy r)) (j:=k) (x:=cy r c) (by simpa using un) (by rw [List.getElem?_map,hc]; rfl)
    refine this ?_
    rw [List.nil_append,← List.map_take,← z]
    exact List.mem_map.mpr ⟨e,he,rfl⟩
   obtain ⟨F,Mh⟩:=pl.next s g nd lt' zF Qy
   refine ⟨_,c1,c,Mh,by rw [Nat.add_sub_cancel]; exact hc,fun e he=>?_⟩
   rcases List.mem_append.mp he with h | h
   ·obtain ⟨_,y0,y1,_⟩:=cS g s.map (c:=e)
    rw [F.row y0,if_neg (by omega),if_neg (Qy e h),rows e h]
   ·have e1:e = c:=by simpa using h
    subst e1
    rw [F.row x0,if_neg (by omega),if_pos rfl]
structure Qm (L:List (List Int)) (r:List Int) (cs:List Nat) (M:List (List Int)):Prop where
 jZ:bb M
 len:M.length = L.length + 1
 new:rowOf M (L.length:Int) = cs.map (cy r)
 sub:∀ d,Dt L d→Dt M d
 keep:∀ x:Int,0≤x→x < L.length→(∀ c∈cs,cy r c≠x)→rowOf M x = rowOf L x
 Bs:∀ d,Dt L d→(∀ c∈cs,d≠dj r (c + (r.length - 1)))→nx M d = nx L d
theorem bb.put (s:bb L) (g:Good L r) (nd:(sh 0 r).Nodup) {cs:List Nat} (c0:cs≠[]) (inc:cs.Pairwise (· < ·)) (lt:∀ c∈cs,c < r.length) (un:(cs.map (cy r)).Nodup):∃ M,Qm L r cs M:=by
 obtain ⟨M,c1,cj,pl,_,rows⟩:=s.place g nd inc lt un cs.length (List.length_pos_iff.mpr c0) (Nat.le_refl _)
 rw [List.take_length] at pl rows
 refine ⟨M,pl.sh,pl.len,pl.new,pl.sub,pl.keep,fun d hd ne=>?_⟩
 obtain ⟨b0,b1,b2,b3⟩:=hd.back s.map
 unfold nx
 by_cases h:∃ c∈cs,cy r c = d.2
 ·obtain ⟨c,hc,e⟩:=h
  obtain ⟨zm,x0,x1,ed⟩:=cS g s.map (c:=c)
  rw [e] at zm x0 x1 ed
  have QQ:=rows c hc
  rw [e] at QQ
  rw [QQ,tX (s.map.nd _ _ (aq b0 b1)) zm (lQ s.map b0 b1) b3 fun z=>ne c hc ?_]
  rw [ed,← z]
 ·rw [pl.keep d.2 b0 b1 fun c hc e=>h ⟨c,hc,e⟩]
theorem Qm.good {cs:List Nat} {M:List (List Int)} (p:Qm L r cs M) {q:List Int} (gq:Good L q) (off:∀ j c,dj q j≠dj r c):Good M q:=
 ⟨gq.two,fun j=>p.sub _ (gq.dt j),fun j=>by rw [p.Bs _ (gq.dt j) fun c _=>off j _]; exact gq.st j⟩
end
def kb (L:List (List Int)):Prop:=∀ a b x y:Int,0≤x→x < L.length→0≤y→y < L.length→x≠a→x≠b→y≠a→y≠b→gz L [a,b] x y
theorem gz.iA {L:List (List Int)} {S:List Int} {s x:Int} (h:gz L S s x) (hs:s∉S):x∉S:=by
 cases h with
 | here=>exact hs
 | step _ _ _ h=>exact h
theorem nZ {L:List (List Int)} {R:List (List aj)} (m:aw L) (D:Dec L R) {c:List aj} (hc:c∈R) (j:Nat):dj (c.map (·.1)) j∈c:=by
 obtain ⟨g,hs,_⟩:=D.good m hc
 have:dj (c.map (·.1)) j∈sh 0 (c.map (·.1)):=(cG (by have:=g.two; omega)).mpr ⟨j,rfl⟩
 rw [hs] at this
 exact this
theorem cR {r:List Int} {x:Int} (h:x∈r):∃ i,i < r.length∧cy r i = x:=by
 obtain ⟨i,hi,e⟩:=List.mem_iff_getElem.mp h
 exact ⟨i,hi,by rw [dk hi]; exact e⟩
theorem kb.meet {L:List (List Int)} {R:List (List aj)} (t:kb L) (s:bb L) (sm:jS L) (D:Dec L R) {c1 c2:List aj} (h1:c1∈R) (h2:c2∈R) (ne:c1≠c2) {a b:Int} (ab:a≠b)
  (a1:a∈c1.map (·.1)) (b1:b∈c1.map (·.1)) (a2:a∈c2.map (·.1)) (b2:b∈c2.map (·.1)):(a,b)∈c1∨(b,a)∈c1:=by
 refine Classical.byContradiction fun no=>?_
 have Ea:(a,b)∉c1:=fun z=>no (.inl z)
 have wX:(b,a)∉c1:=fun z=>no (.inr z)
 have im:=s.map
 obtain ⟨g1,s1,n1⟩:=D.good im h1
 obtain ⟨g2,s2,n2⟩:=D.good im h2
 have Ap:(c1.map (·.1)).Nodup:=sm.ring g1 (by rw [s1]; exact n1)
 have Vb:(c2.map (·.1)).Nodup:=sm.ring g2 (by rw [s2]; exact n2)
 have in1:=nZ im D h1
 have Rr:=nZ im D h2
 have off:∀ i j,dj (c2.map (·.1)) i≠dj (c1.map (·.1)) j:=fun i j e=>ne (eY D.nd h1 h2 (in1 j) (by rw [← e]; exact Rr i))
 have QL:(sh 0 (c1.map (·.1))).Nodup:=by rw [s1]; exact n1
 have QK:(sh 0 (c2.map (·.1))).Nodup:=by rw [s2]; exact n2
 generalize c1.map (·.1) = r1 at g1 Ap a1 b1 in1 off QL
 generalize c2.map (·.1) = r2 at g2 Vb a2 b2 Rr off QK
 have tw1:=g1.two
 obtain ⟨i,hi,ea⟩:=cR a1
 obtain ⟨j,hj,eb⟩:=cR b1
 have ij:i≠j:=fun z=>ab (by rw [← ea,← eb,z])
 obtain ⟨k,k0,k1,ek⟩:∃ k,0 < k∧k < r1.length∧cy r1 (i + k) = b:=by
  by_cases z:i < j
  ·exact ⟨j - i,by omega,by omega,by rw [show i + (j - i) = j by omega]; exact eb⟩
  ·exact ⟨j + r1.length - i,by omega,by omega,by rw [show i + (j + r1.length - i) = j + r1.length by omega,cw (Nat.add_mod_right _ _)]; exact eb⟩
 have d1:=in1 i
 have d2:=in1 (i + k)
 have e1:dj r1 i = (a,cy r1 (i + 1)):=by unfold dj; rw [ea]
 have e2:dj r1 (i + k) = (b,cy r1 (i + k + 1)):=by unfold dj; rw [ek]
 rw [e1] at d1
 rw [e2] at d2
 have pb:cy r1 (i + 1)≠b:=fun z=>Ea (by rw [← z]; exact d1)
 have qa:cy r1 (i + k + 1)≠a:=fun z=>wX (by rw [← z]; exact d2)
 have k2:2≤k:=by
  refine Classical.byContradiction fun z=>pb ?_
  have:k = 1:=by omega
  rw [this] at ek; exact ek
 have k3:k + 1 < r1.length:=by
  refine Classical.byContradiction fun z=>qa ?_
  have:i + k + 1 = i + r1.length:=by omega
  rw [this,cw (Nat.add_mod_right _ _)]; exact ea
 have pa:cy r1 (i + 1)≠a:=fun z=>jR Ap (i:=i) (j:=i + 1) (by omega) (by omega) (ea.trans z.symm)
 have qb:cy r1 (i + k + 1)≠b:=fun z=>jR Ap (i:=i + k) (j:=i + k + 1) (by omega) (by omega) (ek.trans z.symm)
 have pq:cy r1 (i + 1)≠cy r1 (i + k + 1):=jR Ap (by omega) (by omega)
 have DC:=g1.dt (i + 1)
 have QT:=g1.dt (i + k + 1)
 -- a place in qT first land
 have gr:=g1.bM hi
 have rl:(bM r1 i).length = r1.length:=bF (by omega)
 have XA:∀ m,cy (bM r1 i) m = cy r1 (m + i):=fun m=>dW hi m
 have zY:[0,1,k,k + 1].map (cy (bM r1 i)) = [a,cy r1 (i + 1),b,cy r1 (i + k + 1)]:=by
  simp only [List.map_cons,List.map_nil,XA]
  rw [show 0 + i = i by omega,ea,show 1 + i = i + 1 by omega,show k + i = i + k by omega,ek,show k + 1 + i = i + k + 1 by omega]
 obtain ⟨M,pM⟩:=s.put gr (by rw [yf hi]; exact (eL r1 i).nodup_iff.mpr QL) (cs:=[0,1,k,k + 1]) (by simp) (by simp; omega) (by rw [rl]; simp; omega)
  (by rw [zY]; simp [Ne.symm pa,ab,Ne.symm qa,pb,pq,Ne.symm qb])
 have WY:Good M r2:=pM.good g2 fun j c=>by rw [mF hi]; exact off j _
 -- a place in qT second land
 obtain ⟨i2,xQ,OM⟩:=cR a2
 obtain ⟨j2,BQ,OL⟩:=cR b2
 have Zu:i2≠j2:=fun z=>ab (by rw [← OM,← OL,z])
 obtain ⟨AG,XR,XQ,XO,Py⟩:∃ AG:List Nat,AG≠[]∧AG.Pairwise (· < ·)∧(∀ c∈AG,c < r2.length)∧(AG.map (cy r2) = [a,b]∨AG.map (cy r2) = [b,a]):=by
  by_cases z:i2 < j2
  ·exact ⟨[i2,j2],by simp,by simp [z],by simp; omega,.inl (by simp [OM,OL])⟩
  ·exact ⟨[j2,i2],by simp,by simp; omega,by simp; omega,.inr (by simp [OM,OL])⟩
 have XN:(AG.map (cy r2)).Nodup:=by rcases Py with z | z <;> rw [z] <;> simp [ab,Ne.symm ab]
 obtain ⟨N,pN⟩:=pM.jZ.put WY QK XR XQ XO XN
 have Ml:=pM.len
 have Nl:=pN.len
 have ar:0≤a∧a < L.length:=by have:=g1.dt i; rw [e1] at this; exact ⟨this.lo,this.hi⟩
 have br:0≤b∧b < L.length:=by have:=g1.dt (i + k); rw [e2] at this; exact ⟨this.lo,this.hi⟩
 have pr:0≤cy r1 (i + 1)∧cy r1 (i + 1) < L.length:=⟨DC.lo,DC.hi⟩
 have qr:0≤cy r1 (i + k + 1)∧cy r1 (i + k + 1) < L.length:=⟨QT.lo,QT.hi⟩
 generalize cy r1 (i + 1) = p at *
 generalize cy r1 (i + k + 1) = q at *
 have rv:rowOf N (L.length:Int) = [a,p,b,q]:=by
  rw [pN.keep (L.length:Int) (by omega) (by omega) fun c hc z=>?_,pM.new,zY]
  have:cy r2 c∈AG.map (cy r2):=List.mem_map.mpr ⟨c,hc,rfl⟩
  rw [z] at this
  rcases Py with w | w <;> (rw [w] at this; simp at this; omega)
 have uZ:∀ x,x = a∨x = b→Dt N ((M.length:Int),x)∧Dt N (x,(M.length:Int)):=fun x hx=>by
  have:Dt N ((M.length:Int),x):=⟨by omega,by omega,by
   show x∈rowOf N (M.length:Int)
   rw [pN.new]
   rcases Py with w | w <;> rw [w] <;> simp [hx,Or.comm]⟩
  obtain ⟨c0,XW,_,c3⟩:=this.back pN.jZ.map
  exact ⟨this,c0,XW,c3⟩
 have up:∀ d,Dt L d→Dt N d:=fun d hd=>pN.sub _ (pM.sub _ hd)
 obtain ⟨u,nu,u0,us,ue,au,cu⟩:=gz.road (t a b p q pr.1 pr.2 qr.1 qr.2 pa pb qa qb) im pr (L.length:Int)
 have Rp:∀ y∈u,(0≤y∧y < L.length)∧y≠a∧y≠b:=fun y hy=>by
  have h:=au y hy
  have h2:=h.iA (by simp [pa,pb])
  simp at h2
  exact ⟨h.rg im pr,h2⟩
 have lu:2≤u.length:=by
  have:=List.length_pos_iff.mpr u0
  refine Classical.byContradiction fun z=>?_
  have e:u.length = 1:=by omega
  rw [e] at ue
  exact pq (us.symm.trans ue)
 refine pN.jZ.UA.Ii (v:=(L.length:Int)) (n0:=a) (n1:=p) (n2:=b) (n3:=q) (by omega) (by omega) (by rw [rv]; exact .refl _) (p:=[a,(M.length:Int),b]) (q:=u) ?_ nu ?_ ?_ ?_ (by simp) lu rfl rfl us ue ?_ fun i h0 h1=>up _ (cu i h0 h1)
 ·simp [ab]; omega
 ·simp; omega
 ·intro z; have:=(Rp _ z).1; omega
 ·intro x hx hu
  have:=Rp x hu
  simp at hx
  rcases hx with z | z | z
  ·exact this.2.1 z
  ·omega
  ·exact this.2.2 z
 ·intro i h0 h1
  simp at h1
  have:i = 1∨i = 2:=by omega
  rcases this with rfl | rfl
  ·exact (uZ a (.inl rfl)).2
  ·exact (uZ b (.inr rfl)).1
end Gm
end
section
namespace Gm
open PySem L2
theorem gz.up {L M:List (List Int)} {S:List Int} {s x:Int} (h:∀ d,Dt L d→Dt M d) (r:gz L S s x):gz M S s x:=by
 induction r with
 | here=>exact .here
 | step r e hx hS ih=>
  have d:=h _ (Reach.nD e hx)
  have:=aq d.lo d.hi
  exact gz.step ih (by simpa using this) d.mem hS
theorem gz.trans {L:List (List Int)} {S:List Int} {s x y:Int} (h:gz L S s x) (k:gz L S x y):gz L S s y:=by
 induction k with
 | here=>exact h
 | step _ e hx hS ih=>exact .step ih e hx hS
theorem gz.one {L:List (List Int)} {S:List Int} {d:aj} (h:Dt L d) (hS:d.2∉S):gz L S d.1 d.2:=by
 have e:=aq h.lo h.hi
 have ex:((d.1.toNat:Nat):Int) = d.1:=Int.toNat_of_nonneg h.lo
 refine gz.step (i:=d.1.toNat) (by rw [ex]; exact .here) e h.mem hS
theorem kb.up {L M:List (List Int)} (t:kb L) (hl:M.length = L.length) (h:∀ d,Dt L d→Dt M d):kb M:=fun a b x y x0 x1 y0 y1 xa xb ya yb=>
 (t a b x y x0 (by omega) y0 (by omega) xa xb ya yb).up h
theorem FW {l:List Int} (n:l.Nodup) (h3:3≤l.length) (a b:Int):∃ z∈l,z≠a∧z≠b:=by
 refine Classical.byContradiction fun no=>?_
 have:=bN (l:=l) (r:=[a,b]) n fun x hx=>by
  by_cases e:x = a
  ·simp [e]
  ·by_cases e2:x = b
   ·simp [e2]
   ·exact absurd ⟨x,hx,e,e2⟩ no
 simp at this
 omega
theorem kb.more {L M:List (List Int)} (t:kb L) (m:aw M) (hl:M.length = L.length + 1) (h:∀ d,Dt L d→Dt M d) (h3:3≤(rowOf M (L.length:Int)).length):kb M:=by
 intro a b x y x0 x1 y0 y1 xa xb ya yb
 have n0:(0:Int)≤(L.length:Int):=by omega
 have n1:(L.length:Int) < M.length:=by omega
 obtain ⟨z,hz,za,zb⟩:=FW (m.nd _ _ (aq n0 n1)) h3 a b
 obtain ⟨z0,z1,z2,z3⟩:=cN m n0 n1 hz
 have zl:z < L.length:=by omega
 have up:∀ u w:Int,0≤u→u < L.length→0≤w→w < L.length→u≠a→u≠b→w≠a→w≠b→gz M [a,b] u w:=fun u w u0 u1 w0 w1 ua ub wa wb=>(t a b u w u0 u1 w0 w1 ua ub wa wb).up h
 by_cases ex:x = (L.length:Int)
 ·by_cases ey:y = (L.length:Int)
  ·rw [ex,ey]; exact .here
  ·have s1:gz M [a,b] x z:=by
    rw [ex]
    exact gz.one (d:=((L.length:Int),z)) ⟨n0,n1,hz⟩ (by simp [za,zb])
   exact s1.trans (up z y z0 zl y0 (by omega) za zb ya yb)
 ·by_cases ey:y = (L.length:Int)
  ·refine (up x z x0 (by omega) z0 zl xa xb za zb).trans ?_
   rw [ey]
   rw [ey] at ya yb
   exact gz.one (d:=(z,(L.length:Int))) ⟨z0,z1,z3⟩ (by simp [ya,yb])
  ·exact up x y x0 (by omega) y0 (by omega) xa xb ya yb
theorem kb.Kx {L:List (List Int)} (t:kb L) (m:aw L) (h4:4≤L.length) {x:Int} (x0:0≤x) (x1:x < L.length):3≤(rowOf L x).length:=by
 refine Classical.byContradiction fun no=>?_
 obtain ⟨a,b,C1⟩:∃ a b:Int,∀ z∈rowOf L x,z = a∨z = b:=by
  match hr:rowOf L x with
  | []=>exact ⟨0,0,fun z hz=>by cases hz⟩
  | [u]=>exact ⟨u,u,fun z hz=>.inl (List.mem_singleton.mp hz)⟩
  | [u,w]=>exact ⟨u,w,fun z hz=>by simpa using hz⟩
  | u :: w :: v :: l=>rw [hr] at no; simp at no
 have xn:∀ z∈rowOf L x,z≠x:=fun z hz=>(cN m x0 x1 hz).2.2.1
 -- KC place PH x,a,b
 have ⟨y,hy,ya,yb,yx⟩:∃ y:Int,(0≤y∧y < L.length)∧y≠a∧y≠b∧y≠x:=by
  refine Classical.byContradiction fun wX=>?_
  have:=bN (l:=aT L.length) (r:=[a,b,x]) (eK _) fun z hz=>by
   have hz:=aV.mp hz
   by_cases e1:z = a
   ·simp [e1]
   ·by_cases e2:z = b
    ·simp [e2]
    ·by_cases e3:z = x
     ·simp [e3]
     ·exact absurd ⟨z,hz,e1,e2,e3⟩ wX
  rw [bh] at this
  simp at this
  omega
 by_cases hx:x = a∨x = b
 ·-- then x has at most one wY,K0 parts it
  obtain ⟨c,hc⟩:∃ c:Int,∀ z∈rowOf L x,z = c:=by
   rcases hx with e | e
   ·exact ⟨b,fun z hz=>(C1 z hz).resolve_left fun w=>xn z hz (w.trans e.symm)⟩
   ·exact ⟨a,fun z hz=>(C1 z hz).resolve_right fun w=>xn z hz (w.trans e.symm)⟩
  have ⟨w,hw,wc,wx⟩:∃ w:Int,(0≤w∧w < L.length)∧w≠c∧w≠x:=by
   refine Classical.byContradiction fun wX=>?_
   have:=bN (l:=aT L.length) (r:=[c,x]) (eK _) fun z hz=>by
    have hz:=aV.mp hz
    by_cases e1:z = c
    ·simp [e1]
    ·by_cases e3:z = x
     ·simp [e3]
     ·exact absurd ⟨z,hz,e1,e3⟩ wX
   rw [bh] at this
   simp at this
   omega
  have cx:x≠c:=fun e=>by
   have h:=t y y x w x0 x1 hw.1 hw.2 (Ne.symm yx) (Ne.symm yx)
   have only:∀ u,gz L [y,y] x u→u = x:=fun u hu=>by
    induction hu with
    | here=>rfl
    | @step i l u' _ e' sH _ ih=>
     have:rowOf L x = l:=by rw [← ih]; exact cP e'
     rw [← this] at sH
     exact absurd ((hc _ sH).trans e.symm) (xn _ sH)
   by_cases wy:w = y
   ·obtain ⟨v,hv,vy,vx⟩:∃ v:Int,(0≤v∧v < L.length)∧v≠y∧v≠x:=by
     refine Classical.byContradiction fun wX=>?_
     have:=bN (l:=aT L.length) (r:=[y,x]) (eK _) fun z hz=>by
      have hz:=aV.mp hz
      by_cases e1:z = y
      ·simp [e1]
      ·by_cases e3:z = x
       ·simp [e3]
       ·exact absurd ⟨z,hz,e1,e3⟩ wX
     rw [bh] at this
     simp at this
     omega
    exact vx (only v (t y y x v x0 x1 hv.1 hv.2 (Ne.symm yx) (Ne.symm yx) vy vy))
   ·exact wx (only w (h wy wy))
  have h:=t c c x w x0 x1 hw.1 hw.2 cx cx wc wc
  have only:∀ u,gz L [c,c] x u→u = x:=fun u hu=>by
   induction hu with
   | here=>rfl
   | @step i l u' _ e' sH hS ih=>
    have:rowOf L x = l:=by rw [← ih]; exact cP e'
    rw [← this] at sH
    exact absurd (by simp [hc _ sH]) hS
  exact wx (only w h)
 ·have xa:x≠a:=fun e=>hx (.inl e)
  have xb:x≠b:=fun e=>hx (.inr e)
  have h:=t a b x y x0 x1 hy.1 hy.2 xa xb ya yb
  have only:∀ u,gz L [a,b] x u→u = x:=fun u hu=>by
   induction hu with
   | here=>rfl
   | @step i l u' _ e' sH hS ih=>
    have:rowOf L x = l:=by rw [← ih]; exact cP e'
    rw [← this] at sH
    exact absurd (by simpa using C1 _ sH) hS
  exact yx (only y h)
theorem Bk {l:List Int} {a z:Int} (n:l.Nodup) (ha:a∈l) (hz:z∈l) (ne:a≠z) (h1:pre l a = z) (h2:pre l z = a):l.length≤2:=by
 have ia:=List.idxOf_lt_length_iff.mpr ha
 have iz:=List.idxOf_lt_length_iff.mpr hz
 have at_:∀ {x:Int},x∈l→l.idxOf (pre l x) = if l.idxOf x = 0 then l.length - 1 else l.idxOf x - 1:=fun {x} hx=>by
  have hi:=List.idxOf_lt_length_iff.mpr hx
  unfold pre cy
  rw [md hi]
  have hj:(if l.idxOf x = 0 then l.length - 1 else l.idxOf x - 1) < l.length:=by split <;> omega
  rw [List.getD_eq_getElem?_getD,List.getElem?_eq_getElem hj,Option.getD_some]
  exact zv n hj
 have e1:=at_ ha
 have e2:=at_ hz
 rw [h1] at e1
 rw [h2] at e2
 split at e1 <;> split at e2 <;> omega
section
variable {L:List (List Int)} {R:List (List aj)}
theorem jP {c:List aj} {d:aj} (h:d∈c):d.1∈c.map (·.1):=List.mem_map.mpr ⟨d,h,rfl⟩
theorem oX (D:Dec L R) {c:List aj} (hc:c∈R) {d:aj} (h:d∈c):d.2∈c.map (·.1):=List.mem_map.mpr ⟨nx L d,(D.hZ c hc).on h,rfl⟩
theorem kb.one (t:kb L) (s:bb L) (sm:jS L) (h4:4≤L.length) (D:Dec L R) {c1 c2:List aj} (h1:c1∈R) (h2:c2∈R) (ne:c1≠c2) {d e:aj} (d1:d∈c1) (e1:e∈c1) (d2:(d.2,d.1)∈c2) (e2:(e.2,e.1)∈c2):d = e:=by
 refine Classical.byContradiction fun de=>?_
 have im:=s.map
 have Fs:∀ {c:List aj},c∈R→(c.map (·.1)).Nodup:=fun {c} hc=>by
  obtain ⟨g,hs,n⟩:=D.good im hc
  exact sm.ring g (by rw [hs]; exact n)
 have inD:∀ {c:List aj} {x:aj},c∈R→x∈c→Dt L x:=fun hc hx=>(D.mem _).mp (List.mem_flatten.mpr ⟨_,hc,hx⟩)
 have only:∀ {x:aj},x∈c1→x∈c2→False:=fun ha hb=>ne (eY D.nd h1 h2 ha hb)
 have U4:∀ {c:List aj} {a b:Int},c∈R→(a,b)∈c→(b,a)∉c:=fun hc ha=>sm.apart s (by omega) D (inD hc ha) hc ha
 obtain ⟨a,b⟩:=d
 have ab:a≠b:=fun z=>((inD h1 d1).back im).2.2.1 z.symm
 have a1:=jP d1
 have b1:=oX D h1 d1
 have b2:=jP d2
 have a2:=oX D h2 d2
 obtain ⟨z,z1,z2,za,zb⟩:∃ z,z∈c1.map (·.1)∧z∈c2.map (·.1)∧z≠a∧z≠b:=by
  by_cases q1:e.1 = a∨e.1 = b
  ·by_cases q2:e.2 = a∨e.2 = b
   ·exfalso
    have en:e.1≠e.2:=fun w=>((inD h1 e1).back im).2.2.1 w.symm
    rcases q1 with q1 | q1 <;> rcases q2 with q2 | q2
    ·exact en (q1.trans q2.symm)
    ·exact de (Prod.ext q1.symm q2.symm)
    ·have:e = (b,a):=Prod.ext q1 q2
     rw [this] at e1
     exact U4 h1 d1 e1
    ·exact en (q1.trans q2.symm)
   ·exact ⟨e.2,oX D h1 e1,jP e2,fun w=>q2 (.inl w),fun w=>q2 (.inr w)⟩
  ·exact ⟨e.1,jP e1,oX D h2 e2,fun w=>q1 (.inl w),fun w=>q1 (.inr w)⟩
 have fi:∀ {x y:aj},x∈c1→y∈c1→x.1 = y.1→x = y:=fun hx hy=>fE (Fs h1) hx hy
 have si:∀ {x y:aj},x∈c1→y∈c1→x.2 = y.2→x = y:=fun {x y} hx hy w=>dA im (inD h1 hx) (inD h1 hy) (fE (Fs h1) ((D.hZ c1 h1).on hx) ((D.hZ c1 h1).on hy) w)
 have k1:(z,a)∈c1:=by
  rcases t.meet s sm D h1 h2 ne (Ne.symm za) a1 z1 a2 z2 with w | w
  ·exact absurd (congrArg Prod.snd (fi w d1 rfl)) zb
  ·exact w
 have k2:(b,z)∈c1:=by
  rcases t.meet s sm D h1 h2 ne (Ne.symm zb) b1 z1 b2 z2 with w | w
  ·exact w
  ·exact absurd (congrArg Prod.fst (si w d1 rfl)) za
 have k3:(z,b)∈c2:=by
  rcases t.meet s sm D h2 h1 (Ne.symm ne) (Ne.symm zb) b2 z2 b1 z1 with w | w
  ·exact (only k2 w).elim
  ·exact w
 have e3:nx L (a,b) = (b,z):=fE (Fs h1) ((D.hZ c1 h1).on d1) k2 rfl
 have e4:nx L (z,b) = (b,a):=fE (Fs h2) ((D.hZ c2 h2).on k3) d2 rfl
 obtain ⟨b0,bl,_,ba⟩:=(inD h1 d1).back im
 have bz:z∈rowOf L b:=(inD h1 k2).mem
 have:=Bk (im.nd _ _ (aq b0 bl)) ba bz (Ne.symm za) (congrArg Prod.snd e3) (congrArg Prod.snd e4)
 have:=t.Kx im h4 b0 bl
 omega
theorem kb.unlike (t:kb L) (s:bb L) (sm:jS L) (h4:4≤L.length) (D:Dec L R) {a b:Int} (a0:0≤a) (a1:a < L.length) (h:∀ c∈R,a∈c.map (·.1)→b∈c.map (·.1)):a = b:=by
 refine Classical.byContradiction fun ab=>?_
 have im:=s.map
 have Fs:∀ {c:List aj},c∈R→(c.map (·.1)).Nodup:=fun {c} hc=>by
  obtain ⟨g,hs,n⟩:=D.good im hc
  exact sm.ring g (by rw [hs]; exact n)
 -- three lands at a
 have dg:=t.Kx im h4 a0 a1
 have nd:=im.nd _ _ (aq a0 a1)
 obtain ⟨x,y,z,l,hr⟩:∃ x y z l,rowOf L a = x :: y :: z :: l:=by
  match hr:rowOf L a with
  | []=>rw [hr] at dg; simp at dg
  | [_]=>rw [hr] at dg; simp at dg
  | [_,_]=>rw [hr] at dg; simp at dg
  | x :: y :: z :: l=>exact ⟨x,y,z,l,rfl⟩
 rw [hr] at nd
 simp only [List.nodup_cons,List.mem_cons,not_or] at nd
 obtain ⟨⟨xy,xz,_⟩,⟨yz,_⟩,_⟩:=nd
 have land:∀ u∈rowOf L a,∃ c∈R,(a,u)∈c:=fun u hu=>by
  obtain ⟨c,hc,hm⟩:=List.mem_flatten.mp ((D.mem (a,u)).mpr ⟨a0,a1,hu⟩)
  exact ⟨c,hc,hm⟩
 obtain ⟨c1,m1,k1⟩:=land x (by rw [hr]; simp)
 obtain ⟨c2,m2,k2⟩:=land y (by rw [hr]; simp)
 obtain ⟨c3,m3,k3⟩:=land z (by rw [hr]; simp)
 have un:∀ {c e:List aj} {u w:Int},c∈R→(a,u)∈c→(a,w)∈e→u≠w→c≠e:=fun {c e u w} hc hu hw ne z=>by
  subst z
  exact ne (congrArg Prod.snd (fE (Fs hc) hu hw rfl))
 have c12:=un m1 k1 k2 xy
 have c13:=un m1 k1 k3 xz
 have c23:=un m2 k2 k3 yz
 have on:∀ {c:List aj} {u:Int},c∈R→(a,u)∈c→a∈c.map (·.1)∧b∈c.map (·.1):=fun hc hu=>⟨jP hu,h _ hc (jP hu)⟩
 obtain ⟨p1,q1⟩:=on m1 k1
 obtain ⟨p2,q2⟩:=on m2 k2
 obtain ⟨p3,q3⟩:=on m3 k3
 have w1:=t.meet s sm D m1 m2 c12 ab p1 q1 p2 q2
 have w2:=t.meet s sm D m2 m1 (Ne.symm c12) ab p2 q2 p1 q1
 have w3:=t.meet s sm D m3 m1 (Ne.symm c13) ab p3 q3 p1 q1
 have C7:∀ {c e:List aj} {d:aj},c∈R→e∈R→c≠e→d∈c→d∈e→False:=fun hc he ne h1 h2=>ne (eY D.nd hc he h1 h2)
 rcases w1 with w1 | w1 <;> rcases w2 with w2 | w2 <;> rcases w3 with w3 | w3
 ·exact C7 m1 m2 c12 w1 w2
 ·exact C7 m1 m2 c12 w1 w2
 ·exact C7 m1 m3 c13 w1 w3
 ·exact C7 m2 m3 c23 w2 w3
 ·exact C7 m2 m3 c23 w2 w3
 ·exact C7 m1 m3 c13 w1 w3
 ·exact C7 m1 m2 c12 w1 w2
 ·exact C7 m1 m2 c12 w1 w2
end
end Gm
end
section
namespace Gm
open PySem L2
theorem uz {l:List Int} (n:l.Nodup) (h0:0 < l.length) (m:Nat):l.idxOf (cy l m) = m % l.length:=by
 have hm:=Nat.mod_lt m h0
 unfold cy
 rw [List.getD_eq_getElem?_getD,List.getElem?_eq_getElem hm,Option.getD_some]
 exact zv n hm
theorem jG {l:List Int} (n:l.Nodup) (h0:0 < l.length) (m:Nat):pre l (cy l (m + 1)) = cy l m:=by
 unfold pre
 rw [uz n h0]
 refine cw ?_
 rw [show (m + 1) % l.length + l.length - 1 = (m + 1) % l.length + (l.length - 1) by omega,Nat.mod_add_mod,show m + 1 + (l.length - 1) = m + l.length by omega,Nat.add_mod_right]
theorem uJ {l:List Int} (f:Int→Int) (h0:0 < l.length) (m:Nat):cy (l.map f) m = f (cy l m):=by
 have hm:=Nat.mod_lt m h0
 unfold cy
 rw [List.length_map,List.getD_eq_getElem?_getD,List.getD_eq_getElem?_getD,List.getElem?_map,List.getElem?_eq_getElem hm]
 rfl
abbrev Du (R:List (List Int)):List (List Int):=R.map (gE R 0)
def dl (R:List (List Int)) (d:aj):aj:=(lo R d,lo R (d.2,d.1))
section
variable {L R:List (List Int)}
theorem dZ (ld:bq L R) {d:aj} (hd:Dt L d):∃ (i:Nat) (r:List Int) (j:Nat),R[i]? = some r∧j < r.length∧d = dj r j∧lo R d = i:=by
 obtain ⟨r,hr,hm⟩:=List.mem_flatMap.mp (ld.all d hd)
 obtain ⟨i,hi⟩:=List.mem_iff_getElem?.mp hr
 obtain ⟨k,hk,e⟩:=List.mem_iff_getElem.mp hm
 rw [bQ] at hk
 have:=n6 (s:=0) hk
 rw [List.getElem?_eq_getElem (by rw [bQ]; exact hk),e] at this
 exact ⟨i,r,k,hi,hk,Option.some.inj this,vK ld.nd hi hm⟩
theorem i7 (ld:bq L R) {r:List Int} (hr:r∈R):(sh 0 r).Nodup:=(List.pairwise_flatten.mp ld.dec.nd).1 _ (List.mem_map.mpr ⟨r,hr,rfl⟩)
theorem jm (ld:bq L R) {i:Nat} {r:List Int} (hr:R[i]? = some r) (j:Nat):lo R (dj r j) = i:=by
 have g:=ld.good r (List.mem_of_getElem? hr)
 exact vK ld.nd hr ((cG (by have:=g.two; omega)).mpr ⟨j,rfl⟩)
theorem CP (ld:bq L R) {d:aj} (hd:Dt L d):lo R (nx L d) = lo R d:=by
 obtain ⟨i,r,j,hr,hj,rfl,e⟩:=dZ ld hd
 rw [(ld.good r (List.mem_of_getElem? hr)).st,jm ld hr,e]
theorem jQ {i:Nat} {r:List Int} (hr:R[i]? = some r):rowOf (Du R) (i:Int) = gE R 0 r:=cP (by rw [List.getElem?_map,hr]; rfl)
theorem dD:(Du R).length = R.length:=List.length_map _
theorem pU {r:List Int} {x:Int} (g:Good L r):x∈gE R 0 r↔∃ j,x = lo R ((dj r j).2,(dj r j).1):=by
 unfold gE
 rw [List.mem_map]
 constructor
 ·rintro ⟨d,hd,rfl⟩
  obtain ⟨j,rfl⟩:=(cG (by have:=g.two; omega)).mp hd
  exact ⟨j,rfl⟩
 ·rintro ⟨j,rfl⟩
  exact ⟨dj r j,(cG (by have:=g.two; omega)).mpr ⟨j,rfl⟩,rfl⟩
theorem oD (ld:bq L R) (im:aw L) {d:aj} (hd:Dt L d):Dt (Du R) (dl R d):=by
 obtain ⟨i,r,j,hr,hj,rfl,e⟩:=dZ ld hd
 have rg:=lU ld hd
 refine ⟨rg.1,by rw [dD]; exact rg.2,?_⟩
 show lo R _∈rowOf (Du R) (lo R (dj r j))
 rw [e,jQ hr]
 exact (pU (ld.good r (List.mem_of_getElem? hr))).mpr ⟨j,rfl⟩
theorem C5 (ld:bq L R) {e:aj} (he:Dt (Du R) e):∃ d,Dt L d∧dl R d = e:=by
 have h1:=he.hi
 rw [dD] at h1
 have h0:=he.lo
 obtain ⟨i,hi⟩:=Int.eq_ofNat_of_zero_le h0
 have il:i < R.length:=by omega
 have hr:R[i]? = some R[i]:=List.getElem?_eq_getElem il
 have hm:=he.mem
 rw [hi] at hm
 have vU:e.2∈gE R 0 R[i]:=by rw [← jQ hr]; exact hm
 have g:=ld.good R[i] (List.getElem_mem il)
 obtain ⟨j,ej⟩:=(pU g).mp vU
 exact ⟨dj R[i] j,g.dt j,Prod.ext ((jm ld hr j).trans hi.symm) ej.symm⟩
theorem uI (ld:bq L R) (eU:mU (Du R)) {d e:aj} (hd:Dt L d) (he:Dt L e) (q:dl R d = dl R e):d = e:=by
 obtain ⟨i,r,j,hr,hj,rfl,e1⟩:=dZ ld hd
 obtain ⟨i',r',j',BL,RK,rfl,e2⟩:=dZ ld he
 have q1:lo R (dj r j) = lo R (dj r' j'):=congrArg Prod.fst q
 have q2:lo R ((dj r j).2,(dj r j).1) = lo R ((dj r' j').2,(dj r' j').1):=congrArg Prod.snd q
 rw [e1,e2] at q1
 have ii:i = i':=by omega
 subst ii
 rw [hr] at BL
 cases BL
 have nd:=(eU i _ (by rw [List.getElem?_map,hr]; rfl)).2
 have a1:=jH (R:=R) (s:=0) hj
 have a2:=jH (R:=R) (s:=0) RK
 rw [Nat.add_zero] at a1 a2
 rw [q2,← a2] at a1
 have l1:j < (gE R 0 r).length:=by rw [df]; exact hj
 have l2:j' < (gE R 0 r).length:=by rw [df]; exact RK
 rw [List.getElem?_eq_getElem l1,List.getElem?_eq_getElem l2] at a1
 have:=(List.getElem_inj nd).mp (Option.some.inj a1)
 rw [this]
theorem mE (ld:bq L R) (im:aw L) (eU:mU (Du R)):aw (Du R):=by
 refine hW fun x x0 x1=>?_
 obtain ⟨i,rfl⟩:=Int.eq_ofNat_of_zero_le x0
 have il:i < R.length:=by rw [dD] at x1; omega
 have hr:R[i]? = some R[i]:=List.getElem?_eq_getElem il
 obtain ⟨f1,f2⟩:=eU i (gE R 0 R[i]) (by rw [List.getElem?_map,hr]; rfl)
 rw [jQ hr]
 refine ⟨f2,fun y hy=>?_⟩
 have g:=ld.good R[i] (List.getElem_mem il)
 obtain ⟨j,ej⟩:=(pU g).mp hy
 have bk:=qC im (g.dt j)
 have rg:=lU ld bk
 rw [← ej] at rg
 refine ⟨rg.1,by rw [dD]; exact rg.2,fun z=>f1 (z▸hy),?_⟩
 have:=(oD ld im bk).mem
 show (i:Int)∈rowOf (Du R) y
 rw [ej,← jm ld hr j]
 exact this
theorem HX (ld:bq L R) (im:aw L) (eU:mU (Du R)) {e:aj} (he:Dt L e):nx (Du R) (dl R ((nx L e).2,(nx L e).1)) = dl R e:=by
 obtain ⟨i,r,j,hr,hj,rfl,e1⟩:=dZ ld he
 have g:=ld.good r (List.mem_of_getElem? hr)
 have r0:0 < r.length:=by have:=g.two; omega
 rw [g.st]
 have s:∀ d:aj,dl R (d.2,d.1) = (lo R (d.2,d.1),lo R d):=fun d=>rfl
 rw [s]
 unfold nx
 dsimp only
 rw [jm ld hr,jQ hr]
 have nd:=(eU i _ (by rw [List.getElem?_map,hr]; rfl)).2
 have c1:=uc (R:=R) (s:=0) r0 (j + 1)
 rw [Nat.add_zero] at c1
 rw [← c1,jG nd (by rw [df]; exact r0),uc r0,Nat.add_zero]
 unfold dl
 rw [jm ld hr]
def rd (L R:List (List Int)) (b:Int):List Int:=(rowOf L b).map fun x=>lo R (x,b)
theorem j4 (ld:bq L R) (im:aw L) {b:Int} (b0:0≤b) (b1:b < L.length) (h0:0 < (rowOf L b).length) (m:Nat):dj (rd L R b) m = dl R (cy (rowOf L b) m,b):=by
 have nd:=im.nd _ _ (aq b0 b1)
 have mem:=gp (j:=m + 1) h0
 have bk:=cN im b0 b1 mem
 have dt:Dt L (cy (rowOf L b) (m + 1),b):=⟨bk.1,bk.2.1,bk.2.2.2⟩
 have e1:nx L (cy (rowOf L b) (m + 1),b) = (b,cy (rowOf L b) m):=Prod.ext rfl (jG nd h0 m)
 have e2:=CP ld dt
 rw [e1] at e2
 unfold dj rd dl
 rw [uJ _ h0,uJ _ h0,← e2]
theorem Bb (ld:bq L R) (im:aw L) (eU:mU (Du R)) {b:Int} (b0:0≤b) (b1:b < L.length) (h2:2≤(rowOf L b).length):Good (Du R) (rd L R b):=by
 have h0:0 < (rowOf L b).length:=by omega
 have nd:=im.nd _ _ (aq b0 b1)
 have dt:∀ m,Dt L (cy (rowOf L b) m,b):=fun m=>by
  have bk:=cN im b0 b1 (gp (j:=m) h0)
  exact ⟨bk.1,bk.2.1,bk.2.2.2⟩
 refine ⟨by unfold rd; rw [List.length_map]; exact h2,fun m=>by rw [j4 ld im b0 b1 h0]; exact oD ld im (dt m),fun m=>?_⟩
 rw [j4 ld im b0 b1 h0,j4 ld im b0 b1 h0]
 have e1:nx L (cy (rowOf L b) (m + 1),b) = (b,cy (rowOf L b) m):=Prod.ext rfl (jG nd h0 m)
 have:=HX ld im eU (dt (m + 1))
 rw [e1] at this
 exact this
end
theorem Good.along {L:List (List Int)} {r q:List Int} (gr:Good L r) (gq:Good L q) {i j:Nat} (h:dj r i = dj q j) (m:Nat):dj r (i + m) = dj q (j + m):=by
 induction m with
 | zero=>exact h
 | succ m ih=>rw [← Nat.add_assoc,← Nat.add_assoc,← gr.st,← gq.st,ih]
theorem Good.jD {L:List (List Int)} {r q:List Int} (gr:Good L r) (gq:Good L q) (nr:(sh 0 r).Nodup) (nq:(sh 0 q).Nodup) {i j:Nat} (h:dj r i = dj q j):r.length = q.length∧∃ c,c < q.length∧∀ m,dj r m = dj q (m + c):=by
 have r0:0 < r.length:=by have:=gr.two; omega
 have q0:0 < q.length:=by have:=gq.two; omega
 have fw:=gr.along gq h
 -- from any number
 have R5:∀ m,∃ m',dj r m = dj q m':=fun m=>⟨j + (m + i * r.length - i),by
  have:i≤i * r.length:=Nat.le_mul_of_pos_right _ r0
  rw [← fw,show i + (m + i * r.length - i) = m + r.length * i by rw [Nat.mul_comm r.length i]; omega]
  exact (ck (Nat.add_mul_mod_self_left _ _ _)).symm⟩
 have bw:=gq.along gr h.symm
 have XX:∀ m,∃ m',dj q m = dj r m':=fun m=>⟨i + (m + j * q.length - j),by
  have:j≤j * q.length:=Nat.le_mul_of_pos_right _ q0
  rw [← bw,show j + (m + j * q.length - j) = m + q.length * j by rw [Nat.mul_comm q.length j]; omega]
  exact (ck (Nat.add_mul_mod_self_left _ _ _)).symm⟩
 have le:(sh 0 r).length = (sh 0 q).length:=len_eq nr nq fun d=>by
  rw [cG r0,cG q0]
  exact ⟨fun ⟨k,hk⟩=>by obtain ⟨k',e⟩:=R5 k; exact ⟨k',hk.trans e⟩,fun ⟨k,hk⟩=>by obtain ⟨k',e⟩:=XX k; exact ⟨k',hk.trans e⟩⟩
 rw [bQ,bQ] at le
 refine ⟨le,?_⟩
 obtain ⟨m',e0⟩:=R5 0
 refine ⟨m' % q.length,Nat.mod_lt _ q0,fun m=>?_⟩
 have:=gr.along gq e0 m
 rw [Nat.zero_add] at this
 rw [this]
 exact ck (by rw [Nat.add_mod_mod,Nat.add_comm])
section
variable {L R S:List (List Int)}
structure Ak (L R:List (List Int)):Prop where
 im:aw L
 ld:bq L R
 eU:mU (Du R)
 two:∀ x:Int,0≤x→x < L.length→2≤(rowOf L x).length
theorem Ak.dt (D:Ak L R) {b:Int} (b0:0≤b) (b1:b < L.length) (m:Nat):Dt L (cy (rowOf L b) m,b):=by
 have h0:0 < (rowOf L b).length:=by have:=D.two b b0 b1; omega
 obtain ⟨x0,x1,_,x3⟩:=Dt.back (d:=(b,cy (rowOf L b) m)) ⟨b0,b1,gp h0⟩ D.im
 exact ⟨x0,x1,x3⟩
structure cz (L R S:List (List Int)):Prop where
 im:aw L
 ld:bq L R
 eU:mU (Du R)
 ls:bq (Du R) S
 two:∀ x:Int,0≤x→x < L.length→2≤(rowOf L x).length
def io (L R S:List (List Int)) (b:Int):Int:=lo S (dl R (cy (rowOf L b) 0,b))
theorem cz.dt (D:cz L R S) {b:Int} (b0:0≤b) (b1:b < L.length) (m:Nat):Dt L (cy (rowOf L b) m,b):=by
 have bk:=cN D.im b0 b1 (gp (j:=m) (by have:=D.two b b0 b1; omega))
 exact ⟨bk.1,bk.2.1,bk.2.2.2⟩
theorem cz.rd (D:cz L R S) {b:Int} (b0:0≤b) (b1:b < L.length):Good (Du R) (rd L R b):=Bb D.ld D.im D.eU b0 b1 (D.two b b0 b1)
theorem cz.j4 (D:cz L R S) {b:Int} (b0:0≤b) (b1:b < L.length) (m:Nat):dj (Gm.rd L R b) m = dl R (cy (rowOf L b) m,b):=Gm.j4 D.ld D.im b0 b1 (by have:=D.two b b0 b1; omega) m
theorem cz.Gr (D:cz L R S) {b:Int} (b0:0≤b) (b1:b < L.length):(sh 0 (Gm.rd L R b)).Nodup:=by
 have h0:0 < (rowOf L b).length:=by have:=D.two b b0 b1; omega
 have nd:=D.im.nd _ _ (aq b0 b1)
 have e:sh 0 (Gm.rd L R b) = (rowOf L b).map fun x=>dl R (x,b):=by
  refine List.ext_getElem? fun j=>?_
  by_cases hj:j < (rowOf L b).length
  ·rw [n6 (by unfold Gm.rd; rw [List.length_map]; exact hj),List.getElem?_map,List.getElem?_eq_getElem hj,Nat.add_zero,D.j4 b0 b1,dk hj]
   rfl
  ·rw [List.getElem?_eq_none (by rw [bQ]; unfold Gm.rd; rw [List.length_map]; omega),List.getElem?_eq_none (by rw [List.length_map]; omega)]
 rw [e]
 refine List.pairwise_map.mpr (nd.imp_of_mem fun {x y} hx hy ne q=>ne ?_)
 have bx:=cN D.im b0 b1 hx
 have FJ:=cN D.im b0 b1 hy
 exact congrArg Prod.fst (uI D.ld D.eU (d:=(x,b)) (e:=(y,b)) ⟨bx.1,bx.2.1,bx.2.2.2⟩ ⟨FJ.1,FJ.2.1,FJ.2.2.2⟩ q)
theorem cz.ring (D:cz L R S) {b:Int} (b0:0≤b) (b1:b < L.length):∃ (k:Nat) (q:List Int),S[k]? = some q∧io L R S b = k∧q.length = (rowOf L b).length∧∃ c,c < (rowOf L b).length∧∀ m,dj q m = dl R (cy (rowOf L b) (m + c),b):=by
 have hd:=oD D.ld D.im (D.dt b0 b1 0)
 obtain ⟨k,q,j,hq,hj,e,el⟩:=dZ D.ls hd
 have gq:=D.ls.good q (List.mem_of_getElem? hq)
 have nq:(sh 0 q).Nodup:=i7 D.ls (List.mem_of_getElem? hq)
 obtain ⟨le,c,hc,all⟩:=gq.jD (D.rd b0 b1) nq (D.Gr b0 b1) (i:=j) (j:=0) (by rw [← e,D.j4 b0 b1])
 have lr:(Gm.rd L R b).length = (rowOf L b).length:=List.length_map _
 rw [lr] at le hc
 exact ⟨k,q,hq,el,le,c,hc,fun m=>by rw [all,D.j4 b0 b1]⟩
end
end Gm
end
section
namespace Gm
open PySem L2
section
variable {L R S:List (List Int)}
theorem cz.CS (D:cz L R S) {b x:Int} (b0:0≤b) (b1:b < L.length) (hx:x∈rowOf L b):lo S (dl R (x,b)) = io L R S b:=by
 obtain ⟨k,q,hq,ek,ql,c,hc,all⟩:=D.ring b0 b1
 obtain ⟨i,hi,ei⟩:=cR hx
 have h0:0 < (rowOf L b).length:=by omega
 have e:dl R (x,b) = dj q (i + ((rowOf L b).length - c)):=by
  rw [all,← ei]
  congr 2
  rw [show i + ((rowOf L b).length - c) + c = i + (rowOf L b).length by omega]
  exact (cw (Nat.add_mod_right _ _)).symm
 rw [e,jm D.ls hq,ek]
theorem cz.CQ (D:cz L R S) {b:Int} (b0:0≤b) (b1:b < L.length):0≤io L R S b∧io L R S b < S.length:=lU D.ls (oD D.ld D.im (D.dt b0 b1 0))
theorem cz.qc (D:cz L R S) {a b:Int} (a0:0≤a) (a1:a < L.length) (b0:0≤b) (b1:b < L.length) (h:io L R S a = io L R S b):a = b:=by
 obtain ⟨k,q,hq,ek,ql,c,hc,all⟩:=D.ring a0 a1
 obtain ⟨k',q',CU,ZF,Y7,c',qh,Qc⟩:=D.ring b0 b1
 have kk:k = k':=by omega
 subst kk
 rw [hq] at CU
 cases CU
 have e:=(all 0).symm.trans (Qc 0)
 exact congrArg Prod.snd (uI D.ld D.eU (D.dt a0 a1 _) (D.dt b0 b1 _) e)
theorem cz.p9 (D:cz L R S) {k:Nat} (hk:k < S.length):∃ b:Int,0≤b∧b < L.length∧io L R S b = k:=by
 have hq:S[k]? = some S[k]:=List.getElem?_eq_getElem hk
 have g:=D.ls.good S[k] (List.getElem_mem hk)
 obtain ⟨d,hd,e⟩:=C5 D.ld (g.dt 0)
 obtain ⟨c0,c1,c2,c3⟩:=hd.back D.im
 refine ⟨d.2,c0,c1,?_⟩
 have:=D.CS (b:=d.2) (x:=d.1) c0 c1 c3
 rw [← this,show dl R (d.1,d.2) = dj S[k] 0 from e,jm D.ls hq]
theorem cz.len (D:cz L R S):S.length = L.length:=by
 have h1:=bN (l:=(aT L.length).map (io L R S)) (r:=aT S.length) (List.pairwise_map.mpr ((eK _).imp_of_mem fun {a b} ha hb ne q=>ne (D.qc (aV.mp ha).1 (aV.mp ha).2 (aV.mp hb).1 (aV.mp hb).2 q))) fun x hx=>by
  obtain ⟨b,hb,rfl⟩:=List.mem_map.mp hx
  exact aV.mpr (D.CQ (aV.mp hb).1 (aV.mp hb).2)
 have h2:=bN (l:=aT S.length) (r:=(aT L.length).map (io L R S)) (eK _) fun x hx=>by
  obtain ⟨x0,x1⟩:=aV.mp hx
  obtain ⟨k,rfl⟩:=Int.eq_ofNat_of_zero_le x0
  obtain ⟨b,b0,b1,e⟩:=D.p9 (k:=k) (by omega)
  exact List.mem_map.mpr ⟨b,aV.mpr ⟨b0,b1⟩,e⟩
 rw [List.length_map,bh,bh] at h1 h2
 omega
theorem Ak.cT (D:Ak L R):(Gm.cT (Du R) (Du R).length).length = (Gm.cT L L.length).length:=by
 have dm:=mE D.ld D.im D.eU
 have:=len_eq (l:=(Gm.cT L L.length).map (dl R)) (r:=Gm.cT (Du R) (Du R).length) (List.pairwise_map.mpr ((cF D.im (Nat.le_refl _)).imp_of_mem fun {a b} ha hb ne q=>ne (uI D.ld D.eU (Dt.of ha) (Dt.of hb) q))) (cF dm (Nat.le_refl _)) fun e=>by
  constructor
  ·intro h
   obtain ⟨d,hd,rfl⟩:=List.mem_map.mp h
   exact (oD D.ld D.im (Dt.of hd)).all
  ·intro h
   obtain ⟨d,hd,rfl⟩:=C5 D.ld (Dt.of h)
   exact List.mem_map.mpr ⟨d,hd.all,rfl⟩
 rw [List.length_map] at this
 exact this.symm
theorem Ak.iso (D:Ak L R):Gm.iso (Du R) = 0:=by
 unfold Gm.iso
 refine List.countP_eq_zero.mpr fun l hl=>?_
 obtain ⟨r,hr,rfl⟩:=List.mem_map.mp hl
 have g:=(D.ld.good r hr).two
 have hl:=df R 0 r
 intro z
 have z:gE R 0 r = []:=by simpa using z
 rw [z] at hl
 simp at hl
 omega
theorem Ak.zH (D:Ak L R) (hL:mP L) (h0:0 < L.length):mP (Du R):=by
 have dm:=mE D.ld D.im D.eU
 -- from any land at a place all lands at all places are XS to
 have step:∀ {d:aj},Dt L d→Reach (Du R) (lo R d) (lo R (d.2,d.1)):=fun {d} hd=>Reach.one (d:=dl R d) .here (oD D.ld D.im hd)
 have round:∀ {b:Int},0≤b→b < L.length→∀ m,Reach (Du R) (lo R (cy (rowOf L b) 0,b)) (lo R (cy (rowOf L b) m,b)):=fun {b} b0 b1 m=>by
  induction m with
  | zero=>exact .here
  | succ m ih=>
   have h0:0 < (rowOf L b).length:=by have:=D.two b b0 b1; omega
   have e1:nx L (cy (rowOf L b) (m + 1),b) = (b,cy (rowOf L b) m):=Prod.ext rfl (jG (D.im.nd _ _ (aq b0 b1)) h0 m)
   have e2:=CP D.ld (D.dt b0 b1 (m + 1))
   rw [e1] at e2
   rw [← e2]
   exact ih.trans (step (D.dt b0 b1 m))
 have at_:∀ {b x:Int},0≤b→b < L.length→x∈rowOf L b→Reach (Du R) (lo R (cy (rowOf L b) 0,b)) (lo R (x,b)):=fun {b x} b0 b1 hx=>by
  obtain ⟨i,hi,e⟩:=cR hx
  have:=round b0 b1 i
  rw [e] at this
  exact this
 have s0:(0:Int) < L.length:=by omega
 have all:∀ b:Int,Reach L 0 b→Reach (Du R) (lo R (cy (rowOf L 0) 0,0)) (lo R (cy (rowOf L b) 0,b)):=fun b rb=>by
  induction rb with
  | here=>exact .here
  | @step i l x r e hx ih=>
   have d:=Reach.nD e hx
   have bk:=d.back D.im
   have hm:x∈rowOf L (i:Int):=d.mem
   -- to qT way from x to i,Qd,and round x
   have r1:=ih.trans (at_ d.lo d.hi hm)
   have r2:=r1.trans (step (d:=(x,(i:Int))) ⟨bk.1,bk.2.1,bk.2.2.2⟩)
   have r3:=at_ bk.1 bk.2.1 bk.2.2.2
   exact r2.trans (r3.sym dm (by have:=lU D.ld (D.dt bk.1 bk.2.1 0); rw [dD]; exact this))
 refine mP.of dm (s:=lo R (cy (rowOf L 0) 0,0)) (lU D.ld (D.dt (by omega) s0 0)).1 (by rw [dD]; exact (lU D.ld (D.dt (by omega) s0 0)).2) fun x x0 x1=>?_
 rw [dD] at x1
 obtain ⟨k,rfl⟩:=Int.eq_ofNat_of_zero_le x0
 have hq:R[k]? = some R[k]:=List.getElem?_eq_getElem (by omega)
 have g:=D.ld.good R[k] (List.getElem_mem (by omega))
 have dt:=g.dt 0
 obtain ⟨c0,c1,_,c3⟩:=dt.back D.im
 have:=(all (dj R[k] 0).2 (hL _ c0 c1)).trans (at_ c0 c1 c3)
 rw [show ((dj R[k] 0).1,(dj R[k] 0).2) = dj R[k] 0 from rfl,jm D.ld hq] at this
 exact this
theorem cz.ET (D:cz L R S):Ak L R:=⟨D.im,D.ld,D.eU,D.two⟩
theorem cz.cT (D:cz L R S):(Gm.cT (Du R) (Du R).length).length = (Gm.cT L L.length).length:=D.ET.cT
theorem cz.iso (D:cz L R S):Gm.iso (Du R) = 0:=D.ET.iso
theorem cz.Hb (D:cz L R S) {b:Int} (b0:0≤b) (b1:b < L.length):aW (rowOf (Du S) (io L R S b)) ((rowOf L b).map (io L R S)):=by
 obtain ⟨k,q,hq,ek,ql,c,hc,all⟩:=D.ring b0 b1
 have h0:0 < (rowOf L b).length:=by omega
 rw [ek,jQ hq]
 refine .inr ⟨c,by rw [List.length_map]; exact hc,uK (by rw [df,bF (by rw [List.length_map]; omega),List.length_map]; exact ql) fun m=>?_⟩
 rw [dW (by rw [List.length_map]; exact hc),uc (by omega),Nat.add_zero,all,uJ _ h0]
 have hx:=gp (j:=m + c) h0
 have bk:=cN D.im b0 b1 hx
 have:=D.CS (b:=cy (rowOf L b) (m + c)) (x:=b) bk.1 bk.2.1 bk.2.2.2
 exact this
theorem cz.C4 (D:cz L R S):mU (Du S):=by
 intro k l hl
 have hk:k < S.length:=by have:=(List.getElem?_eq_some_iff.mp hl).1; rw [List.length_map] at this; exact this
 obtain ⟨b,b0,b1,e⟩:=D.p9 hk
 have h:=D.Hb b0 b1
 rw [e,cP hl] at h
 have p:=h.perm
 refine ⟨fun z=>?_,p.nodup_iff.mpr (List.pairwise_map.mpr ((D.im.nd _ _ (aq b0 b1)).imp_of_mem fun {x y} hx hy ne q=>ne ?_))⟩
 ·obtain ⟨x,hx,ex⟩:=List.mem_map.mp (p.mem_iff.mp z)
  have bk:=cN D.im b0 b1 hx
  exact bk.2.2.1 (D.qc bk.1 bk.2.1 b0 b1 (ex.trans e.symm))
 ·have bx:=cN D.im b0 b1 hx
  have FJ:=cN D.im b0 b1 hy
  exact D.qc bx.1 bx.2.1 FJ.1 FJ.2.1 q
theorem cz.lay (D:cz L R S) {nl:List Int} (hn:∀ k:Nat,k < S.length→(0≤fD nl (k:Int)∧fD nl (k:Int) < L.length)∧io L R S (fD nl (k:Int)) = k) (hl:nl.length = S.length):Lay (Du S) L (fD nl)∧nI (Du S).length nl:=by
 have sl:=D.len
 have inv:∀ {x:Int},0≤x→x < L.length→fD nl (io L R S x) = x:=fun {x} x0 x1=>by
  have rg:=D.CQ x0 x1
  obtain ⟨k,hk⟩:=Int.eq_ofNat_of_zero_le rg.1
  have:=hn k (by omega)
  rw [← hk] at this
  exact D.qc this.1.1 this.1.2 x0 x1 this.2
 refine ⟨⟨by rw [dD]; exact sl,fun i i0 i1=>?_,fun i i0 i1=>?_⟩,⟨by rw [dD]; exact hl,?_,fun x hx=>?_⟩⟩
 ·obtain ⟨k,rfl⟩:=Int.eq_ofNat_of_zero_le i0
  rw [dD] at i1
  exact (hn k (by omega)).1
 ·obtain ⟨k,rfl⟩:=Int.eq_ofNat_of_zero_le i0
  rw [dD] at i1
  obtain ⟨⟨b0,b1⟩,e⟩:=hn k (by omega)
  have h:=(D.Hb b0 b1).map (fD nl)
  rw [e,List.map_map] at h
  have:(rowOf L (fD nl (k:Int))).map (fD nl ∘ io L R S) = rowOf L (fD nl (k:Int)):=by
   conv=>rhs; rw [← List.map_id (rowOf L (fD nl (k:Int)))]
   refine List.map_congr_left fun x hx=>?_
   have bk:=cN D.im b0 b1 hx
   exact inv bk.1 bk.2.1
  rw [this] at h
  exact h
 ·have e:=Bt nl
  rw [← e,hl]
  refine List.pairwise_map.mpr ((eK _).imp_of_mem fun {a b} ha hb ne q=>ne ?_)
  obtain ⟨a0,a1⟩:=aV.mp ha
  obtain ⟨b0,b1⟩:=aV.mp hb
  obtain ⟨i,rfl⟩:=Int.eq_ofNat_of_zero_le a0
  obtain ⟨j,rfl⟩:=Int.eq_ofNat_of_zero_le b0
  have h1:=(hn i (by omega)).2
  have h2:=(hn j (by omega)).2
  rw [q,h2] at h1
  exact h1.symm
 ·rw [dD]
  obtain ⟨i,hi,e⟩:=List.mem_iff_getElem.mp hx
  have:=(hn i (by omega)).1
  rw [gg (show nl[i]? = some x by rw [List.getElem?_eq_getElem hi,e])] at this
  omega
def iT (R:List (List Int)) (b:Int):List Int:=(aT R.length).filter fun z=>decide (b∈rowOf R z)
theorem pV {b z:Int}:z∈iT R b↔(0≤z∧z < R.length)∧b∈rowOf R z:=by unfold iT; rw [List.mem_filter,aV,decide_eq_true_iff]
theorem E4 (b:Int):(iT R b).Pairwise (· < ·):=(uR _).filter _
theorem CO (ld:bq L R) (im:aw L) {b z:Int} (z0:0≤z) (z1:z < R.length):b∈rowOf R z↔∃ x,Dt L (x,b)∧lo R (x,b) = z:=by
 obtain ⟨k,rfl⟩:=Int.eq_ofNat_of_zero_le z0
 have hq:R[k]? = some R[k]:=List.getElem?_eq_getElem (by omega)
 have g:=ld.good R[k] (List.getElem_mem (by omega))
 rw [cP hq]
 constructor
 ·intro hb
  obtain ⟨i,hi,e⟩:=cR hb
  refine ⟨cy R[k] (i + (R[k].length - 1)),?_,?_⟩
  ·have:=g.dt (i + (R[k].length - 1))
   have e2:dj R[k] (i + (R[k].length - 1)) = (cy R[k] (i + (R[k].length - 1)),b):=by
    unfold dj
    rw [show i + (R[k].length - 1) + 1 = i + R[k].length by omega,cw (Nat.add_mod_right i _),e]
   rw [e2] at this
   exact this
  ·have e2:dj R[k] (i + (R[k].length - 1)) = (cy R[k] (i + (R[k].length - 1)),b):=by
    unfold dj
    rw [show i + (R[k].length - 1) + 1 = i + R[k].length by omega,cw (Nat.add_mod_right i _),e]
   rw [← e2,jm ld hq]
 ·rintro ⟨x,hx,e⟩
  obtain ⟨i,r,j,hr,hj,ed,el⟩:=dZ ld hx
  rw [e] at el
  have:i = k:=by omega
  subst this
  rw [hq] at hr
  cases hr
  have:b = cy R[i] (j + 1):=congrArg Prod.snd ed
  rw [this]
  exact gp (by omega)
theorem cz.ym (D:cz L R S) {b:Int} (b0:0≤b) (b1:b < L.length) {k:Nat} {q:List Int} (hq:S[k]? = some q) (e:io L R S b = k) (z:Int):z∈q↔z∈iT R b:=by
 obtain ⟨k',q',CU,ek,ql,c,hc,all⟩:=D.ring b0 b1
 have:k' = k:=by omega
 subst this
 rw [hq] at CU
 cases CU
 have h0:0 < (rowOf L b).length:=by omega
 have cq:∀ m,cy q m = lo R (cy (rowOf L b) (m + c),b):=fun m=>congrArg Prod.fst (all m)
 rw [pV]
 constructor
 ·intro hz
  obtain ⟨i,hi,ei⟩:=cR hz
  rw [cq] at ei
  have dt:=D.dt b0 b1 (i + c)
  have rg:=lU D.ld dt
  rw [ei] at rg
  exact ⟨rg,(CO D.ld D.im rg.1 rg.2).mpr ⟨_,dt,ei⟩⟩
 ·rintro ⟨⟨z0,z1⟩,hb⟩
  obtain ⟨x,hx,ex⟩:=(CO D.ld D.im z0 z1).mp hb
  obtain ⟨i,hi,ei⟩:=cR ((hx.back D.im).2.2.2:x∈rowOf L b)
  have:cy q (i + ((rowOf L b).length - c)) = z:=by
   rw [cq,show i + ((rowOf L b).length - c) + c = i + (rowOf L b).length by omega,cw (Nat.add_mod_right i _),ei,ex]
  rw [← this]
  exact gp (by omega)
theorem cz.i7 (D:cz L R S) (sm:jS L) {b:Int} (b0:0≤b) (b1:b < L.length) {k:Nat} {q:List Int} (hq:S[k]? = some q) (e:io L R S b = k):q.Nodup:=by
 obtain ⟨k',q',CU,ek,ql,c,hc,all⟩:=D.ring b0 b1
 have:k' = k:=by omega
 subst this
 rw [hq] at CU
 cases CU
 have h0:0 < (rowOf L b).length:=by omega
 have cq:∀ m,cy q m = lo R (cy (rowOf L b) (m + c),b):=fun m=>congrArg Prod.fst (all m)
 have nd:=D.im.nd _ _ (aq b0 b1)
 refine List.pairwise_iff_getElem.mpr fun i j hi hj Ay z=>?_
 rw [← dk hi,← dk hj,cq,cq] at z
 have d1:=D.dt b0 b1 (i + c)
 have d2:=D.dt b0 b1 (j + c)
 obtain ⟨k1,r1,j1,NQ,_,e1,l1⟩:=dZ D.ld d1
 obtain ⟨k2,r2,j2,RC,_,e2,l2⟩:=dZ D.ld d2
 rw [z] at l1
 have:k1 = k2:=by omega
 subst this
 rw [NQ] at RC
 cases RC
 have g:=D.ld.good r1 (List.mem_of_getElem? NQ)
 have nr:=sm.ring g (Gm.i7 D.ld (List.mem_of_getElem? NQ))
 have s1:cy r1 (j1 + 1) = cy r1 (j2 + 1):=(congrArg Prod.snd e1).symm.trans (congrArg Prod.snd e2)
 have r0:0 < r1.length:=by have:=g.two; omega
 have m1:=uz nr r0 (j1 + 1)
 have m2:=uz nr r0 (j2 + 1)
 rw [s1,m2] at m1
 have e3:dj r1 j1 = dj r1 j2:=by
  have a1:dj r1 (j1 + 1 + (r1.length - 1)) = dj r1 (j2 + 1 + (r1.length - 1)):=ck (by rw [Nat.add_mod,← m1,← Nat.add_mod])
  rw [show j1 + 1 + (r1.length - 1) = j1 + r1.length by omega,show j2 + 1 + (r1.length - 1) = j2 + r1.length by omega,ck (Nat.add_mod_right j1 _),ck (Nat.add_mod_right j2 _)] at a1
  exact a1
 rw [← e1,← e2] at e3
 have e4:cy (rowOf L b) (i + c) = cy (rowOf L b) (j + c):=congrArg Prod.fst e3
 exact jR nd (i:=i + c) (j:=j + c) (by omega) (by omega) e4
end
theorem kb.eU {L R:List (List Int)} (t:kb L) (s:bb L) (sm:jS L) (h4:4≤L.length) (ld:bq L R):mU (Du R):=by
 have im:=s.map
 have D:=ld.dec
 intro k l hl
 rw [List.getElem?_map] at hl
 cases hr:R[k]? with
 | none=>rw [hr] at hl; cases hl
 | some r=>
  rw [hr] at hl
  cases hl
  have rm:=List.mem_of_getElem? hr
  have g:=ld.good r rm
  have r0:0 < r.length:=by have:=g.two; omega
  have cm:sh 0 r∈R.map (sh 0):=List.mem_map.mpr ⟨r,rm,rfl⟩
  have on:∀ j,dj r j∈sh 0 r:=fun j=>(cG r0).mpr ⟨j,rfl⟩
  -- qT land beyond a way
  have land:∀ j,∃ r',r'∈R∧∃ i:Nat,R[i]? = some r'∧lo R ((dj r j).2,(dj r j).1) = i∧((dj r j).2,(dj r j).1)∈sh 0 r':=fun j=>by
   obtain ⟨i,r',m,BL,hm,e,el⟩:=dZ ld (qC im (g.dt j))
   have g':=ld.good r' (List.mem_of_getElem? BL)
   exact ⟨r',List.mem_of_getElem? BL,i,BL,el,by rw [e]; exact (cG (by have:=g'.two; omega)).mpr ⟨m,rfl⟩⟩
  have apart:∀ j,((dj r j).2,(dj r j).1)∉sh 0 r:=fun j=>sm.apart s (by omega) D (a:=(dj r j).1) (b:=(dj r j).2) (g.dt j) cm (on j)
  constructor
  ·intro z
   obtain ⟨j,ej⟩:=(pU g).mp z
   obtain ⟨r',_,i,hi,el,hm⟩:=land j
   rw [← ej] at el
   have:i = k:=by omega
   subst this
   rw [hr] at hi
   cases hi
   exact apart j hm
  ·refine List.pairwise_iff_getElem.mpr fun i j hi hj Ay z=>?_
   rw [df] at hi hj
   have a1:=jH (R:=R) (s:=0) hi
   have a2:=jH (R:=R) (s:=0) hj
   rw [Nat.add_zero] at a1 a2
   rw [List.getElem?_eq_getElem (by rw [df]; exact hi)] at a1
   rw [List.getElem?_eq_getElem (by rw [df]; exact hj)] at a2
   rw [Option.some.inj a1,Option.some.inj a2] at z
   obtain ⟨r1,m1,k1,h1,l1,o1⟩:=land i
   obtain ⟨r2,m2,k2,h2,l2,o2⟩:=land j
   rw [z,l2] at l1
   have:k1 = k2:=by omega
   subst this
   rw [h1] at h2
   cases h2
   have ne:sh 0 r≠sh 0 r1:=fun w=>apart i (by rw [w]; exact o1)
   have:=t.one s sm h4 D cm (List.mem_map.mpr ⟨r1,m1,rfl⟩) ne (on i) (on j) o1 o2
   exact iF (Gm.i7 ld rm) Ay (by omega) this
end Gm
end
section
namespace Gm
theorem aW.pre {l m:List Int} (h:aW l m) (n:m.Nodup) {y:Int} (hy:y∈m):pre l y = pre m y:=by
 rcases h with rfl | ⟨c,hc,rfl⟩
 ·rfl
 ·have n2:(bM m c).Nodup:=(aW.perm (.inr ⟨c,hc,rfl⟩)).nodup_iff.mpr n
  have h0:0 < m.length:=by omega
  have l2:(bM m c).length = m.length:=(aW.perm (.inr ⟨c,hc,rfl⟩)).length_eq
  have V5:y∈bM m c:=(aW.perm (.inr ⟨c,hc,rfl⟩)).mem_iff.mpr hy
  obtain ⟨i,hi,e⟩:=cR V5
  have e2:cy (bM m c) (i + (m.length - 1) + 1) = y:=by
   rw [← e]
   exact cw (by rw [l2,show i + (m.length - 1) + 1 = i + m.length by omega,Nat.add_mod_right])
  rw [← e2,jG n2 (by omega),dW hc,dW hc,show i + (m.length - 1) + 1 + c = (i + (m.length - 1) + c) + 1 by omega,jG n h0]
section
variable {L M:List (List Int)}
theorem bJ.Kw (h:bJ L M) {d:aj} (k:Dt L d):Dt M d:=⟨k.lo,by rw [← h.1]; exact k.hi,(h.mem k.lo k.hi).mp k.mem⟩
theorem bJ.nx (h:bJ L M) (m:aw M) {d:aj} (k:Dt M d):nx L d = Gm.nx M d:=by
 obtain ⟨b0,b1,_,bm⟩:=k.back m
 unfold Gm.nx
 rw [(h.row b0 (by rw [h.1]; exact b1)).pre (m.nd _ _ (aq b0 b1)) bm]
theorem bJ.dec (h:bJ L M) (m:aw M) {R:List (List aj)} (D:Dec M R):Dec L R:=
 ⟨fun c hc=>(D.hZ c hc).keep fun d hd=>h.nx m ((D.mem d).mp (List.mem_flatten.mpr ⟨c,hc,hd⟩)),D.nd,fun d=>(D.mem d).trans ⟨fun k=>h.dt k,fun k=>h.Kw k⟩⟩
theorem bJ.Fh (h:bJ L M) (m:aw M) (s:jS M):jS L:=fun d hd=>by
 obtain ⟨c,h1,h2,h3⟩:=s d (h.Kw hd)
 refine ⟨c,h1,h2.keep fun e he=>h.nx m ?_,h3⟩
 exact h2.all h1 (h.Kw hd) (fun e _ k=>k.nx m) e he
theorem bJ.Fe (h:bJ L M) (t:kb M):kb L:=t.up h.1 fun d k=>h.dt k
theorem bJ.iso (h:bJ L M):iso L = Gm.iso M:=by
 obtain ⟨hl,h⟩:=h
 unfold Gm.iso
 induction L generalizing M with
 | nil=>cases M with
  | nil=>rfl
  | cons _ _=>simp at hl
 | cons l L ih=>cases M with
  | nil=>simp at hl
  | cons m M=>
   rw [List.countP_cons,List.countP_cons,ih (by simpa using hl) fun i l m h1 h2=>h (i + 1) l m (by simpa using h1) (by simpa using h2)]
   have:=(h 0 l m rfl rfl).len
   have e:l.isEmpty = m.isEmpty:=by
    cases l <;> cases m <;> simp at this ⊢
   rw [e]
theorem bJ.jZ (h:bJ L M) (s:bb M):bb L:=by
 have mL:=h.eJ s.map
 refine ⟨mL,by rw [h.1]; exact s.two,fun x x0 x1=>?_,?_⟩
 ·obtain ⟨k,hk,r⟩:=s.span x x0 (by rw [← h.1]; exact x1)
  exact ⟨k,hk,r.mono fun d k=>h.dt k⟩
 ·obtain ⟨R,D,e⟩:=s.Ca
  refine ⟨R,h.dec s.map D,?_⟩
  have e1:=cZ mL
  have e2:=cZ s.map
  have e3:(cT L L.length).length = (cT M M.length).length:=by
   refine Nat.le_antisymm (bN (cF mL (Nat.le_refl _)) fun d hd=>?_) (bN (cF s.map (Nat.le_refl _)) fun d hd=>?_)
   ·obtain ⟨h0,h1,h2⟩:=ip.mp hd
    exact (h.Kw ⟨h0,h1,h2⟩).all
   ·obtain ⟨h0,h1,h2⟩:=ip.mp hd
    exact (h.dt ⟨h0,h1,h2⟩).all
  rw [h.1,h.iso,e]
  rw [h.1] at e1 e3
  omega
end
theorem tetra_tri:kb tetra:=fun a b x y x0 x1 y0 y1 xa xb ya yb=>by
 by_cases z:x = y
 ·subst z; exact .here
 ·refine gz.one (d:=(x,y)) ⟨x0,x1,?_⟩ (by simp [ya,yb])
  have x4:x < 4:=x1
  have y4:y < 4:=y1
  have hx:x = 0∨x = 1∨x = 2∨x = 3:=by omega
  have hy:y = 0∨y = 1∨y = 2∨y = 3:=by omega
  rcases hx with rfl | rfl | rfl | rfl <;> rcases hy with rfl | rfl | rfl | rfl <;> first | exact absurd rfl z | decide
end Gm
end
section
namespace Gm
section
variable {L R S:List (List Int)}
theorem bb.lands (s:bb L) (h4:4≤L.length) (ld:bq L R):R.length + 4≤2 * L.length∧(L.length:Int) + R.length = (eh L L.length).length + 2:=by
 obtain ⟨R0,D,ch⟩:=s.Ca
 have c:=ld.dec.count D
 rw [List.length_map] at c
 have f:=iO fun c hc=>s.three (by omega) D hc
 rw [D.len s.map] at f
 have i:=s.En
 have d:=cZ s.map
 omega
theorem kb.ET (t:kb L) (s:bb L) (sm:jS L) (h4:4≤L.length) (ld:bq L R):Ak L R:=
 ⟨s.map,ld,t.eU s sm h4 ld,fun x x0 x1=>by have:=t.Kx s.map h4 x0 x1; omega⟩
theorem kb.OS (t:kb L) (s:bb L) (sm:jS L) (h4:4≤L.length) (ld:bq L R) (ls:bq (Du R) S):cz L R S:=
 ⟨s.map,ld,t.eU s sm h4 ld,ls,fun x x0 x1=>by have:=t.Kx s.map h4 x0 x1; omega⟩
theorem cz.FI (D:cz L R S):(eh (Du R) (Du R).length).length = (eh L L.length).length:=by
 have h:=D.cT
 have e1:=cZ (mE D.ld D.im D.eU)
 have e2:=cZ D.im
 omega
theorem cz.EU (D:cz L R S) (s:bb L) (h4:4≤L.length):((Du R).length:Int) + S.length - (eh (Du R) (Du R).length).length + Gm.iso (Du R) = 2:=by
 have h:=(s.lands h4 D.ld).2
 rw [D.FI,D.iso,D.len,dD]
 omega
theorem Cd (t:kb L) (s:bb L) (sm:jS L) (h4:4≤L.length) (ld:bq L R) {a b:Int} (a0:0≤a) (a1:a < L.length) (h:iT R a = iT R b):a = b:=by
 refine t.unlike s sm h4 ld.dec a0 a1 fun c hc ha=>?_
 obtain ⟨r,hr,rfl⟩:=List.mem_map.mp hc
 have fst:(sh 0 r).map (·.1) = r:=by
  unfold sh
  rw [List.map_map]
  refine List.ext_getElem (by simp) fun i h1 h2=>?_
  simp only [List.getElem_map,List.getElem_range,Function.comp]
  show cy r (i + 0) = _
  rw [Nat.add_zero,dk h2]
 rw [fst] at ha ⊢
 obtain ⟨z,hz⟩:=List.mem_iff_getElem?.mp hr
 have zl:=(List.getElem?_eq_some_iff.mp hz).1
 have ez:=cP hz
 have:(z:Int)∈iT R a:=pV.mpr ⟨⟨by omega,by omega⟩,by rw [ez]; exact ha⟩
 rw [h] at this
 have:=(pV.mp this).2
 rwa [ez] at this
theorem cz.sorted (D:cz L R S) (sm:jS L) {b:Int} (b0:0≤b) (b1:b < L.length) {k:Nat} {q q':List Int} (hq:S[k]? = some q) (e:io L R S b = k) (pm:q'.Perm q) (so:q'.Pairwise (·≤·)):q' = iT R b:=by
 have nd:=(pm.nodup_iff).mpr (D.i7 sm b0 b1 hq e)
 refine iI ?_ (E4 b) fun z=>(pm.mem_iff).trans (D.ym b0 b1 hq e z)
 exact (so.and nd).imp fun h=>by omega
end
end Gm
end
section
namespace Cj
open PySem L2 Fr Gm
local macro_rules | `(tactic| walk_at "rd1")=>`(tactic| first
 | with_reducible refine r_seq ?_ | with_reducible refine r_asg ?_ | with_reducible refine r_gname ?_ | with_reducible refine r_op ?_ | with_reducible refine r_c ?_
 | ((with_reducible refine' r_var ?hv ?_); case' hv=>exact rfl)
 | with_reducible refine ve ?_ | with_reducible refine DE ?_ | with_reducible refine DG ?_ | with_reducible refine vm ?_ | with_reducible refine vh ?_
 | with_reducible refine vd ?_ | with_reducible refine tS ?_ | with_reducible refine pz ?_ | with_reducible refine vk ?_ | with_reducible refine pd ?_ | with_reducible refine Jq ?_ | with_reducible refine Bg ?_
 | with_reducible refine vg ?_ | with_reducible refine vt ?_ | with_reducible refine Bc ?_ | with_reducible refine pA ?_ | with_reducible refine yB ?_ | with_reducible refine tT ?_ | with_reducible refine yD ?_
 | with_reducible refine oh ?_ | with_reducible refine lB ?_ | with_reducible refine lC ?_ | with_reducible refine Be ?_ | with_reducible refine vb ?_ | with_reducible refine vi ?_ | with_reducible refine ph ?_
 | with_reducible refine kJ ?_ | with_reducible refine pj ?_ | with_reducible refine vf ?_ | with_reducible refine JM ?_ | with_reducible refine JN ?_ | with_reducible refine BI ?_ | with_reducible refine BJ ?_
 | ((with_reducible refine yy ?hc ?_); case' hc=>walk_at "side")
 | ((with_reducible refine' vj ?hp ?hi ?_); (case' hp=>walk_at "seq"); (case' hi=>exact rfl))
 | ((with_reducible refine' bj ?hp ?hi ?_); (case' hp=>walk_at "seq"); (case' hi=>exact rfl))
 | ((with_reducible refine' dQ ?hp ?hi ?_); (case' hp=>walk_at "seq"); (case' hi=>exact rfl))
 | ((with_reducible refine And.intro ?hl ?_); case' hl=>(first | exact A3 | exact Fj))
 | with_reducible refine Bf ?_ | with_reducible refine vo ?_ | with_reducible refine o9 ?_ | with_reducible refine yC ?_ | with_reducible refine pf ?_ | with_reducible refine kH ?_ | with_reducible refine o8 ?_ | with_reducible refine lz ?_ | with_reducible refine CI ?_ | with_reducible refine tU ?_
 | dsimp only)
local macro_rules | `(tactic| walk_at "rd")=>`(tactic| repeat walk_at "rd1")
local macro_rules | `(tactic| walk_at "blk_vis")=>`(tactic| first | exact Or.inl rfl | exact Or.inr (Or.inl rfl) | exact Or.inr (Or.inr rfl))
local macro_rules | `(tactic| walk_at "blk_ok")=>`(tactic| exact ⟨rfl,by decide +kernel,by decide +kernel,rfl,by (first | exact trivial | exact ⟨rfl,trivial⟩ | exact ⟨rfl,rfl,trivial⟩ | exact ⟨rfl,rfl,rfl,trivial⟩ | exact ⟨rfl,rfl,rfl,rfl,trivial⟩),rfl,
 by (first | exact aE | exact ai ⟨rfl,by walk_at "blk_vis",rfl,rfl⟩ aE | exact ai ⟨rfl,by walk_at "blk_vis",rfl,rfl⟩ (ai ⟨rfl,by walk_at "blk_vis",rfl,rfl⟩ aE) | exact ai ⟨rfl,by walk_at "blk_vis",rfl,rfl⟩ (ai ⟨rfl,by walk_at "blk_vis",rfl,rfl⟩ (ai ⟨rfl,by walk_at "blk_vis",rfl,rfl⟩ aE))),
 by (first | exact aE | exact ai rfl aE | exact ai rfl (ai rfl aE) | exact ai rfl (ai rfl (ai rfl aE)))⟩)
local macro_rules | `(tactic| walk_at "blk_ok1")=>`(tactic| exact ⟨rfl,fun _=>rfl,fun _=>rfl,by decide +kernel,rfl,by (first | exact trivial | exact ⟨rfl,trivial⟩ | exact ⟨rfl,rfl,trivial⟩ | exact ⟨rfl,rfl,rfl,trivial⟩ | exact ⟨rfl,rfl,rfl,rfl,trivial⟩),rfl,
 by (first | exact aE | exact ai ⟨rfl,by walk_at "blk_vis",⟨rfl,rfl⟩,rfl⟩ aE | exact ai ⟨rfl,by walk_at "blk_vis",⟨rfl,rfl⟩,rfl⟩ (ai ⟨rfl,by walk_at "blk_vis",⟨rfl,rfl⟩,rfl⟩ aE) | exact ai ⟨rfl,by walk_at "blk_vis",⟨rfl,rfl⟩,rfl⟩ (ai ⟨rfl,by walk_at "blk_vis",⟨rfl,rfl⟩,rfl⟩ (ai ⟨rfl,by walk_at "blk_vis",⟨rfl,rfl⟩,rfl⟩ aE))),
 by (first | exact aE | exact ai rfl aE | exact ai rfl (ai rfl aE) | exact ai rfl (ai rfl (ai rfl aE)))⟩)
local macro_rules | `(tactic| walk_at "side")=>`(tactic| first | assumption | exact (show (0:Int) < _ by decide) | exact kS (by decide) (by decide) | exact kT (by decide) (by decide) | exact mulL (by decide) (by decide))
local macro_rules | `(tactic| walk_at "seq")=>`(tactic| first | assumption | exact SqT.of (by assumption))
def top (i:Nat):Stmt:=PySem.Challenge.pw_standup_k25_whole_others_of_others.main.body.getD i (.Pass ⟨0,0,0,0⟩)
abbrev cW:Stmt:=top 6
abbrev d6:Stmt:=top 7
abbrev gQ:Stmt:=top 8
abbrev dF:Stmt:=top 9
abbrev fm:Stmt:=top 10
abbrev d4:Stmt:=top 11
abbrev cH:Stmt:=top 12
abbrev bL:Stmt:=top 13
abbrev fj:Stmt:=top 14
abbrev fk:Stmt:=top 15
abbrev bV:Stmt:=top 16
abbrev fo:Stmt:=top 17
abbrev cI:Stmt:=top 19
abbrev dE:Stmt:=top 20
abbrev cX:Stmt:=top 21
abbrev bG:Stmt:=top 22
abbrev s_same:Stmt:=top 23
abbrev bU:Stmt:=top 24
abbrev fq:Stmt:=top 25
abbrev yj:Stmt:=top 27
abbrev A9:Stmt:=top 28
abbrev bZ:Stmt:=top 29
abbrev bY:Stmt:=top 30
abbrev bX:Stmt:=top 31
abbrev bH:Stmt:=top 32
abbrev bo:Stmt:=top 33
abbrev bW:Stmt:=top 34
abbrev b7:Stmt:=top 35
abbrev aY:Stmt:=top 36
abbrev i6:Stmt:=top 37
structure Qs where
 qD:Addr
 kW:Addr
 IW:Addr
structure Txt (K:PySem.W.Frag) (mg:Str→Option Value) (Z:Qs):Prop where
 len:mg "len" = none
 isinstance:mg "isinstance" = none
 int:mg "int" = none
 bool:mg "bool" = none
 enumerate:mg "enumerate" = none
 range:mg "range" = none
 min:mg "min" = none
 max:mg "max" = none
 sorted:mg "sorted" = none
 list:mg "list" = none
 zip:mg "zip" = none
 all:mg "all" = none
 set:mg "set" = none
 sum:mg "sum" = none
 xH:mg "NoOther" = some (.ref Z.qD)
 xI:mg "NoNames" = some (.ref Z.kW)
 Kz:mg "NoMap" = some (.ref Z.IW)
 x_NoOther:PySem.W.excIn K Z.qD [.type "ValueError",.type "Exception",.type "BaseException",.type "object"] "ValueError.__new__" = true
 x_NoNames:PySem.W.excIn K Z.kW [.type "ValueError",.type "Exception",.type "BaseException",.type "object"] "ValueError.__new__" = true
def fO (K:PySem.W.Frag):Sp:=fun vs H Q _=>∃ (a:Addr) (ns:List Int) (k:Int),vs = [.ref a,.int k]∧aD K H a (ns.map V.int)∧0≤k∧k≤100000∧∀ n,0≤n→n < 2147483587→Q (.int n) H
def iH:Sp:=fun vs H Q _=>∃ (a:Addr) (l:List Int) (x:Int),vs = [.ref a,.int x]∧H a = some (.lst (l.map V.int))∧x∈l∧l.length≤1000∧∀ (b:Addr) H',ah H H'→H b = none→H' b = some (.lst ((bM l (l.idxOf x)).map V.int))→Q (.ref b) H'
def iZ:Sp:=fun vs H Q _=>∃ (p o:Addr) (as bs:List Addr) (A B:List (List Int)) (first second x0:Int),vs = [.ref p,.ref o,.int first,.int second]∧aQ H p as A∧aQ H o bs B∧aw A∧aw B∧A.length = B.length∧A.length≤60∧0 < A.length∧(∀ x:Int,0≤x→x < A.length→Reach A 0 x)∧0≤first∧first < B.length∧(rowOf A 0)[0]? = some x0∧second∈rowOf B first∧
 ((¬ ∃ f,eC A B first x0 second f)→∀ H',ah H H'→Q .cV H')∧(∀ f,eC A B first x0 second f→∀ (t:Addr) H',ah H H'→H t = none→H' t = some (.lst (((aT A.length).map f).map V.int))→Q (.ref t) H')
def TR (A B:List (List Int)) (i x0:Int) (c:Addr) (H0 H:Hp) (ys:List V) (r:List Int) (j:Nat):Prop:=ys.length = j∧∀ (t:Nat) (s:Int),t < j→r[t]? = some s→(ys[t]? = some .cV∧¬ ∃ f,eC A B i x0 s f)∨∃ a f,ys[t]? = some (.ref a)∧eC A B i x0 s f∧H0 a = none∧a≠c∧H a = some (.lst (((aT A.length).map f).map V.int))
theorem TR.app {A B:List (List Int)} {i x0:Int} {c:Addr} {H0 H H':Hp} {ys:List V} {r:List Int} {j:Nat} {y:V} {s:Int} (h:TR A B i x0 c H0 H ys r j) (e:∀ a o,a≠c→H a = some o→H' a = some o) (hs:r[j]? = some s)
  (hy:(y = .cV∧¬ ∃ f,eC A B i x0 s f)∨∃ a f,y = .ref a∧eC A B i x0 s f∧H0 a = none∧a≠c∧H' a = some (.lst (((aT A.length).map f).map V.int))):TR A B i x0 c H0 H' (ys ++ [y]) r (j + 1):=by
 obtain ⟨hl,h⟩:=h
 refine ⟨by simp [hl],fun t s' ht zw=>?_⟩
 by_cases z:t = j
 ·subst z
  rw [hs] at zw
  cases zw
  have ey:(ys ++ [y])[t]? = some y:=by rw [List.getElem?_append_right (by omega)]; simp [hl]
  rcases hy with ⟨rfl,hy⟩ | ⟨a,f,rfl,hy⟩
  ·exact .inl ⟨ey,hy⟩
  ·exact .inr ⟨a,f,ey,hy⟩
 ·have ey:(ys ++ [y])[t]? = ys[t]?:=List.getElem?_append_left (by omega)
  rw [ey]
  rcases h t s' (by omega) zw with hy | ⟨a,f,h1,h2,h3,h4,h5⟩
  ·exact .inl hy
  ·exact .inr ⟨a,f,h1,h2,h3,h4,e _ _ h4 h5⟩
def rL:Sp:=fun vs H Q _=>∃ (p o:Addr) (as bs:List Addr) (A B:List (List Int)),vs = [.ref p,.ref o]∧aQ H p as A∧aQ H o bs B∧aw A∧aw B∧A.length≤60∧0 < A.length∧0 < B.length∧(∀ x:Int,0≤x→x < A.length→Reach A 0 x)∧
 ((¬ ∃ f,Lay A B f)→∀ H',ah H H'→Q .cV H')∧(∀ f,Lay A B f→(∀ f2,Lay A B f2→Le ((aT A.length).map f) ((aT A.length).map f2))→∀ (t:Addr) H',ah H H'→H t = none→H' t = some (.lst (((aT A.length).map f).map V.int))→Q (.ref t) H')
def rK (K:PySem.W.Frag):Sp:=fun vs H Q _=>∃ (a p:Addr) (ns:List Int) (st:Int) (as:List Addr) (A:List (List Int)),vs = [.ref a,.int st,.ref p]∧aD K H a (ns.map V.int)∧0≤st∧st≤1000∧aQ H p as A∧A.length≤60∧(∀ l∈A,l.length≤60)∧
 ∀ (q:Addr) (cs:List Addr) (R:List (List Int)) H',ah H H'→aQ H' q cs R→H q = none→R.length = A.length→(∀ (i:Nat) (r l:List Int),R[i]? = some r→A[i]? = some l→aW r l)→Q (.ref q) H'
def oW (K:PySem.W.Frag):Sp:=fun vs H Q _=>∃ (a:Addr) (ns:List Int),vs = [.ref a]∧aD K H a (ns.map V.int)∧ns.length≤63∧∀ H',Q (.bl true) H'
def oV:Sp:=fun vs H Q _=>∃ (p:Addr) (as:List Addr) (L:List (List Int)),vs = [.ref p]∧aQ H p as L∧L.length≤60∧aw L∧
 ∀ t ps H',ah H H'→H t = none→H' t = some (.lst (ps.map V.ref))→PR H' ps (eh L L.length)→Q (.ref t) H'
def rD:Sp:=fun vs H Q _=>∃ (p:Addr) (as:List Addr) (L:List (List Int)),vs = [.ref p]∧aQ H p as L∧aw L∧L.length≤60∧(cT L L.length).length < 1000∧
 ∀ (t:Addr) (bs:List Addr) (R:List (List aj)) H',ah H H'→aQ H' t bs (R.map fun c=>c.map (·.1))→(t :: bs).Nodup→(∀ b∈t :: bs,H b = none)→Dec L R→Q (.ref t) H'
def nT:Sp:=fun vs H Q _=>∃ (p ra:Addr) (as:List Addr) (L:List (List Int)) (r:List Int) (i j:Nat),vs = [.ref p,.ref ra,.int (i:Int),.int (j:Int)]∧aQ H p as L∧(p :: as).Nodup∧H ra = some (.lst (r.map V.int))∧ra∉as∧bb L∧jS L∧Good L r∧(sh 0 r).Nodup∧i < r.length∧j < r.length∧L.length≤60∧
 ∀ H' L',(∀ b o,b∉as→H b = some o→H' b = some o)→aQ H' p as L'→bb L'→jS L'→L'.length = L.length→(∀ d,Dt L d→Dt L' d)→Q .cV H'
def jY:Sp:=fun vs H Q _=>∃ (p ra rc:Addr) (as:List Addr) (L:List (List Int)) (r:List Int) (cs:List Nat),vs = [.ref p,.ref ra,.ref rc]∧aQ H p as L∧(p :: as).Nodup∧H ra = some (.lst (r.map V.int))∧ra∉as∧H rc = some (.lst ((cs.map fun c:Nat=>(c:Int)).map V.int))∧rc∉as∧ra≠p∧rc≠p∧bb L∧jS L∧Good L r∧(sh 0 r).Nodup∧2≤cs.length∧cs.Pairwise (· < ·)∧(∀ c∈cs,c < r.length)∧cs.length≤200∧L.length≤60∧
 ∀ H' L' c,(∀ b o,b∉p :: as→H b = some o→H' b = some o)→H c = none→aQ H' p (as ++ [c]) L'→(p :: (as ++ [c])).Nodup→bb L'→jS L'→L'.length = L.length + 1→(∀ d,Dt L d→Dt L' d)→(rowOf L' (L.length:Int)).length = cs.length→Q .cV H'
def rz (K:PySem.W.Frag):Sp:=fun vs H Q _=>∃ (a:Addr) (ns:List Int) (st:Int) (n:Nat),vs = [.ref a,.int st,.int (n:Int)]∧aD K H a (ns.map V.int)∧0≤st∧st≤1000∧n≤9∧
 ∀ p as L H',ah H H'→aQ H' p as L→H p = none→bb L→jS L→kb L→4≤L.length→L.length≤4 + n→Q (.ref p) H'
def uY:Sp:=fun vs H Q _=>∃ (p:Addr) (as:List Addr) (L:List (List Int)) (st:Int) (sh:Addr),vs = [.ref p,.int st,.ref sh]∧aQ H p as L∧H sh = some (.lst [])∧L.length≤60∧aw L∧0≤st∧st < L.length∧
 ∀ (t:Addr) (ks:List Int) H',ah H H'→H' t = some (.dK (ks.map fun x=>(Sum.inl x,V.bl true)))→ks.Nodup→(∀ x,x∈ks↔Reach L st x)→Q (.ref t) H'
def rG:Sp:=fun vs H Q _=>∃ (p:Addr) (as:List Addr) (L:List (List Int)),vs = [.ref p]∧aQ H p as L∧L.length≤60∧0 < L.length∧aw L∧
 ∀ (ks:List Int) H',ah H H'→ks.Nodup→(∀ x,x∈ks↔Reach L 0 x)→Q (.bl (decide ((ks.length:Int) = L.length))) H'
def nU:Sp:=fun vs H Q _=>∃ (p:Addr) (as:List Addr) (L:List (List Int)) (d:aj),vs = [.ref p,.int d.1,.int d.2]∧aQ H p as L∧aw L∧Dt L d∧Q (.int (nx L d).2) H
def uW:Sp:=fun vs H Q _=>∃ (p:Addr) (as:List Addr) (L:List (List Int)) (d:aj),vs = [.ref p,.int d.1,.int d.2]∧aQ H p as L∧aw L∧Dt L d∧(cT L L.length).length < 128∧
 ∀ (r:Addr) (k:Nat) H',ah H H'→H r = none→H' r = some (.lst ((aF L d k).map V.int))→0 < k→it L d k = d→h8 L d k→Q (.ref r) H'
def rF:Sp:=fun vs H Q _=>∃ (a:Addr) (r:List Int),vs = [.ref a]∧H a = some (.lst (r.map V.int))∧0 < r.length∧r.length≤1000∧
 ∀ (b:Addr) (c:Nat) H',ah H H'→H b = none→H' b = some (.lst ((bM r c).map V.int))→c < r.length→(∀ j,j < r.length→Le (bM r c) (bM r j))→Q (.ref b) H'
def iY:Sp:=fun vs H Q _=>∃ (a:Addr) (r:List Int),vs = [.ref a]∧H a = some (.lst (r.map V.int))∧0 < r.length∧r.length≤1000∧
 ∀ (t:Addr) (ps:List Addr) H',ah H H'→H t = none→H' t = some (.lst (ps.map V.ref))→PR H' ps (sh 0 r)→Q (.ref t) H'
def gI:Sp:=fun vs H Q _=>∃ (p:Addr) (as:List Addr) (L:List (List Int)),vs = [.ref p]∧aQ H p as L∧aw L∧L.length≤60∧(cT L L.length).length < 128∧
 ∀ (t:Addr) (bs:List Addr) (R:List (List Int)) H',ah H H'→aQ H' t bs R→(t :: bs).Nodup→(∀ b∈t :: bs,H b = none)→bq L R→Q (.ref t) H'
def rJ:Sp:=fun vs H Q _=>∃ (p:Addr) (as:List Addr) (L:List (List Int)),vs = [.ref p]∧aQ H p as L∧aw L∧L.length≤60∧(cT L L.length).length < 128∧
 ∀ (R:List (List Int)) H',ah H H'→bq L R→Q (.int ((L.length:Int) + R.length - (eh L L.length).length + iso L)) H'
def rh:Sp:=fun vs H Q _=>∃ (p:Addr) (as:List Addr) (L:List (List Int)) (k:Nat),vs = [.ref p,.int (k:Int)]∧aQ H p as L∧aw L∧k < L.length∧L.length≤60∧∀ H',ah H H'→Q (.bl false) H'
def nV:Sp:=fun vs H Q _=>∃ (p:Addr) (as:List Addr) (L:List (List Int)),vs = [.ref p]∧aQ H p as L∧aw L∧L.length≤60∧∀ H',ah H H'→Q .cV H'
def uX:Sp:=fun vs H Q _=>∃ (t:Addr) (bs:List Addr) (R:List (List Int)),vs = [.ref t]∧aQ H t bs R∧(R.flatMap (sh 0)).Nodup∧(∀ r∈R,0 < r.length)∧(R.flatMap (sh 0)).length≤1000∧
 ∀ (g:Addr) H',ah H H'→H g = none→H' g = some (.dT (kN (lk (fun _=>0) R R.length)))→Q (.ref g) H'
def jX (N:Addr):Sp:=fun vs H Q E=>∃ (p c:Addr) (as:List Addr) (A:List (List Int)) (l:List Int),vs = [.ref p,.ref c]∧aQ H p as A∧H c = some (.lst (l.map V.int))∧aw A∧l.length≤62∧A.length≤60∧
 (nI A.length l→∀ (q:Addr) (cs:List Addr) (R:List (List Int)) H',ah H H'→aQ H' q cs R→H q = none→IQ A l R→Q (.ref q) H')∧(¬ nI A.length l→∀ H',ah H H'→E (.ref N) none H')
def nW:Sp:=fun vs H Q _=>∃ (a b:Addr) (l m:List Int),vs = [.ref a,.ref b]∧H a = some (.lst (l.map V.int))∧H b = some (.lst (m.map V.int))∧l.length≤1000∧m.length≤1000∧m.Nodup∧
 (aW l m→∀ H',ah H H'→Q (.bl true) H')∧(¬ aW l m→∀ H',ah H H'→Q (.bl false) H')
def rB:Sp:=fun vs H Q _=>∃ (p t:Addr) (as bs:List Addr) (L M:List (List Int)),vs = [.ref p,.ref t]∧aQ H p as L∧aQ H t bs M∧(∀ l∈L,l.length≤1000)∧(∀ m∈M,m.Nodup∧m.length≤1000)∧L.length≤1000∧M.length≤1000∧
 (bJ L M→∀ H',ah H H'→Q (.bl true) H')∧(¬ bJ L M→∀ H',ah H H'→Q (.bl false) H')
def rE:Sp:=fun vs H Q _=>∃ (p:Addr) (as:List Addr) (L:List (List Int)),vs = [.ref p]∧aQ H p as L∧aw L∧L.length≤20∧(cT L L.length).length < 128∧(∀ R,bq L R→mU (R.map (gE R 0)))∧
 ∀ (R:List (List Int)) (t:Addr) (bs:List Addr) H',bq L R→ah H H'→aQ H' t bs (R.map (gE R 0))→Q (.ref t) H'
def rC:Sp:=fun vs H Q _=>∃ (p:Addr) (as:List Addr) (L:List (List Int)),vs = [.ref p]∧aQ H p as L∧aw L∧L.length≤20∧(cT L L.length).length < 128∧
 ∀ (R:List (List Int)) (t:Addr) (bs:List Addr) H',bq L R→ah H H'→aQ H' t bs ((aT L.length).map (iT R))→Q (.ref t) H'
theorem M9 {X:Cx} {a b c d:Expr} {ta tb tc td:TE} {pos:Pos} (ha:PE X a ta) (hb:PE X b tb) (hc:PE X c tc) (hd:PE X d td)
  (s1:starEach [a,b,c,d] X.env = (false,eval a X.env) :: starEach [b,c,d] X.env) (s2:starEach [b,c,d] X.env = (false,eval b X.env) :: starEach [c,d] X.env) (s3:starEach [c,d] X.env = (false,eval c X.env) :: starEach [d] X.env) (s4:starEach [d] X.env = (false,eval d X.env) :: starEach [] X.env) :
  PE X (.List [a,b,c,d] pos) (Dm (nQ ta (nQ tb (nQ tc (nQ td Dk))))):=cL (aa ha (aa hb (aa hc (aa hd af s4) s3) s2) s1)
end Cj
end
section
namespace Cj
open PySem L2 Fr Gm
local macro_rules | `(tactic| walk_at "rd1")=>`(tactic| first
 | with_reducible refine r_seq ?_ | with_reducible refine r_asg ?_ | with_reducible refine r_gname ?_ | with_reducible refine r_op ?_ | with_reducible refine r_c ?_
 | ((with_reducible refine' r_var ?hv ?_); case' hv=>exact rfl)
 | with_reducible refine ve ?_ | with_reducible refine DE ?_ | with_reducible refine DG ?_ | with_reducible refine vm ?_ | with_reducible refine vh ?_
 | with_reducible refine vd ?_ | with_reducible refine tS ?_ | with_reducible refine pz ?_ | with_reducible refine vk ?_ | with_reducible refine pd ?_ | with_reducible refine Jq ?_ | with_reducible refine Bg ?_
 | with_reducible refine vg ?_ | with_reducible refine vt ?_ | with_reducible refine Bc ?_ | with_reducible refine pA ?_ | with_reducible refine yB ?_ | with_reducible refine tT ?_ | with_reducible refine yD ?_
 | with_reducible refine oh ?_ | with_reducible refine lB ?_ | with_reducible refine lC ?_ | with_reducible refine Be ?_ | with_reducible refine vb ?_ | with_reducible refine vi ?_ | with_reducible refine ph ?_
 | with_reducible refine kJ ?_ | with_reducible refine pj ?_ | with_reducible refine vf ?_ | with_reducible refine JM ?_ | with_reducible refine JN ?_ | with_reducible refine BI ?_ | with_reducible refine BJ ?_
 | ((with_reducible refine yy ?hc ?_); case' hc=>walk_at "side")
 | ((with_reducible refine' vj ?hp ?hi ?_); (case' hp=>walk_at "seq"); (case' hi=>exact rfl))
 | ((with_reducible refine' bj ?hp ?hi ?_); (case' hp=>walk_at "seq"); (case' hi=>exact rfl))
 | ((with_reducible refine' dQ ?hp ?hi ?_); (case' hp=>walk_at "seq"); (case' hi=>exact rfl))
 | ((with_reducible refine And.intro ?hl ?_); case' hl=>(first | exact A3 | exact Fj))
 | with_reducible refine Bf ?_ | with_reducible refine vo ?_ | with_reducible refine o9 ?_ | with_reducible refine yC ?_ | with_reducible refine pf ?_ | with_reducible refine kH ?_ | with_reducible refine o8 ?_
 | dsimp only)
local macro_rules | `(tactic| walk_at "rd")=>`(tactic| repeat walk_at "rd1")
local macro_rules | `(tactic| walk_at "blk_vis")=>`(tactic| first | exact Or.inl rfl | exact Or.inr (Or.inl rfl) | exact Or.inr (Or.inr rfl))
local macro_rules | `(tactic| walk_at "blk_ok")=>`(tactic| exact ⟨rfl,by decide +kernel,by decide +kernel,rfl,by (first | exact trivial | exact ⟨rfl,trivial⟩ | exact ⟨rfl,rfl,trivial⟩ | exact ⟨rfl,rfl,rfl,trivial⟩ | exact ⟨rfl,rfl,rfl,rfl,trivial⟩),rfl,
 by (first | exact aE | exact ai ⟨rfl,by walk_at "blk_vis",rfl,rfl⟩ aE | exact ai ⟨rfl,by walk_at "blk_vis",rfl,rfl⟩ (ai ⟨rfl,by walk_at "blk_vis",rfl,rfl⟩ aE) | exact ai ⟨rfl,by walk_at "blk_vis",rfl,rfl⟩ (ai ⟨rfl,by walk_at "blk_vis",rfl,rfl⟩ (ai ⟨rfl,by walk_at "blk_vis",rfl,rfl⟩ aE))),
 by (first | exact aE | exact ai rfl aE | exact ai rfl (ai rfl aE) | exact ai rfl (ai rfl (ai rfl aE)))⟩)
local macro_rules | `(tactic| walk_at "blk_ok1")=>`(tactic| exact ⟨rfl,fun _=>rfl,fun _=>rfl,by decide +kernel,rfl,by (first | exact trivial | exact ⟨rfl,trivial⟩ | exact ⟨rfl,rfl,trivial⟩ | exact ⟨rfl,rfl,rfl,trivial⟩ | exact ⟨rfl,rfl,rfl,rfl,trivial⟩),rfl,
 by (first | exact aE | exact ai ⟨rfl,by walk_at "blk_vis",⟨rfl,rfl⟩,rfl⟩ aE | exact ai ⟨rfl,by walk_at "blk_vis",⟨rfl,rfl⟩,rfl⟩ (ai ⟨rfl,by walk_at "blk_vis",⟨rfl,rfl⟩,rfl⟩ aE) | exact ai ⟨rfl,by walk_at "blk_vis",⟨rfl,rfl⟩,rfl⟩ (ai ⟨rfl,by walk_at "blk_vis",⟨rfl,rfl⟩,rfl⟩ (ai ⟨rfl,by walk_at "blk_vis",⟨rfl,rfl⟩,rfl⟩ aE))),
 by (first | exact aE | exact ai rfl aE | exact ai rfl (ai rfl aE) | exact ai rfl (ai rfl (ai rfl aE)))⟩)
local macro_rules | `(tactic| walk_at "side")=>`(tactic| first | assumption | exact (show (0:Int) < _ by decide) | exact kS (by decide) (by decide) | exact kT (by decide) (by decide) | exact mulL (by decide) (by decide))
local macro_rules | `(tactic| walk_at "seq")=>`(tactic| first | assumption | exact SqT.of (by assumption))
section
variable {P:Program} {w:World} {K:PySem.W.Frag} {mg:Str→Option Value} {base:Heap} {Z:Qs}
theorem fb:aR ["orders", "start", "shut", "reached", "waiting", "place", "neighbour"] ["orders", "start", "shut"] (ak dF):=⟨rfl,rfl,rfl,by decide +kernel,rfl,by decide +kernel,by decide +kernel⟩
theorem ui (D:Def K mg "come_to" dF ["orders", "start", "shut"]) (T:Txt K mg Z):du P w K mg base (cM P w) "come_to" 1 ["orders", "start", "shut"] uY:=by
 refine D.eI fb (fun vs H Q E h=>?_) (fun f dH A outer s H vs Q E hr h=>?_)
 ·obtain ⟨p,as,L,st,sh,rfl,_⟩:=h; rfl
 ·obtain ⟨p,as,L,st,sh,rfl,g,G2,hn,im,s0,s1,q⟩:=h
  refine ⟨_,(ag (aG (i:=3) fb.nd rfl (by first | exact Or.inl rfl | exact Or.inr rfl) (vH (rX (pv 1) fe vB) rfl rfl (by decide) (by decide)))
   (ag (aG (i:=4) fb.nd rfl (by first | exact Or.inl rfl | exact Or.inr rfl) (cL (aa (pv 1) af)))
   (ag (ja PassesOwn.never (aM rZ (av az (by rfl) T.len aK (aa (pv 4) af)) ay (aZ _)) (ag (aG (i:=5) fb.nd rfl (by first | exact Or.inl rfl | exact Or.inr rfl) (yN PySem.F.plainAttrs_list PySem.F.slot_list_pop PySem.F.type_list_pop y3 (pv 4)))
   (ao (cg PassesOwn.never rfl (cD (bp aO (pv 0) (pv 5) (fun _ _=>rfl))) (aJ (i:=6) fb.nd rfl (by first | exact Or.inl rfl | exact Or.inr rfl))
   (ao (b8 (PW.pt (pw_and (iK (fT (fg hr) (pv 6) (pv 3))) (pw_and1 (aM gc (pv 6) (pv 2) (by with_unfolding_all rfl))))) (ag (jc (fg hr) (pv 3) (pv 6) fe rfl)
   (ao (b9 (di PySem.F.plainAttrs_list PySem.F.slot_list_append PySem.F.type_list_append bT (pv 4) (aa (pv 6) af))))) aX))))))
   (ao (aS (pv 3)))))),?_⟩
  dsimp only [dO]
  walk_at "rd"
  refine fun t ht=>⟨_,rfl,?_⟩
  refine ⟨ae,[(.inl st,.bl true)],rfl,by simp,?_⟩
  walk_at "rd"
  refine ⟨by rw [PySem.sizeLine_eq]; simp,fun wq hw=>?_⟩
  have e0:ah H (upd (upd H t (.dK [])) t (.dK (ff [] [(.inl st,.bl true)]))):=ah.fresh (ah.upd ht) ht
  have t0:upd (upd H t (.dK [])) t (.dK (ff [] [(.inl st,.bl true)])) t = some (.dK ([st].map fun x=>((Sum.inl x:Key),V.bl true))):=ae
  generalize upd (upd H t (.dK [])) t (.dK (ff [] [(.inl st,.bl true)])) = H0 at e0 t0 hw ⊢
  have wf:H wq = none:=e0.free hw
  walk_at "rd"
  refine ku (fun σ H1=>∃ (ks ws:List Int) (v4 v5:Option V),σ = [some (.ref p),some (.int st),some (.ref sh),some (.ref t),some (.ref wq),v4,v5]∧ah H H1∧H1 t = some (.dK (ks.map fun x=>((Sum.inl x:Key),V.bl true)))∧H1 wq = some (.lst (ws.map V.int))∧Fl L st ks ws)
   (fun _ H1=>match H1 t,H1 wq with | some (.dK aI),some (.lst xs)=>2 * (L.length - aI.length) + xs.length | _,_=>0) ⟨[st],[st],none,none,rfl,e0.trans (ah.upd hw),ah.upd hw _ _ t0,ae,Fl.start⟩ ?_
  rintro σ H1 ⟨ks,ws,v4,v5,rfl,e1,t1,w1,fl⟩
  walk_at "rd"
  refine ⟨_,_,rfl,.inl ⟨_,aD.of w1,rfl⟩,?_⟩
  rw [List.length_map]
  walk_at "rd"
  refine if2 (fun gC=>?_) (fun gC=>?_)
  ·refine w_turn ?_
   rw [t1,w1]
   dsimp only
   rw [List.length_map,List.length_map]
   obtain ⟨oP,pl,rfl⟩:∃ oP pl,ws = oP ++ [pl]:=⟨ws.dropLast,ws.getLast (fun z=>by rw [z] at gC; simp at gC),(List.dropLast_concat_getLast _).symm⟩
   have T4:=(fl.re pl (fl.sub pl (by simp))).rg im ⟨s0,s1⟩
   obtain ⟨pn,rfl⟩:=Int.eq_ofNat_of_zero_le T4.1
   obtain ⟨b,l,ha,hl,bO⟩:=g.at (i:=pn) (by omega)
   have wt:wq≠t:=fun z=>by rw [z,t1] at w1; cases w1
   walk_at "rd"
   refine ⟨.inl ⟨rfl,_,aD.of w1⟩,?_⟩
   refine ⟨wq,_,.int (pn:Int),rfl,rfl,w1,by simp,?_⟩
   have e2:ah H (upd H1 wq (.lst ((oP ++ [(pn:Int)]).map V.int).dropLast)):=ah.fresh e1 wf
   have w2:upd H1 wq (.lst ((oP ++ [(pn:Int)]).map V.int).dropLast) wq = some (.lst (oP.map V.int)):=by rw [ae]; simp
   have t2:upd H1 wq (.lst ((oP ++ [(pn:Int)]).map V.int).dropLast) t = some (.dK (ks.map fun x=>((Sum.inl x:Key),V.bl true))):=by rw [ax (Ne.symm wt)]; exact t1
   generalize upd H1 wq (.lst ((oP ++ [(pn:Int)]).map V.int).dropLast) = H2 at e2 w2 t2 ⊢
   walk_at "rd"
   refine dh ?_
   refine ⟨_,rfl,_,rfl,bj (aD.of (e2 _ _ g.top)) (g.ix ha) ?_⟩
   refine ⟨b,rfl,⟨_,aD.of (e2 _ _ bO)⟩,eg (K:=K) (a:=b) (xs:=l.map V.int) (fun k σ H3=>∃ (xc kd:List Int) (v5:Option V),σ = [some (.ref p),some (.int st),some (.ref sh),some (.ref t),some (.ref wq),some (.int (pn:Int)),v5]∧ah H H3∧H3 t = some (.dK (xc.map fun x=>((Sum.inl x:Key),V.bl true)))∧H3 wq = some (.lst (kd.map V.int))∧Fi L st xc kd pn l k∧2 * (L.length - xc.length) + kd.length < 2 * (L.length - ks.length) + (oP ++ [(pn:Int)]).length)
    ⟨ks,oP,v5,rfl,e2,t2,w2,fl.pop,by simp⟩ (fun k σ H3 _ ⟨_,_,_,_,e,_⟩=>aD.of (e _ _ bO)) ?_ ?_⟩
   ·rintro k x σ H3 hx ⟨xc,kd,v5,rfl,e3,t3,w3,fi,ms⟩
    obtain ⟨y,hy,rfl⟩:∃ y,l[k]? = some y∧x = V.int y:=by
     rw [List.getElem?_map] at hx
     cases e:l[k]? with
     | none=>rw [e] at hx; cases hx
     | some z=>rw [e] at hx; exact ⟨z,rfl,(Option.some.inj hx).symm⟩
    have lk:=Fl.len im ⟨s0,s1⟩ fi.nd fi.re
    have lw:kd.length≤xc.length:=bN fi.nw fi.sub
    walk_at "rd"
    refine ⟨_,rfl,_,rfl,t,_,rfl,eD.k (k:=.inl y) t3,?_⟩
    rw [kZ]
    walk_at "rd"
    refine gB (fun Au=>?_) (fun Er=>?_)
    ·walk_at "rd"
     refine wL (ns:=[]) (aD.of (e3 _ _ G2)) ?_
     rw [if_pos rfl]
     walk_at "rd"
     refine gB (fun _=>?_) (fun z=>by cases z)
     have fa:=fi.add hy Au hl
     have VB:=Fl.len im ⟨s0,s1⟩ fa.nd fa.re
     rw [List.length_append,List.length_singleton] at VB
     walk_at "rd"
     refine ⟨_,rfl,_,rfl,t,_,rfl,jV.k (k:=.inl y) t3 (by rw [List.length_map]; exact aB (by omega)),?_⟩
     rw [yH Au]
     have w4:upd H3 t (.dK ((xc ++ [y]).map fun x=>((Sum.inl x:Key),V.bl true))) wq = some (.lst (kd.map V.int)):=by rw [ax wt]; exact w3
     walk_at "rd"
     refine ⟨.inl ⟨rfl,_,aD.of w4⟩,?_⟩
     walk_at "rd"
     refine cY w4 (by rw [List.length_map]; exact aB (by omega)) ?_
     refine ⟨xc ++ [y],kd ++ [y],_,rfl,ah.fresh (ah.fresh e3 ht) wf,by rw [ax (Ne.symm wt)]; exact ae,by rw [List.map_append (l₁:=kd)]; exact ae,fa,?_⟩
     rw [List.length_append,List.length_append,List.length_singleton]
     omega
    ·walk_at "rd"
     exact ⟨xc,kd,_,rfl,e3,t3,w3,fi.skip hy Er,ms⟩
   ·rintro σ H3 ⟨xc,kd,v5,rfl,e3,t3,w3,fi,ms⟩
    rw [List.length_map] at fi
    refine ⟨⟨xc,kd,_,_,rfl,e3,t3,w3,fi.done hl⟩,?_⟩
    rw [t3,w3]
    dsimp only
    rw [List.length_map,List.length_map]
    exact ms
  ·have NK:ws = []:=by
    cases ws with
    | nil=>rfl
    | cons a b=>simp at gC
   subst NK
   walk_at "rd"
   exact q t ks H1 e1 t1 fl.nd fl.all
theorem yi:aR ["orders"] ["orders"] (ak fm):=⟨rfl,rfl,rfl,by decide +kernel,rfl,by decide +kernel,by decide +kernel⟩
theorem yS (D:Def K mg "hangs" fm ["orders"]) (T:Txt K mg Z) (xo:du P w K mg base (cM P w) "come_to" 1 ["orders", "start", "shut"] uY):du P w K mg base (cM P w) "hangs" 2 ["orders"] rG:=by
 refine D.eI yi (fun vs H Q E h=>?_) (fun f dH A outer s H vs Q E hr h=>?_)
 ·obtain ⟨p,as,L,rfl,_⟩:=h; rfl
 ·obtain ⟨p,as,L,rfl,g,hn,He,im,q⟩:=h
  refine ⟨_,(ao (aS (jg ji (av xG (by rfl) T.len aK (aa (aC xo hr bg (aa (pv 0) (aa ay (aa (cL af) af)))) af)) (av az (by rfl) T.len aK (aa (pv 0) af)) (aZ _)))),?_⟩
  dsimp only [dO]
  walk_at "rd"
  refine ⟨Nat.zero_le _,fun sh G2=>?_⟩
  have eS:ah H (upd H sh (.lst [])):=ah.upd G2
  walk_at "rd"
  refine ⟨p,as,L,0,sh,rfl,g.same eS,ae,hn,im,Int.le_refl 0,by omega,fun t ks H1 Xm t1 nd al=>?_⟩
  have e1:=eS.trans Xm
  walk_at "rd"
  refine ⟨t,_,rfl,t1,?_⟩
  walk_at "rd"
  refine ⟨_,_,rfl,.inl ⟨_,aD.of (e1 _ _ g.top),rfl⟩,?_⟩
  rw [List.length_map,List.length_map,g.len]
  walk_at "rd"
  exact q ks H1 e1 nd al
end
end Cj
end
section
namespace Cj
open PySem L2 Fr Gm
local macro_rules | `(tactic| walk_at "rd1")=>`(tactic| first
 | with_reducible refine r_seq ?_ | with_reducible refine r_asg ?_ | with_reducible refine r_gname ?_ | with_reducible refine r_op ?_ | with_reducible refine r_c ?_
 | ((with_reducible refine' r_var ?hv ?_); case' hv=>exact rfl)
 | with_reducible refine ve ?_ | with_reducible refine DE ?_ | with_reducible refine DG ?_ | with_reducible refine vm ?_ | with_reducible refine vh ?_
 | with_reducible refine vd ?_ | with_reducible refine tS ?_ | with_reducible refine pz ?_ | with_reducible refine vk ?_ | with_reducible refine pd ?_ | with_reducible refine Jq ?_ | with_reducible refine Bg ?_
 | with_reducible refine vg ?_ | with_reducible refine vt ?_ | with_reducible refine Bc ?_ | with_reducible refine pA ?_ | with_reducible refine yB ?_ | with_reducible refine tT ?_ | with_reducible refine yD ?_
 | with_reducible refine oh ?_ | with_reducible refine lB ?_ | with_reducible refine lC ?_ | with_reducible refine Be ?_ | with_reducible refine vb ?_ | with_reducible refine vi ?_ | with_reducible refine ph ?_
 | with_reducible refine kJ ?_ | with_reducible refine pj ?_ | with_reducible refine vf ?_ | with_reducible refine JM ?_ | with_reducible refine JN ?_ | with_reducible refine BI ?_ | with_reducible refine BJ ?_
 | ((with_reducible refine yy ?hc ?_); case' hc=>walk_at "side")
 | ((with_reducible refine' vj ?hp ?hi ?_); (case' hp=>walk_at "seq"); (case' hi=>exact rfl))
 | ((with_reducible refine' bj ?hp ?hi ?_); (case' hp=>walk_at "seq"); (case' hi=>exact rfl))
 | ((with_reducible refine' dQ ?hp ?hi ?_); (case' hp=>walk_at "seq"); (case' hi=>exact rfl))
 | ((with_reducible refine And.intro ?hl ?_); case' hl=>(first | exact A3 | exact Fj))
 | with_reducible refine Bf ?_ | with_reducible refine vo ?_ | with_reducible refine o9 ?_ | with_reducible refine yC ?_ | with_reducible refine pf ?_ | with_reducible refine kH ?_ | with_reducible refine o8 ?_ | with_reducible refine lz ?_ | with_reducible refine CI ?_ | with_reducible refine tU ?_
 | dsimp only)
local macro_rules | `(tactic| walk_at "rd")=>`(tactic| repeat walk_at "rd1")
local macro_rules | `(tactic| walk_at "blk_vis")=>`(tactic| first | exact Or.inl rfl | exact Or.inr (Or.inl rfl) | exact Or.inr (Or.inr rfl))
local macro_rules | `(tactic| walk_at "blk_ok")=>`(tactic| exact ⟨rfl,by decide +kernel,by decide +kernel,rfl,by (first | exact trivial | exact ⟨rfl,trivial⟩ | exact ⟨rfl,rfl,trivial⟩ | exact ⟨rfl,rfl,rfl,trivial⟩ | exact ⟨rfl,rfl,rfl,rfl,trivial⟩),rfl,
 by (first | exact aE | exact ai ⟨rfl,by walk_at "blk_vis",rfl,rfl⟩ aE | exact ai ⟨rfl,by walk_at "blk_vis",rfl,rfl⟩ (ai ⟨rfl,by walk_at "blk_vis",rfl,rfl⟩ aE) | exact ai ⟨rfl,by walk_at "blk_vis",rfl,rfl⟩ (ai ⟨rfl,by walk_at "blk_vis",rfl,rfl⟩ (ai ⟨rfl,by walk_at "blk_vis",rfl,rfl⟩ aE))),
 by (first | exact aE | exact ai rfl aE | exact ai rfl (ai rfl aE) | exact ai rfl (ai rfl (ai rfl aE)))⟩)
local macro_rules | `(tactic| walk_at "blk_ok1")=>`(tactic| exact ⟨rfl,fun _=>rfl,fun _=>rfl,by decide +kernel,rfl,by (first | exact trivial | exact ⟨rfl,trivial⟩ | exact ⟨rfl,rfl,trivial⟩ | exact ⟨rfl,rfl,rfl,trivial⟩ | exact ⟨rfl,rfl,rfl,rfl,trivial⟩),rfl,
 by (first | exact aE | exact ai ⟨rfl,by walk_at "blk_vis",⟨rfl,rfl⟩,rfl⟩ aE | exact ai ⟨rfl,by walk_at "blk_vis",⟨rfl,rfl⟩,rfl⟩ (ai ⟨rfl,by walk_at "blk_vis",⟨rfl,rfl⟩,rfl⟩ aE) | exact ai ⟨rfl,by walk_at "blk_vis",⟨rfl,rfl⟩,rfl⟩ (ai ⟨rfl,by walk_at "blk_vis",⟨rfl,rfl⟩,rfl⟩ (ai ⟨rfl,by walk_at "blk_vis",⟨rfl,rfl⟩,rfl⟩ aE))),
 by (first | exact aE | exact ai rfl aE | exact ai rfl (ai rfl aE) | exact ai rfl (ai rfl (ai rfl aE)))⟩)
local macro_rules | `(tactic| walk_at "side")=>`(tactic| first | assumption | exact (show (0:Int) < _ by decide) | exact kS (by decide) (by decide) | exact kT (by decide) (by decide) | exact mulL (by decide) (by decide))
local macro_rules | `(tactic| walk_at "seq")=>`(tactic| first | assumption | exact SqT.of (by assumption))
section
variable {P:Program} {w:World} {K:PySem.W.Frag} {mg:Str→Option Value} {base:Heap} {Z:Qs}
theorem kz:aR ["orders", "found", "place", "order"] ["orders"] (ak gQ):=⟨rfl,rfl,rfl,by decide +kernel,rfl,by decide +kernel,by decide +kernel⟩
theorem Bp (D:Def K mg "ties" gQ ["orders"]) (T:Txt K mg Z):du P w K mg base (cM P w) "ties" 1 ["orders"] oV:=by
 refine D.eI kz (fun vs H Q E h=>?_) (fun f dH A outer s H vs Q E hr h=>?_)
 ·obtain ⟨p,as,L,rfl,_⟩:=h; rfl
 ·obtain ⟨p,as,L,rfl,g,hn,im,q⟩:=h
  refine ⟨_,(ag (aG (i:=1) kz.nd rfl (by first | exact Or.inl rfl | exact Or.inr rfl) (cL af))
   (ag (cg PassesOwn.never rfl (ig T.enumerate (aa (pv 0) af)) (gS (n:=2) rfl (bD (aJ (i:=2) kz.nd rfl (by first | exact Or.inl rfl | exact Or.inr rfl)) (bD (aJ (i:=3) kz.nd rfl (by first | exact Or.inl rfl | exact Or.inr rfl)) eP)))
   (ao (b9 (di PySem.F.plainAttrs_list PySem.F.slot_list_extend PySem.F.type_list_extend w6 (pv 1) (aa (fB (tg:=["neighbour"]) (fr:=[("place",2)]) (by walk_at "blk_ok") rfl (cD (av fG (by rfl) T.sorted fX (aa (pv 3) af))) (fun _ _ _ _ _=>(aJ (i:=0) (show [("neighbour" : Str),("place" : Str)].Nodup by decide +kernel) rfl (by first | exact Or.inl rfl | exact Or.inr rfl))) (fun _ _ _ _ _=>(fR (aM vI (pv 1) (pv 0) (aZ _)))) (fun _ _ _ _ _=>(fI (aa (pv 1) (aa (pv 0) af))))) af)))))
   (ao (aS (pv 1))))),?_⟩
  dsimp only [dO]
  walk_at "rd"
  refine ⟨Nat.zero_le _,fun t ht=>?_⟩
  walk_at "rd"
  refine dh ?_
  have e0:ah H (upd H t (.lst [])):=ah.upd ht
  refine ⟨_,rfl,p,rfl,⟨_,aD.of (e0 _ _ g.top)⟩,fW (K:=K) (a:=p) (xs:=as.map V.ref) (fun i σ H1=>∃ (ps:List Addr) (v2 v3:Option V),σ = [some (.ref p),some (.ref t),v2,v3]∧ah H H1∧H1 t = some (.lst (ps.map V.ref))∧PR H1 ps (eh L i)) ⟨[],none,none,rfl,e0,ae,.nil⟩ (fun i σ H1 _ ⟨_,_,_,_,e1,_⟩=>aD.of (e1 _ _ g.top)) ?_ ?_⟩
  ·rintro i x pr σ H1 hx ⟨ps,v2,v3,rfl,e1,h1,Jw⟩ tq
   have hi:i < L.length:=by
    have:=(List.getElem?_eq_some_iff.mp hx).1
    rw [List.length_map,g.len] at this
    exact this
   obtain ⟨b,l,ha,hl,bO⟩:=g.at hi
   obtain rfl:x = V.ref b:=by
    rw [List.getElem?_map,ha] at hx
    exact (Option.some.inj hx).symm
   have e2:ah H1 (upd H1 pr (.tup [.int i,.ref b])):=ah.upd tq
   have iD:=e2 _ _ (e1 _ _ bO)
   have h2:=e2 _ _ h1
   have LU:=Jw.same e2
   have gF:=e1.trans e2
   refine dQ (SqT.of ae) rfl ?_
   generalize upd H1 pr (.tup [.int i,.ref b]) = H2 at iD h2 LU gF ⊢
   walk_at "rd"
   refine ⟨.inl ⟨rfl,_,aD.of h2⟩,?_⟩
   walk_at "rd"
   refine dR ?_
   have ln:l.length≤L.length:=bC (im.nd _ _ hl) fun y hy=>⟨(im.rg _ _ hl y hy).1,(im.rg _ _ hl y hy).2.1⟩
   refine ⟨_,rfl,b,l,rfl,aD.of iD,by omega,fun pP sp hp hs tm=>?_⟩
   have Zm:=hp.length_eq
   refine ⟨sp,rfl,⟨_,aD.of ae⟩,fun acc bI=>?_⟩
   have e3:ah H2 (upd H2 sp (.lst (pP.map V.int))):=ah.upd tm
   have e4:=e3.trans (ah.upd (o:=.lst []) bI)
   have NN:upd (upd H2 sp (.lst (pP.map V.int))) acc (.lst []) sp = some (.lst (pP.map V.int)):=by rw [ax (aA ae bI)]; exact ae
   refine dG (K:=K) (a:=sp) (xs:=pP.map V.int) (fun k σ' ys H5=>∃ (qs:List Addr) (v:Option V),σ' = [v,some (.int i)]∧ys = qs.map V.ref∧ah H2 H5∧H5 sp = some (.lst (pP.map V.int))∧H5 acc = some (.lst ys)∧qs.length≤k∧PR H5 qs (((pP.take k).filter (fun y=>decide ((i:Int) < y))).map fun y=>((i:Int),y)))
    ⟨[],none,rfl,rfl,e4,NN,ae,Nat.le_refl _,.nil⟩ (fun k σ' ys H5 _ ⟨_,_,_,_,_,h,_⟩=>aD.of h) ?_ ?_
   ·rintro k x σ' ys H5 hx hk ⟨qs,v,rfl,rfl,e5,s5,a5,q5,DO⟩
    obtain ⟨y,hy,rfl⟩:∃ y,pP[k]? = some y∧x = V.int y:=by
     rw [List.getElem?_map] at hx
     cases e:pP[k]? with
     | none=>rw [e] at hx; cases hx
     | some z=>rw [e] at hx; exact ⟨z,rfl,(Option.some.inj hx).symm⟩
    rw [List.length_map] at hk
    have tk:pP.take (k + 1) = pP.take k ++ [y]:=by rw [List.take_succ,hy]; rfl
    walk_at "rd"
    refine if2 (fun eG=>?_) (fun eG=>?_)
    ·walk_at "rd"
     intro pq CV
     refine ⟨by rw [ax (aA a5 CV)]; exact a5,by rw [List.length_map]; exact aB (by omega),dN (by rw [List.length_map]; exact hk) ⟨qs ++ [pq],_,rfl,by simp,?_,?_,ae,by simp; omega,?_⟩⟩
     ·exact ah.fresh (e5.trans (ah.upd CV)) (e3.free bI)
     ·rw [ax (fun z=>by rw [← z] at bI; rw [ae] at bI; cases bI),ax (aA s5 CV)]; exact s5
     ·have p6:PR (upd H5 pq (.tup [.int i,.int y])) qs _:=DO.same (ah.upd CV)
      have p7:=PR.lst (zs:=qs.map V.ref ++ [.ref pq]) p6 (show upd H5 pq (.tup [.int i,.int y]) acc = some (.lst (qs.map V.ref)) by rw [ax (aA a5 CV)]; exact a5)
      rw [tk,List.filter_append,List.map_append]
      refine PR.app p7 ?_
      rw [List.filter_cons,if_pos (by simpa using eG)]
      refine .cons ?_ .nil
      rw [ax (Ne.symm (aA a5 CV))]
      exact ae
    ·refine dN (by rw [List.length_map]; exact hk) ⟨qs,_,rfl,rfl,e5,s5,a5,by omega,?_⟩
     rw [tk,List.filter_append,List.map_append,List.filter_cons,if_neg (by simpa using eG)]
     simpa using DO
   ·rintro σ' ys H5 ⟨qs,v,rfl,rfl,e5,s5,a5,q5,DO⟩
    rw [List.length_map] at q5 DO
    rw [List.take_length] at DO
    rw [Dy hp hs (im.nd _ _ hl) (fun y hy=>(im.rg _ _ hl y hy).2.1) hi] at DO
    walk_at "rd"
    have lp:=LU.len
    have ld:=sD (L:=L) i
    have lm:i * L.length≤60 * 60:=Nat.mul_le_mul (by omega) hn
    refine yE (e5 _ _ h2) a5 (by rw [List.length_map,List.length_map,PySem.sizeLine_eq]; omega) ?_
    walk_at "rd"
    refine ⟨ps ++ qs,_,_,rfl,ah.fresh (gF.trans e5) ht,by rw [List.map_append]; exact ae,?_⟩
    have hg:L.getD i [] = l:=by rw [List.getD_eq_getElem?_getD,hl]; rfl
    rw [eh,hg]
    exact PR.app (PR.lst (LU.same e5) (e5 _ _ h2)) (PR.lst DO (e5 _ _ h2))
  ·rintro σ H1 ⟨ps,v2,v3,rfl,e1,h1,Jw⟩
   rw [List.length_map,g.len] at Jw
   walk_at "rd"
   exact q t ps H1 e1 ht h1 Jw
theorem n8:aR ["orders", "one", "other", "order"] ["orders", "one", "other"] (ak d4):=⟨rfl,rfl,rfl,by decide +kernel,rfl,by decide +kernel,by decide +kernel⟩
theorem wR (D:Def K mg "onward" d4 ["orders", "one", "other"]) (T:Txt K mg Z):du P w K mg base (cM P w) "onward" 1 ["orders", "one", "other"] nU:=by
 refine D.eI n8 (fun vs H Q E h=>?_) (fun f dH A outer s H vs Q E hr h=>?_)
 ·obtain ⟨p,as,L,d,rfl,_⟩:=h; rfl
 ·obtain ⟨p,as,L,d,rfl,g,im,hd,q⟩:=h
  obtain ⟨b0,b1,b2,b3⟩:=hd.back im
  obtain ⟨b,l,ha,hl,bO⟩:=g.at (i:=d.2.toNat) (by omega)
  have el:l = rowOf L d.2:=by rw [aq b0 b1] at hl; exact (Option.some.inj hl).symm
  subst el
  have e2:d.2 = ((d.2.toNat:Nat):Int):=by omega
  refine ⟨_,(ag (aG (i:=3) n8.nd rfl (by first | exact Or.inl rfl | exact Or.inr rfl) (bp aO (pv 0) (pv 2) (fun _ _=>rfl)))
   (ao (aS (bp aO (pv 3) (aU jI (di PySem.F.plainAttrs_list PySem.F.slot_list_index PySem.F.type_list_index fV (pv 3) (aa (pv 1) af)) ay) (fun _ _=>rfl))))),?_⟩
  dsimp only [dO]
  walk_at "rd"
  refine bj (aD.of g.top) (by rw [e2]; exact g.ix ha) ?_
  walk_at "rd"
  refine ⟨.inl ⟨rfl,_,aD.of bO⟩,?_⟩
  walk_at "rd"
  refine ⟨b,_,d.1,rfl,rfl,bO,b3,?_⟩
  walk_at "rd"
  exact bj (aD.of bO) (wo b3) q
theorem cJ:aR ["orders", "one", "other", "ring", "here", "there", "beyond"] ["orders", "one", "other"] (ak cH):=⟨rfl,rfl,rfl,by decide +kernel,rfl,by decide +kernel,by decide +kernel⟩
theorem pJ (D:Def K mg "ring_from" cH ["orders", "one", "other"]) (T:Txt K mg Z) (sL:du P w K mg base (cM P w) "onward" 1 ["orders", "one", "other"] nU):du P w K mg base (cM P w) "ring_from" 2 ["orders", "one", "other"] uW:=by
 refine D.eI cJ (fun vs H Q E h=>?_) (fun f dH A outer s H vs Q E hr h=>?_)
 ·obtain ⟨p,as,L,d,rfl,_⟩:=h; rfl
 ·obtain ⟨p,as,L,d,rfl,g,im,hd,hn,q⟩:=h
  refine ⟨_,(ag (aG (i:=3) cJ.nd rfl (by first | exact Or.inl rfl | exact Or.inr rfl) (cL (aa (pv 1) af)))
   (ag (aG (i:=4) cJ.nd rfl (by first | exact Or.inl rfl | exact Or.inr rfl) (pv 2))
   (ag (aG (i:=5) cJ.nd rfl (by first | exact Or.inl rfl | exact Or.inr rfl) (aC sL hr bg (aa (pv 0) (aa (pv 1) (aa (pv 2) af)))))
   (ag (ja PassesOwn.never (aM (DT (qS hr)) (fI (aa (pv 4) (aa (pv 5) af))) (fI (aa (pv 1) (aa (pv 2) af))) (aZ _)) (ag (b9 (di PySem.F.plainAttrs_list PySem.F.slot_list_append PySem.F.type_list_append bT (pv 3) (aa (pv 4) af)))
   (ag (aG (i:=6) cJ.nd rfl (by first | exact Or.inl rfl | exact Or.inr rfl) (aC sL hr bg (aa (pv 0) (aa (pv 4) (aa (pv 5) af)))))
   (ag (aG (i:=4) cJ.nd rfl (by first | exact Or.inl rfl | exact Or.inr rfl) (pv 5))
   (ao (aG (i:=5) cJ.nd rfl (by first | exact Or.inl rfl | exact Or.inr rfl) (pv 6)))))))
   (ao (aS (pv 3))))))),?_⟩
  dsimp only [dO]
  walk_at "rd"
  refine ⟨by rw [PySem.sizeLine_eq]; simp,fun r j7=>?_⟩
  have e0:ah H (upd H r (.lst [.int d.1])):=ah.upd j7
  have r0:upd H r (.lst [.int d.1]) r = some (.lst ((aF L d 1).map V.int)):=ae
  generalize upd H r (.lst [.int d.1]) = H0 at e0 r0 ⊢
  walk_at "rd"
  refine ⟨p,as,L,d,rfl,g.same e0,im,hd,?_⟩
  walk_at "rd"
  refine ku (fun σ H1=>∃ (j:Nat) (v:Option V),σ = [some (.ref p),some (.int d.1),some (.int d.2),some (.ref r),some (.int (it L d (j + 1)).1),some (.int (it L d (j + 1)).2),v]∧ah H H1∧H1 r = some (.lst ((aF L d (j + 1)).map V.int))∧h8 L d (j + 1))
   (fun _ H1=>match H1 r with | some (.lst xs)=>(cT L L.length).length - xs.length | _=>0) ⟨0,none,rfl,e0,r0,fun i h1 h2=>by omega⟩ ?_
  rintro σ H1 ⟨j,v,rfl,e1,r1,nr⟩
  walk_at "rd"
  intro t1 Wf
  walk_at "rd"
  intro t2 Rz
  refine Gs (a:=(it L d (j + 1)).1) (b:=(it L d (j + 1)).2) (c:=d.1) (d:=d.2) (SqT.of (by rw [ax (aA ae Rz)]; exact ae)) (SqT.of ae) ?_
  have e2:ah H1 (upd (upd H1 t1 (.tup [.int (it L d (j + 1)).1,.int (it L d (j + 1)).2])) t2 (.tup [.int d.1,.int d.2])):=(ah.upd Wf).trans (ah.upd Rz)
  generalize upd (upd H1 t1 (.tup [.int (it L d (j + 1)).1,.int (it L d (j + 1)).2])) t2 (.tup [.int d.1,.int d.2]) = H2 at e2 ⊢
  walk_at "rd"
  refine gB (fun gD=>?_) (fun heq=>?_)
  ·refine w_turn ?_
   rw [r1]
   dsimp only
   have r2:=e2 _ _ r1
   have Ra:h8 L d (j + 1 + 1):=fun i h1 h2=>by
    by_cases z:i = j + 1
    ·rw [z]; exact fun y=>gD ⟨congrArg Prod.fst y,congrArg Prod.snd y⟩
    ·exact nr i h1 (by omega)
   have bd:=lP im hd Ra
   have zl:((aF L d (j + 1)).map V.int).length = j + 1:=by unfold aF; simp
   have er:(aF L d (j + 1)).map V.int ++ [V.int (it L d (j + 1)).1] = (aF L d (j + 1 + 1)).map V.int:=by
    unfold aF
    rw [List.range_succ (n:=j + 1),List.map_append,List.map_append]
    rfl
   walk_at "rd"
   refine ⟨.inl ⟨rfl,_,aD.of r2⟩,?_⟩
   walk_at "rd"
   refine cY r2 (by rw [zl]; exact aB (by omega)) ?_
   rw [er]
   have e3:ah H (upd H2 r (.lst ((aF L d (j + 1 + 1)).map V.int))):=ah.fresh (e1.trans e2) j7
   have r3:upd H2 r (.lst ((aF L d (j + 1 + 1)).map V.int)) r = some (.lst ((aF L d (j + 1 + 1)).map V.int)):=ae
   generalize upd H2 r (.lst ((aF L d (j + 1 + 1)).map V.int)) = H3 at e3 r3 ⊢
   walk_at "rd"
   refine ⟨p,as,L,it L d (j + 1),rfl,g.same e3,im,j6 im hd _,?_⟩
   walk_at "rd"
   refine ⟨⟨j + 1,_,rfl,e3,r3,Ra⟩,?_⟩
   rw [r3]
   dsimp only
   have SQ:((aF L d (j + 1 + 1)).map V.int).length = j + 1 + 1:=by unfold aF; simp
   rw [zl,SQ]
   omega
  ·walk_at "rd"
   exact q r (j + 1) H2 (e1.trans e2) j7 (e2 _ _ r1) (by omega) (Prod.ext heq.1 heq.2) nr
theorem gK:aR ["ring", "least"] ["ring"] (ak bL):=⟨rfl,rfl,rfl,by decide +kernel,rfl,by decide +kernel,by decide +kernel⟩
theorem lJ (D:Def K mg "least_begun" bL ["ring"]) (T:Txt K mg Z):du P w K mg base (cM P w) "least_begun" 1 ["ring"] rF:=by
 refine D.eI gK (fun vs H Q E h=>?_) (fun f dH A outer s H vs Q E hr h=>?_)
 ·obtain ⟨a,r,rfl,_⟩:=h; rfl
 ·obtain ⟨a,r,rfl,ha,h0,h1,q⟩:=h
  refine ⟨_,(ag (aG (i:=1) gK.nd rfl (by first | exact Or.inl rfl | exact Or.inr rfl) (av (xC rfl) (by rfl) T.min qB (aa (pv 0) af)))
   (ao (aS (av (oG rfl hr.units) (by rfl) T.min qB (aa (fB (tg:=["k"]) (fr:=[("ring",0),("least",1)]) (by walk_at "blk_ok") rfl (cQ rfl T.range (aa (av az (by rfl) T.len aK (aa (pv 0) af)) af)) (fun _ _ _ _ _=>(aJ (i:=0) (show [("k" : Str),("ring" : Str),("least" : Str)].Nodup by decide +kernel) rfl (by first | exact Or.inl rfl | exact Or.inr rfl))) (fun _ _ _ _ _=>(fR (aM ji (bp (jt (K:=K) rfl) (pv 1) (pv 0) (fun _ _=>rfl)) (pv 2) (aZ _)))) (fun _ _ _ _ _=>(aU pI (d7 (rN (K:=K) rfl) (pv 1) (fv (pv 0)) fz) (d7 (rN (K:=K) rfl) (pv 1) fz (fv (pv 0)))))) af))))),?_⟩
  dsimp only [dO]
  walk_at "rd"
  refine ⟨a,r,rfl,aD.of ha,(fun z=>by rw [z] at h0; simp at h0),fun m hm hle=>?_⟩
  walk_at "rd"
  refine dR ?_
  refine ⟨_,rfl,_,_,rfl,.inl ⟨_,aD.of ha,rfl⟩,(r.length:Int),by rw [List.length_map],by omega,by omega,?_⟩
  rw [Int.toNat_natCast]
  intro acc bI
  refine gs (fun i σ' ys H1=>∃ (bs:List Addr) (cs:List Nat) (v:Option V),σ' = [v,some (.ref a),some (.int m)]∧ys = bs.map V.ref∧ah H H1∧aQ H1 acc bs (cs.map (bM r))∧acc∉bs∧(∀ b∈bs,H b = none)∧(∀ c∈cs,c < i∧cy r c = m)∧bs.length≤i∧∀ j,j < i→cy r j = m→j∈cs)
   ⟨[],[],none,rfl,rfl,ah.upd bI,⟨ae,rfl,fun i b l z=>by simp at z⟩,by simp,by simp,by simp,Nat.le_refl _,fun j z=>by omega⟩ ?_ ?_
  ·rintro i σ' ys H1 hi ⟨bs,cs,v,rfl,rfl,e1,g1,na,fr,hc,hz,hj⟩
   simp only [Int.zero_add]
   walk_at "rd"
   refine bj (aD.of (e1 _ _ ha)) (gu (j:=i) (by omega) (by omega) (.inl rfl)) ?_
   walk_at "rd"
   refine if2 (fun he=>?_) (fun he=>?_)
   ·walk_at "rd"
    refine oj (a:=a) (i:=1) (k:=0) (n:=i) (r:=r) rfl rfl (aD.of (e1 _ _ ha)) (by omega) fun p1 BO=>?_
    have e2:ah H1 (upd H1 p1 (.lst ((r.drop i).map V.int))):=ah.upd BO
    refine vn (a:=a) (i:=1) (k:=0) (n:=i) (r:=r) rfl rfl (aD.of (e2 _ _ (e1 _ _ ha))) (by omega) fun p2 xj=>?_
    have e3:=e2.trans (ah.upd (o:=.lst ((r.take i).map V.int)) xj)
    have x1:upd (upd H1 p1 (.lst ((r.drop i).map V.int))) p2 (.lst ((r.take i).map V.int)) p1 = some (.lst ((r.drop i).map V.int)):=by rw [ax (aA ae xj)]; exact ae
    refine ⟨p1,p2,_,_,rfl,rfl,x1,ae,by rw [List.length_map,List.length_map,List.length_drop,List.length_take,PySem.sizeLine_eq]; omega,fun b hb=>?_⟩
    generalize upd (upd H1 p1 (.lst ((r.drop i).map V.int))) p2 (.lst ((r.take i).map V.int)) = H3 at e3 x1 hb ⊢
    have e4:=e3.trans (ah.upd (o:=.lst ((r.drop i).map V.int ++ (r.take i).map V.int)) hb)
    have er:(r.drop i).map V.int ++ (r.take i).map V.int = (bM r i).map V.int:=by unfold bM; rw [List.map_append]
    rw [er] at e4 ⊢
    have g4:=g1.same e4
    have b4:upd H3 b (.lst ((bM r i).map V.int)) b = some (.lst ((bM r i).map V.int)):=ae
    have WS:H b = none:=(e1.trans e3).free hb
    have nb:b≠acc:=fun z=>by rw [z] at hb; exact absurd (e3 _ _ g1.top) (by rw [hb]; simp)
    have Ze:b∉bs:=fun z=>by
     obtain ⟨k,hk,Hk⟩:=List.mem_iff_getElem.mp z
     have kl:k < (cs.map (bM r)).length:=by rw [← g1.len]; exact hk
     have:=e3 _ _ (g1.row k b _ (by rw [List.getElem?_eq_getElem hk,Hk]) (List.getElem?_eq_getElem kl))
     rw [hb] at this; cases this
    generalize upd H3 b (.lst ((bM r i).map V.int)) = H4 at e4 g4 b4 ⊢
    refine ⟨g4.top,by rw [List.length_map]; exact aB (by omega),dN hi ⟨bs ++ [b],cs ++ [i],_,rfl,by simp,ah.fresh (e1.trans e4) bI,?_,?_,?_,?_,?_,?_⟩⟩
    ·rw [List.map_append]; exact g4.snoc na nb b4
    ·intro z
     rcases List.mem_append.mp z with z | z
     ·exact na z
     ·exact nb (List.mem_singleton.mp z).symm
    ·intro c qh
     rcases List.mem_append.mp qh with z | z
     ·exact fr c z
     ·rw [List.mem_singleton.mp z]; exact WS
    ·intro c qh
     rcases List.mem_append.mp qh with z | z
     ·have:=hc c z; exact ⟨by omega,this.2⟩
     ·rw [List.mem_singleton.mp z]; exact ⟨by omega,he⟩
    ·rw [List.length_append,List.length_singleton]; omega
    ·intro j WC BQ
     by_cases z:j = i
     ·rw [z]; simp
     ·exact List.mem_append_left _ (hj j (by omega) BQ)
   ·refine dN hi ⟨bs,cs,_,rfl,rfl,e1,g1,na,fr,fun c z=>?_,by omega,fun j WC BQ=>?_⟩
    ·have:=hc c z; exact ⟨by omega,this.2⟩
    ·by_cases z:j = i
     ·rw [z] at BQ; exact absurd BQ he
     ·exact hj j (by omega) BQ
  ·rintro σ' ys H1 ⟨bs,cs,v,rfl,rfl,e1,g1,na,fr,hc,hz,hj⟩
   walk_at "rd"
   obtain ⟨k,hk,Hk⟩:=List.mem_iff_getElem.mp hm
   have kc:k∈cs:=hj k hk (by rw [dk hk]; exact Hk)
   have c0:0 < cs.length:=List.length_pos_of_mem kc
   have zl:=g1.len
   rw [List.length_map] at zl
   refine ⟨acc,bs,cs.map (bM r),rfl,aD.of g1.top,g1.len,fun i b l x1 x2=>aD.of (g1.row i b l x1 x2),by omega,fun i b l x1 x2 hl=>?_⟩
   rw [List.getElem?_map] at x2
   cases ec:cs[i]? with
   | none=>rw [ec] at x2; cases x2
   | some c=>
    rw [ec] at x2
    have:bM r c = l:=Option.some.inj x2
    subst this
    have cm:=hc c (List.mem_of_getElem? ec)
    refine q b c H1 e1 (fr b (List.mem_of_getElem? x1)) (g1.row i b _ x1 (by rw [List.getElem?_map,ec]; rfl)) cm.1 fun j Ax=>?_
    by_cases z:cy r j = m
    ·exact hl _ (List.mem_map.mpr ⟨j,hj j Ax z,rfl⟩)
    ·have kk:=hc k kc
     refine Le.trans (hl _ (List.mem_map.mpr ⟨k,kc,rfl⟩)) (Le.of_lt (DB kk.1 Ax ?_))
     have:=hle (cy r j) (gp h0)
     rw [kk.2]
     omega
theorem yh:aR ["ring"] ["ring"] (ak fj):=⟨rfl,rfl,rfl,by decide +kernel,rfl,by decide +kernel,by decide +kernel⟩
theorem yQ (D:Def K mg "steps" fj ["ring"]) (T:Txt K mg Z):du P w K mg base (cM P w) "steps" 1 ["ring"] iY:=by
 refine D.eI yh (fun vs H Q E h=>?_) (fun f dH A outer s H vs Q E hr h=>?_)
 ·obtain ⟨a,r,rfl,_⟩:=h; rfl
 ·obtain ⟨a,r,rfl,ha,r0,rn,q⟩:=h
  refine ⟨_,(ao (aS (tZ rfl T.zip T.list (aa (pv 0) (aa (aU pI (d7 fY (pv 0) (fv ay) fz) (d7 fY (pv 0) fz (fv ay))) af))))),?_⟩
  dsimp only [dO]
  walk_at "rd"
  refine wK ?_
  walk_at "rd"
  refine tV (a:=a) (i:=0) (n:=1) (r:=r) rfl (aD.of ha) (by omega) fun p1 BO=>?_
  have e2:ah H (upd H p1 (.lst ((r.drop 1).map V.int))):=ah.upd BO
  refine yF (a:=a) (i:=0) (n:=1) (r:=r) rfl (aD.of (e2 _ _ ha)) (by omega) fun p2 xj=>?_
  have e3:=e2.trans (ah.upd (o:=.lst ((r.take 1).map V.int)) xj)
  have x1:upd (upd H p1 (.lst ((r.drop 1).map V.int))) p2 (.lst ((r.take 1).map V.int)) p1 = some (.lst ((r.drop 1).map V.int)):=by rw [ax (aA ae xj)]; exact ae
  refine ⟨p1,p2,_,_,rfl,rfl,x1,ae,by rw [List.length_map,List.length_map,List.length_drop,List.length_take,PySem.sizeLine_eq]; omega,fun b hb=>?_⟩
  generalize upd (upd H p1 (.lst ((r.drop 1).map V.int))) p2 (.lst ((r.take 1).map V.int)) = H3 at e3 x1 hb ⊢
  have er:(r.drop 1).map V.int ++ (r.take 1).map V.int = (bM r 1).map V.int:=by unfold bM; rw [List.map_append]
  rw [er]
  have e4:=e3.trans (ah.upd (o:=.lst ((bM r 1).map V.int)) hb)
  walk_at "rd"
  have rl:(bM r 1).length = r.length:=bF (by omega)
  refine ⟨a,b,r.map V.int,(bM r 1).map V.int,rfl,aD.of (e4 _ _ ha),aD.of ae,by rw [List.length_map,List.length_map,rl],fun l as H5 e5 hl h5 la hp=>?_⟩
  rw [List.length_map] at la
  walk_at "rd"
  refine q l as H5 (e4.trans e5) (e4.free hl) h5 (PR.mk (by rw [bQ]; exact la) fun j x d hx hd=>?_)
  obtain ⟨_,_,u,v,hu,hv,h6⟩:=hp j x hx
  have hj:j < r.length:=by
   have:=(List.getElem?_eq_some_iff.mp hx).1
   omega
  rw [List.getElem?_map,Ad hj] at hu
  rw [List.getElem?_map,Ba hj] at hv
  cases hu
  cases hv
  rw [n6 hj] at hd
  cases hd
  exact h6
theorem d3:aR ["orders", "gone", "rings", "one", "order", "other", "ring", "step"] ["orders"] (ak fk):=⟨rfl,rfl,rfl,by decide +kernel,rfl,by decide +kernel,by decide +kernel⟩
theorem yR (D:Def K mg "lands" fk ["orders"]) (T:Txt K mg Z) (sJ:du P w K mg base (cM P w) "ring_from" 2 ["orders", "one", "other"] uW) (ny:du P w K mg base (cM P w) "least_begun" 1 ["ring"] rF) (jw:du P w K mg base (cM P w) "steps" 1 ["ring"] iY):du P w K mg base (cM P w) "lands" 3 ["orders"] gI:=by
 refine D.eI d3 (fun vs H Q E h=>?_) (fun f dH A outer s H vs Q E hr h=>?_)
 ·obtain ⟨p,as,L,rfl,_⟩:=h; rfl
 ·obtain ⟨p,as,L,rfl,g,im,hn,hd,q⟩:=h
  refine ⟨_,(ag (aG (i:=1) d3.nd rfl (by first | exact Or.inl rfl | exact Or.inr rfl) lI)
   (ag (aG (i:=2) d3.nd rfl (by first | exact Or.inl rfl | exact Or.inr rfl) (cL af))
   (ag (cg PassesOwn.never rfl (ig T.enumerate (aa (pv 0) af)) (gS (n:=2) rfl (bD (aJ (i:=3) d3.nd rfl (by first | exact Or.inl rfl | exact Or.inr rfl)) (bD (aJ (i:=4) d3.nd rfl (by first | exact Or.inl rfl | exact Or.inr rfl)) eP)))
   (ao (cg PassesOwn.never rfl (cD (pv 4)) (aJ (i:=5) d3.nd rfl (by first | exact Or.inl rfl | exact Or.inr rfl))
   (ao (b8 (iK (fT (fg hr) (fI (aa (pv 3) (aa (pv 5) af))) (pv 1))) (ag (aG (i:=6) d3.nd rfl (by first | exact Or.inl rfl | exact Or.inr rfl) (aC sJ hr bg (aa (pv 0) (aa (pv 3) (aa (pv 5) af)))))
   (ag (b9 (di PySem.F.plainAttrs_list PySem.F.slot_list_append PySem.F.type_list_append bT (pv 2) (aa (aC ny hr bg (aa (pv 6) af)) af)))
   (ao (cg PassesOwn.never rfl (cD (aC jw hr bg (aa (pv 6) af))) (aJ (i:=7) d3.nd rfl (by first | exact Or.inl rfl | exact Or.inr rfl))
   (ao (jc (fg hr) (pv 1) (pv 7) fe rfl)))))) aX)))))
   (ao (aS (av (qA hr.units) (by rfl) T.sorted fX (aa (pv 2) af))))))),?_⟩
  dsimp only [dO]
  walk_at "rd"
  intro gd zE
  walk_at "rd"
  refine ⟨Nat.zero_le _,fun t ht=>?_⟩
  have tH:H t = none:=(ah.upd zE).free ht
  have e0:ah H (upd (upd H gd (.dT [])) t (.lst [])):=(ah.upd zE).trans (ah.upd ht)
  have g0:upd (upd H gd (.dT [])) t (.lst []) gd = some (.dT (kD [])):=by rw [ax (aA ae ht)]; exact ae
  have t0:aQ (upd (upd H gd (.dT [])) t (.lst [])) t [] []:=⟨ae,rfl,fun i a l z=>by simp at z⟩
  generalize upd (upd H gd (.dT [])) t (.lst []) = H0 at e0 g0 t0 ⊢
  walk_at "rd"
  refine dh ?_
  refine ⟨_,rfl,p,rfl,⟨_,aD.of (e0 _ _ g.top)⟩,fW (K:=K) (a:=p) (xs:=as.map V.ref) (fun i σ H1=>∃ (ks:List aj) (bs:List Addr) (R:List (List Int)) (v3 v4 v5 v6 v7:Option V),σ = [some (.ref p),some (.ref gd),some (.ref t),v3,v4,v5,v6,v7]∧ah H H1∧H1 gd = some (.dT (kD ks))∧aQ H1 t bs R∧(t :: bs).Nodup∧(∀ b∈t :: bs,H b = none)∧Lp L R ks∧∀ d,Dt L d→d.1 < i→d∈ks)
   ⟨[],[],[],none,none,none,none,none,rfl,e0,g0,t0,by simp,by simpa using tH,Lp.start,fun d h1 h2=>by have:=h1.lo; omega⟩ (fun i σ H1 _ ⟨_,_,_,_,_,_,_,_,_,e1,_⟩=>aD.of (e1 _ _ g.top)) ?_ ?_⟩
  ·rintro i x pr σ H1 hx ⟨ks,bs,R,v3,v4,v5,v6,v7,rfl,e1,g1,t1,ou,qQ,y9,AF⟩ tq
   have hi:i < L.length:=by
    have:=(List.getElem?_eq_some_iff.mp hx).1
    rw [List.length_map,g.len] at this
    exact this
   obtain ⟨b,l,ha,hl,bO⟩:=g.at hi
   obtain rfl:x = V.ref b:=by
    rw [List.getElem?_map,ha] at hx
    exact (Option.some.inj hx).symm
   have el:rowOf L (i:Int) = l:=by
    have:=aq (L:=L) (a:=(i:Int)) (by omega) (by omega)
    rw [Int.toNat_natCast,hl] at this
    exact (Option.some.inj this).symm
   have e2:ah H1 (upd H1 pr (.tup [.int i,.ref b])):=ah.upd tq
   have g2:=e2 _ _ g1
   have t2:=t1.same e2
   have gF:=e1.trans e2
   refine dQ (SqT.of ae) rfl ?_
   generalize upd H1 pr (.tup [.int i,.ref b]) = H2 at e2 g2 t2 gF ⊢
   walk_at "rd"
   refine dh ?_
   refine ⟨_,rfl,b,rfl,⟨_,aD.of (gF _ _ bO)⟩,eg (K:=K) (a:=b) (xs:=l.map V.int) (fun k σ H3=>∃ (ks:List aj) (bs:List Addr) (R:List (List Int)) (v5 v6 v7:Option V),σ = [some (.ref p),some (.ref gd),some (.ref t),some (.int (i:Int)),some (.ref b),v5,v6,v7]∧ah H H3∧H3 gd = some (.dT (kD ks))∧aQ H3 t bs R∧(t :: bs).Nodup∧(∀ b∈t :: bs,H b = none)∧Lp L R ks∧∀ d,Dt L d→d.1 < i∨d.1 = i∧d.2∈l.take k→d∈ks)
    ⟨ks,bs,R,v5,v6,v7,rfl,gF,g2,t2,ou,qQ,y9,fun d h1 h2=>AF d h1 (h2.elim id fun z=>by simp at z)⟩ (fun k σ H3 _ ⟨_,_,_,_,_,_,_,e,_⟩=>aD.of (e _ _ bO)) ?_ ?_⟩
   ·clear ks bs R v3 v4 v5 v6 v7 e1 g1 t1 ou qQ y9 AF e2 g2 t2 gF tq hx
    rintro k x σ H3 hx ⟨ks,bs,R,v5,v6,v7,rfl,e3,g3,t3,yY,xR,xO,xA⟩
    obtain ⟨y,hy,rfl⟩:∃ y,l[k]? = some y∧x = V.int y:=by
     rw [List.getElem?_map] at hx
     cases e:l[k]? with
     | none=>rw [e] at hx; cases hx
     | some z=>rw [e] at hx; exact ⟨z,rfl,(Option.some.inj hx).symm⟩
    have dt:Dt L ((i:Int),y):=⟨by simp,by simpa using hi,by rw [el]; exact List.mem_of_getElem? hy⟩
    walk_at "rd"
    intro q1 NS
    have e4:ah H3 (upd H3 q1 (.tup [.int i,.int y])):=ah.upd NS
    have k4:upd H3 q1 (.tup [.int i,.int y]) q1 = some (.tup ((eR ((i:Int),y)).map kV)):=ae
    generalize upd H3 q1 (.tup [.int i,.int y]) = H4 at e4 k4 ⊢
    refine ⟨_,rfl,gd,_,rfl,eD.t (k:=eR ((i:Int),y)) (e4 _ _ g3) k4,?_⟩
    rw [fN]
    walk_at "rd"
    refine gB (fun Au=>?_) (fun Er=>?_)
    ·walk_at "rd"
     refine ⟨p,as,L,((i:Int),y),rfl,g.same (e3.trans e4),im,dt,hd,fun r n H5 e5 r0 r5 n0 ek nr=>?_⟩
     have Gp:(aF L ((i:Int),y) n).length = n:=by unfold aF; simp
     have Zb:=lP im dt nr
     have WZ:=e5 _ _ (e4 _ _ g3)
     have t5:=(t3.same e4).same e5
     have xU:=(e3.trans e4).trans e5
     walk_at "rd"
     refine ⟨.inl ⟨rfl,_,aD.of t5.top⟩,?_⟩
     walk_at "rd"
     refine ⟨r,_,rfl,r5,by omega,by omega,fun c cc H6 e6 c0 c6 Hu zF=>?_⟩
     rw [Gp] at Hu zF
     have t6:=t5.same e6
     have nc:=t5.iA c0
     have g6:=e6 _ _ WZ
     have r6:=e6 _ _ r5
     have rH:H r = none:=(e3.trans e4).free r0
     have U3:r≠t:=fun z=>by rw [z] at r0; exact absurd (t3.same e4).top (by rw [r0]; simp)
     have Nb:=xO.add im dt n0 ek nr Au Hu zF
     have lb:=Nb.len
     have l2:=Nb.two
     rw [List.length_append,bQ,Gp] at lb
     have zR:=t6.len
     have l3:=xO.two
     walk_at "rd"
     refine cY t6.top (by rw [List.length_map]; exact aB (by omega)) ?_
     have GR:c≠t:=fun z=>nc (z▸List.mem_cons_self)
     have t7:=t6.snoc (List.nodup_cons.mp yY).1 GR c6
     have e7:ah H (upd H6 t (.lst (bs.map V.ref ++ [.ref c]))):=ah.fresh (xU.trans e6) tH
     have g7:upd H6 t (.lst (bs.map V.ref ++ [.ref c])) gd = some (.dT (kD ks)):=by rw [ax (fun z=>by have:=t6.top; rw [← z,g6] at this; cases this)]; exact g6
     have r7:upd H6 t (.lst (bs.map V.ref ++ [.ref c])) r = some (.lst ((aF L ((i:Int),y) n).map V.int)):=by rw [ax U3]; exact r6
     generalize upd H6 t (.lst (bs.map V.ref ++ [.ref c])) = H7 at t7 e7 g7 r7 ⊢
     have M6:(t :: (bs ++ [c])).Nodup:=by
      obtain ⟨n1,n2⟩:=List.nodup_cons.mp yY
      refine List.nodup_cons.mpr ⟨fun z=>?_,i5.mpr ⟨fun z=>nc (List.mem_cons_of_mem _ z),n2⟩⟩
      rcases List.mem_append.mp z with z | z
      ·exact n1 z
      ·exact GR (List.mem_singleton.mp z).symm
     have Xc:∀ b∈t :: (bs ++ [c]),H b = none:=fun b hb=>by
      rcases List.mem_cons.mp hb with z | z
      ·rw [z]; exact tH
      ·rcases List.mem_append.mp z with z | z
       ·exact xR b (List.mem_cons_of_mem _ z)
       ·rw [List.mem_singleton.mp z]; exact xU.free c0
     walk_at "rd"
     refine dh ?_
     refine ⟨_,rfl,r,_,rfl,r7,by omega,by omega,fun sl ps Hs es Jk CF DN=>?_⟩
     have Xk:=e7.trans es
     have W5:=es _ _ g7
     have Tn:=t7.same es
     have Rn:=Nb.perm ((List.perm_append_left_iff ks).mpr (eL (aF L ((i:Int),y) n) (n - 1)).symm)
     refine ⟨sl,rfl,⟨_,aD.of CF⟩,eg (K:=K) (a:=sl) (xs:=ps.map V.ref) (fun j σ H8=>∃ v7:Option V,σ = [some (.ref p),some (.ref gd),some (.ref t),some (.int (i:Int)),some (.ref b),some (.int y),some (.ref r),v7]∧ah H H8∧H8 gd = some (.dT (kD (ks ++ (sh 0 (aF L ((i:Int),y) n)).take j)))∧aQ H8 t (bs ++ [c]) (R ++ [bM (aF L ((i:Int),y) n) cc])∧H8 sl = some (.lst (ps.map V.ref))∧PR H8 ps (sh 0 (aF L ((i:Int),y) n)))
      ⟨_,rfl,Xk,by rw [List.take_zero,List.append_nil]; exact W5,Tn,CF,DN⟩ (fun j σ H8 _ ⟨_,_,_,_,_,e,_⟩=>aD.of e) ?_ ?_⟩
     ·rintro j x σ H8 hx ⟨w7,rfl,e8,g8,t8,s8,yK⟩
      have Hl:j < ps.length:=by
       have:=(List.getElem?_eq_some_iff.mp hx).1
       rw [List.length_map] at this
       exact this
      have Ax:j < (aF L ((i:Int),y) n).length:=by
       have:=yK.len
       rw [bQ] at this
       omega
      obtain ⟨d8,EG,k8⟩:=yK.at (i:=j) (a:=ps[j]) (by simp [Hl])
      obtain rfl:x = V.ref ps[j]:=by
       rw [List.getElem?_map,List.getElem?_eq_getElem Hl] at hx
       exact (Option.some.inj hx).symm
      have new:=dJ Rn.nd EG
      walk_at "rd"
      refine ⟨gd,_,rfl,jV.t (k:=eR d8) g8 k8 ?_,?_⟩
      ·rw [zt,List.length_append,List.length_take]
       exact aB (by omega)
      ·rw [rT new,List.append_assoc,← take_snoc EG]
       refine ⟨_,rfl,ah.fresh e8 zE,ae,t8.other g8,?_,Paired.ki yK fun a z h=>?_⟩
       ·rw [ax (fun z=>by rw [z,g8] at s8; cases s8)]
        exact s8
       ·rw [ax (fun w=>by rw [w,g8] at h; cases h)]
        exact h
     ·rintro σ H8 ⟨w7,rfl,e8,g8,t8,s8,yK⟩
      rw [List.length_map,yK.len,List.take_length] at g8
      refine ⟨_,_,_,_,_,_,rfl,e8,g8,t8,M6,Xc,Rn,fun d h1 h2=>?_⟩
      rw [take_snoc hy] at h2
      by_cases z:d = ((i:Int),y)
      ·rw [z]
       refine List.mem_append_right _ ((cG (by omega)).mpr ⟨0,?_⟩)
       rw [gn n0 ek]; rfl
      ·refine List.mem_append_left _ (xA d h1 ?_)
       rcases h2 with h2 | ⟨h2,h3⟩
       ·exact .inl h2
       ·rcases List.mem_append.mp h3 with h3 | h3
        ·exact .inr ⟨h2,h3⟩
        ·exact absurd (Prod.ext h2 (List.mem_singleton.mp h3)) z
    ·refine ⟨ks,bs,R,_,_,_,rfl,e3.trans e4,e4 _ _ g3,t3.same e4,yY,xR,xO,fun d h1 h2=>?_⟩
     rw [take_snoc hy] at h2
     rcases h2 with h2 | ⟨h2,h3⟩
     ·exact xA d h1 (.inl h2)
     ·rcases List.mem_append.mp h3 with h3 | h3
      ·exact xA d h1 (.inr ⟨h2,h3⟩)
      ·rw [show d = ((i:Int),y) from Prod.ext h2 (List.mem_singleton.mp h3)]; exact Er
   ·rintro σ H3 ⟨ks,bs,R,v5,v6,v7,rfl,e3,g3,t3,yY,xR,xO,xA⟩
    rw [List.length_map,List.take_length] at xA
    refine ⟨ks,bs,R,_,_,_,_,_,rfl,e3,g3,t3,yY,xR,xO,fun d h1 h2=>xA d h1 ?_⟩
    by_cases z:d.1 = i
    ·refine .inr ⟨z,?_⟩
     have:=h1.mem
     rw [z,el] at this
     exact this
    ·exact .inl (by omega)
  ·rintro σ H1 ⟨ks,bs,R,v3,v4,v5,v6,v7,rfl,e1,g1,t1,ou,qQ,y9,AF⟩
   rw [List.length_map,g.len] at AF
   walk_at "rd"
   have zR:=t1.len
   have lb:=y9.len
   have l2:=y9.two
   refine ⟨t,bs,R,rfl,aD.of t1.top,t1.len,fun i b l h1 h2=>aD.of (t1.row i b l h1 h2),by omega,fun pp qd hp Et hq=>?_⟩
   have pm:=om (d:=(0:Addr)) (L:=bs) (p:=pp) (by rw [zR]; exact hp)
   refine q qd (pick 0 bs pp) (pick [] R pp) _ (e1.trans (ah.upd hq)) (t1.pick hp hq) ?_ (fun b hb=>?_) (y9.lands hp Et fun d hd=>AF d hd hd.hi)
   ·refine List.nodup_cons.mpr ⟨fun z=>t1.iA hq (List.mem_cons_of_mem _ (pm.mem_iff.mp z)),pm.nodup_iff.mpr (List.nodup_cons.mp ou).2⟩
   ·rcases List.mem_cons.mp hb with z | z
    ·rw [z]; exact e1.free hq
    ·exact qQ b (List.mem_cons_of_mem _ (pm.mem_iff.mp z))
theorem dw:aR ["rings", "left", "land", "ring", "step"] ["rings"] (ak bV):=⟨rfl,rfl,rfl,by decide +kernel,rfl,by decide +kernel,by decide +kernel⟩
theorem mZ (D:Def K mg "left_lands" bV ["rings"]) (T:Txt K mg Z) (jw:du P w K mg base (cM P w) "steps" 1 ["ring"] iY):du P w K mg base (cM P w) "left_lands" 2 ["rings"] uX:=by
 refine D.eI dw (fun vs H Q E h=>?_) (fun f dH A outer s H vs Q E hr h=>?_)
 ·obtain ⟨t,bs,R,rfl,_⟩:=h; rfl
 ·obtain ⟨t,bs,R,rfl,g,nd,hp,hl,q⟩:=h
  refine ⟨_,(ag (aG (i:=1) dw.nd rfl (by first | exact Or.inl rfl | exact Or.inr rfl) lI)
   (ag (cg PassesOwn.never rfl (ig T.enumerate (aa (pv 0) af)) (gS (n:=2) rfl (bD (aJ (i:=2) dw.nd rfl (by first | exact Or.inl rfl | exact Or.inr rfl)) (bD (aJ (i:=3) dw.nd rfl (by first | exact Or.inl rfl | exact Or.inr rfl)) eP)))
   (ao (cg PassesOwn.never rfl (cD (aC jw hr bg (aa (pv 3) af))) (aJ (i:=4) dw.nd rfl (by first | exact Or.inl rfl | exact Or.inr rfl))
   (ao (jc (fg hr) (pv 1) (pv 4) (pv 2) rfl)))))
   (ao (aS (pv 1))))),?_⟩
  dsimp only [dO]
  walk_at "rd"
  intro gd zE
  have e0:ah H (upd H gd (.dT [])):=ah.upd zE
  have g0:upd H gd (.dT []) gd = some (.dT (kN (lk (fun _=>0) R 0))):=ae
  generalize upd H gd (.dT []) = H0 at e0 g0 ⊢
  walk_at "rd"
  refine dh ?_
  refine ⟨_,rfl,t,rfl,⟨_,aD.of (e0 _ _ g.top)⟩,fW (K:=K) (a:=t) (xs:=bs.map V.ref) (fun i σ H1=>∃ v2 v3 v4:Option V,σ = [some (.ref t),some (.ref gd),v2,v3,v4]∧ah H H1∧H1 gd = some (.dT (kN (lk (fun _=>0) R i))))
   ⟨none,none,none,rfl,e0,g0⟩ (fun i σ H1 _ ⟨_,_,_,_,e1,_⟩=>aD.of (e1 _ _ g.top)) ?_ ?_⟩
  ·rintro i x pr σ H1 hx ⟨v2,v3,v4,rfl,e1,g1⟩ tq
   have hi:i < R.length:=by
    have:=(List.getElem?_eq_some_iff.mp hx).1
    rw [List.length_map,g.len] at this
    exact this
   obtain ⟨b,r,ha,hr,bO⟩:=g.at hi
   obtain rfl:x = V.ref b:=by
    rw [List.getElem?_map,ha] at hx
    exact (Option.some.inj hx).symm
   have er:R.getD i [] = r:=by rw [List.getD_eq_getElem?_getD,hr]; rfl
   have ek:lk (fun _=>0) R (i + 1) = lk (fun _=>0) R i ++ (sh 0 r).map fun d=>(d,(i:Int)):=by rw [lk,er]
   have kn:((lk (fun _=>0) R (i + 1)).map (·.1)).Nodup:=by
    rw [kO (by omega)]
    exact (oB _ _ _).nodup nd
   have kl:(lk (fun _=>0) R (i + 1)).length≤1000:=by
    have e:=congrArg List.length (kO (s:=fun _=>0) (R:=R) (k:=i + 1) (by omega))
    have f:=(oB (sh 0) R (i + 1)).length_le
    have jv:(R.flatMap fun r=>sh 0 r).length≤1000:=hl
    rw [List.length_map] at e
    exact Nat.le_trans (Nat.le_of_eq e) (Nat.le_trans f jv)
   rw [ek] at kn kl
   rw [List.length_append,List.length_map,bQ] at kl
   rw [List.map_append,List.map_map] at kn
   have r0:=hp r (List.mem_of_getElem? hr)
   have e2:ah H1 (upd H1 pr (.tup [.int i,.ref b])):=ah.upd tq
   have g2:=e2 _ _ g1
   have gF:=e1.trans e2
   refine dQ (SqT.of ae) rfl ?_
   generalize upd H1 pr (.tup [.int i,.ref b]) = H2 at e2 g2 gF ⊢
   walk_at "rd"
   refine dh ?_
   refine ⟨_,rfl,b,r,rfl,gF _ _ bO,r0,by omega,fun sl ps Hs es Jk CF DN=>?_⟩
   refine ⟨sl,rfl,⟨_,aD.of CF⟩,eg (K:=K) (a:=sl) (xs:=ps.map V.ref) (fun j σ H8=>∃ v4:Option V,σ = [some (.ref t),some (.ref gd),some (.int (i:Int)),some (.ref b),v4]∧ah H H8∧H8 gd = some (.dT (kN (lk (fun _=>0) R i ++ ((sh 0 r).take j).map fun d=>(d,(i:Int)))))∧H8 sl = some (.lst (ps.map V.ref))∧PR H8 ps (sh 0 r))
    ⟨_,rfl,gF.trans es,by rw [List.take_zero,List.map_nil,List.append_nil]; exact es _ _ g2,CF,DN⟩ (fun j σ H8 _ ⟨_,_,_,_,e,_⟩=>aD.of e) ?_ ?_⟩
   ·rintro j x σ H8 hx ⟨w4,rfl,e8,g8,s8,yK⟩
    have Hl:j < ps.length:=by
     have:=(List.getElem?_eq_some_iff.mp hx).1
     rw [List.length_map] at this
     exact this
    obtain ⟨d8,EG,k8⟩:=yK.at (i:=j) (a:=ps[j]) (by simp [Hl])
    obtain rfl:x = V.ref ps[j]:=by
     rw [List.getElem?_map,List.getElem?_eq_getElem Hl] at hx
     exact (Option.some.inj hx).symm
    have Ax:j < r.length:=by
     have:=yK.len
     rw [bQ] at this
     omega
    have new:d8∉(lk (fun _=>0) R i ++ ((sh 0 r).take j).map fun d=>(d,(i:Int))).map (·.1):=by
     rw [List.map_append,List.map_map]
     have VH:((lk (fun _=>0) R i).map (·.1) ++ sh 0 r).Nodup:=by
      have:(sh 0 r).map ((fun x:aj×Int=>x.1) ∘ fun d=>(d,(i:Int))) = sh 0 r:=List.map_id _
      rw [this] at kn
      exact kn
     have e9:((sh 0 r).take j).map ((fun x:aj×Int=>x.1) ∘ fun d=>(d,(i:Int))) = (sh 0 r).take j:=List.map_id _
     rw [e9]
     exact dJ VH EG
    walk_at "rd"
    refine ⟨gd,_,rfl,jV.t (k:=eR d8) g8 k8 ?_,?_⟩
    ·rw [Ej,List.length_append,List.length_map,List.length_take]
     exact aB (by omega)
    ·rw [GC new,List.append_assoc]
     have et:((sh 0 r).take j).map (fun d=>(d,(i:Int))) ++ [(d8,(i:Int))] = ((sh 0 r).take (j + 1)).map fun d=>(d,(i:Int)):=by rw [take_snoc EG,List.map_append]; rfl
     rw [et]
     refine ⟨_,rfl,ah.fresh e8 zE,ae,?_,Paired.ki yK fun a z h=>?_⟩
     ·rw [ax (fun z=>by rw [z,g8] at s8; cases s8)]
      exact s8
     ·rw [ax (fun w=>by rw [w,g8] at h; cases h)]
      exact h
   ·rintro σ H8 ⟨w4,rfl,e8,g8,s8,yK⟩
    rw [List.length_map,yK.len,List.take_length,← ek] at g8
    exact ⟨_,_,_,rfl,e8,g8⟩
  ·rintro σ H1 ⟨v2,v3,v4,rfl,e1,g1⟩
   rw [List.length_map,g.len] at g1
   walk_at "rd"
   exact q gd H1 e1 zE g1
theorem rQ:aR ["orders", "alone"] ["orders"] (ak fo):=⟨rfl,rfl,rfl,by decide +kernel,rfl,by decide +kernel,by decide +kernel⟩
theorem yT (D:Def K mg "count" fo ["orders"]) (T:Txt K mg Z) (qj:du P w K mg base (cM P w) "ties" 1 ["orders"] oV) (eT:du P w K mg base (cM P w) "lands" 3 ["orders"] gI):du P w K mg base (cM P w) "count" 4 ["orders"] rJ:=by
 refine D.eI rQ (fun vs H Q E h=>?_) (fun f dH A outer s H vs Q E hr h=>?_)
 ·obtain ⟨p,as,L,rfl,_⟩:=h; rfl
 ·obtain ⟨p,as,L,rfl,g,im,hn,hd,q⟩:=h
  refine ⟨_,(ag (aG (i:=1) rQ.nd rfl (by first | exact Or.inl rfl | exact Or.inr rfl) (av az (by rfl) T.len aK (aa (fB (tg:=["order"]) (fr:=[]) (by walk_at "blk_ok") rfl (cD (pv 0)) (fun _ _ _ _ _=>(aJ (i:=0) (show [("order" : Str)].Nodup by decide +kernel) rfl (by first | exact Or.inl rfl | exact Or.inr rfl))) (fun _ _ _ _ _=>(fR (aM ji (av (xF (K:=K) rfl) (by rfl) T.len aK (aa (pv 0) af)) ay (aZ _)))) (fun _ _ _ _ _=>(pv 0))) af)))
   (ao (aS (aU fK (aU jI (aU fK (av az (by rfl) T.len aK (aa (pv 0) af)) (av az (by rfl) T.len aK (aa (aC eT hr bg (aa (pv 0) af)) af))) (av az (by rfl) T.len aK (aa (aC qj hr bg (aa (pv 0) af)) af))) (pv 1))))),?_⟩
  dsimp only [dO]
  walk_at "rd"
  refine dR ?_
  refine ⟨_,rfl,p,rfl,⟨_,aD.of g.top⟩,fun acc bI=>?_⟩
  refine dG (K:=K) (a:=p) (xs:=as.map V.ref) (fun i σ' ys H1=>∃ v:Option V,σ' = [v]∧ah H H1∧H1 acc = some (.lst ys)∧ys.length = (L.take i).countP (·.isEmpty)∧ys.length≤i)
   ⟨none,rfl,ah.upd bI,ae,rfl,Nat.le_refl _⟩ (fun i σ' ys H1 _ ⟨_,_,e,_⟩=>aD.of (e _ _ g.top)) ?_ ?_
  ·rintro i x σ' ys H1 hx hi ⟨v,rfl,e1,a1,zy,zi⟩
   have xQ:i < L.length:=by rw [List.length_map,g.len] at hi; exact hi
   obtain ⟨b,l,hb,hl,bO⟩:=g.at xQ
   obtain rfl:x = V.ref b:=by
    rw [List.getElem?_map,hb] at hx
    exact (Option.some.inj hx).symm
   have tk:(L.take (i + 1)).countP (·.isEmpty) = (L.take i).countP (·.isEmpty) + if l.isEmpty = true then 1 else 0:=by rw [take_snoc hl,List.countP_append,List.countP_singleton]
   walk_at "rd"
   refine ⟨_,_,rfl,.inl ⟨_,aD.of (e1 _ _ bO),rfl⟩,?_⟩
   have zl:(l.map V.int).length = l.length:=List.length_map _
   rw [zl]
   walk_at "rd"
   refine if2 (fun hz=>?_) (fun hz=>?_)
   ·have l0:l = []:=List.length_eq_zero_iff.mp (by omega)
    walk_at "rd"
    refine ⟨a1,aB (by omega),dN hi ⟨_,rfl,ah.fresh e1 bI,ae,?_,by simp; omega⟩⟩
    rw [tk,l0,List.length_append,zy]; rfl
   ·have l0:l.isEmpty = false:=by cases l with | nil=>exact absurd rfl hz | cons _ _=>rfl
    refine dN hi ⟨_,rfl,e1,a1,?_,by omega⟩
    rw [tk,l0,zy]; rfl
  ·rintro σ' ys H1 ⟨v,rfl,e1,a1,zy,zi⟩
   rw [List.length_map,g.len,List.take_length] at zy
   walk_at "rd"
   refine ⟨_,_,rfl,.inl ⟨_,aD.of a1,rfl⟩,?_⟩
   rw [zy]
   walk_at "rd"
   refine ⟨_,_,rfl,.inl ⟨_,aD.of (e1 _ _ g.top),rfl⟩,?_⟩
   rw [List.length_map,g.len]
   walk_at "rd"
   refine ⟨p,as,L,rfl,g.same e1,im,hn,hd,fun t bs R H2 e2 t2 _ _ ld=>?_⟩
   walk_at "rd"
   refine ⟨_,_,rfl,.inl ⟨_,aD.of t2.top,rfl⟩,?_⟩
   rw [List.length_map,t2.len]
   walk_at "rd"
   refine ⟨p,as,L,rfl,(g.same e1).same e2,hn,im,fun t3 ps H3 e3 _ h3 Uq=>?_⟩
   walk_at "rd"
   refine ⟨_,_,rfl,.inl ⟨_,aD.of h3,rfl⟩,?_⟩
   rw [List.length_map,Uq.len]
   walk_at "rd"
   exact q R H3 ((e1.trans e2).trans e3) ld
theorem gM:aR ["orders", "place", "order", "neighbour"] ["orders", "place"] (ak cW):=⟨rfl,rfl,rfl,by decide +kernel,rfl,by decide +kernel,by decide +kernel⟩
theorem se (D:Def K mg "is_wrong" cW ["orders", "place"]) (T:Txt K mg Z):du P w K mg base (cM P w) "is_wrong" 1 ["orders", "place"] rh:=by
 refine D.eI gM (fun vs H Q E h=>?_) (fun f dH A outer s H vs Q E hr h=>?_)
 ·obtain ⟨p,as,L,k,rfl,_⟩:=h; rfl
 ·obtain ⟨p,as,L,k,rfl,g,im,hk,hn,q⟩:=h
  obtain ⟨b,l,ha,hl,bO⟩:=g.at hk
  have nl:=im.nd _ _ hl
  have ln:l.length≤L.length:=bC nl fun y hy=>⟨(im.rg _ _ hl y hy).1,(im.rg _ _ hl y hy).2.1⟩
  refine ⟨_,(ag (aG (i:=2) gM.nd rfl (by first | exact Or.inl rfl | exact Or.inr rfl) (bp aO (pv 0) (pv 1) (fun _ _=>rfl)))
   (ag (b8 (aM gw (av oH (by rfl) T.len aK (aa (oq (oF rfl) (by rfl) T.set Ab (aa (pv 2) af)) af)) (av az (by rfl) T.len aK (aa (pv 2) af)) (aZ _)) (ao (aS fe)) aX)
   (ag (cg PassesOwn.never rfl (cD (pv 2)) (aJ (i:=3) gM.nd rfl (by first | exact Or.inl rfl | exact Or.inr rfl))
   (ag (b8 (PW.pt (pw_or (aM ji (pv 3) (pv 1) (aZ _)) (pw_or (aM vI (pv 3) ay (aZ _)) (pw_or1 (aM GH (pv 3) (av az (by rfl) T.len aK (aa (pv 0) af)) (aZ _)))))) (ao (aS fe)) aX)
   (ao (b8 (aM gc (pv 1) (bp aO (pv 0) (pv 3) (fun _ _=>rfl)) (by with_unfolding_all rfl)) (ao (aS fe)) aX))))
   (ao (aS fe))))),?_⟩
  dsimp only [dO]
  walk_at "rd"
  refine bj (aD.of g.top) (g.ix ha) ?_
  walk_at "rd"
  refine ⟨b,l,rfl,aD.of bO,by omega,fun ps S Wm=>?_⟩
  have e1:ah H (upd H ps (.set S (qw l).length)):=ah.upd Wm
  refine ⟨ps,S,_,rfl,ae,?_⟩
  generalize upd H ps (.set S (qw l).length) = H1 at e1 ⊢
  walk_at "rd"
  refine ⟨_,_,rfl,.inl ⟨_,aD.of (e1 _ _ bO),rfl⟩,?_⟩
  rw [List.length_map,(mG l).mpr nl]
  walk_at "rd"
  refine gB (fun z=>absurd rfl z) (fun _=>?_)
  walk_at "rd"
  refine dh ?_
  refine ⟨_,rfl,b,rfl,⟨_,aD.of (e1 _ _ bO)⟩,eg (K:=K) (a:=b) (xs:=l.map V.int) (fun i σ H2=>∃ v:Option V,σ = [some (.ref p),some (.int (k:Int)),some (.ref b),v]∧ah H H2) ⟨none,rfl,e1⟩ (fun i σ H2 _ ⟨_,_,e⟩=>aD.of (e _ _ bO)) ?_ ?_⟩
  ·rintro i x σ H2 hx ⟨v,rfl,e2⟩
   obtain ⟨y,hy,rfl⟩:∃ y,l[i]? = some y∧x = V.int y:=by
    rw [List.getElem?_map] at hx
    cases e:l[i]? with
    | none=>rw [e] at hx; cases hx
    | some z=>rw [e] at hx; exact ⟨z,rfl,(Option.some.inj hx).symm⟩
   have rg:=im.rg _ _ hl y (List.mem_of_getElem? hy)
   obtain ⟨yn,rfl⟩:=Int.eq_ofNat_of_zero_le rg.1
   obtain ⟨b2,l2,EK,jv,iD⟩:=g.at (i:=yn) (by omega)
   have bk:=im.sy _ _ hl _ (List.mem_of_getElem? hy) yn rfl _ jv
   walk_at "rd"
   refine if2 (fun z=>absurd z rg.2.2) (fun _=>?_)
   walk_at "rd"
   refine if2 (fun z=>absurd z (by omega)) (fun _=>?_)
   walk_at "rd"
   refine ⟨_,_,rfl,.inl ⟨_,aD.of (e2 _ _ g.top),rfl⟩,?_⟩
   rw [List.length_map,g.len]
   walk_at "rd"
   refine if2 (fun z=>absurd z (by omega)) (fun _=>?_)
   walk_at "rd"
   refine bj (aD.of (e2 _ _ g.top)) (g.ix EK) ?_
   refine wL (aD.of (e2 _ _ iD)) ?_
   rw [if_pos rfl,decide_eq_true bk]
   walk_at "rd"
   exact ⟨_,rfl,e2⟩
  ·rintro σ H2 ⟨v,rfl,e2⟩
   walk_at "rd"
   exact q _ e2
theorem n9:aR ["orders", "place"] ["orders"] (ak d6):=⟨rfl,rfl,rfl,by decide +kernel,rfl,by decide +kernel,by decide +kernel⟩
theorem wU (D:Def K mg "looked" d6 ["orders"]) (T:Txt K mg Z) (uC:du P w K mg base (cM P w) "is_wrong" 1 ["orders", "place"] rh):du P w K mg base (cM P w) "looked" 2 ["orders"] nV:=by
 refine D.eI n9 (fun vs H Q E h=>?_) (fun f dH A outer s H vs Q E hr h=>?_)
 ·obtain ⟨p,as,L,rfl,_⟩:=h; rfl
 ·obtain ⟨p,as,L,rfl,g,im,hn,q⟩:=h
  refine ⟨_,(ao (cg PassesOwn.never rfl (cQ rfl T.range (aa (av az (by rfl) T.len aK (aa (pv 0) af)) af)) (aJ (i:=1) n9.nd rfl (by first | exact Or.inl rfl | exact Or.inr rfl))
   (ao (b8 (tW (aC uC hr bg (aa (pv 0) (aa (pv 1) af)))) (ao yJ) aX)))),?_⟩
  dsimp only [dO]
  refine dh ?_
  refine ⟨_,rfl,_,_,rfl,.inl ⟨_,aD.of g.top,rfl⟩,(L.length:Int),by rw [List.length_map,g.len],by omega,by omega,?_⟩
  rw [Int.toNat_natCast]
  refine dU (fun i σ H1=>∃ v:Option V,σ = [some (.ref p),v]∧ah H H1) ⟨none,rfl,fun _ _ e=>e⟩ ?_ ?_
  ·rintro i σ H1 hi ⟨v,rfl,e1⟩
   simp only [Int.zero_add]
   walk_at "rd"
   refine ⟨p,as,L,i,rfl,g.same e1,im,hi,hn,fun H2 e2=>?_⟩
   walk_at "rd"
   exact ⟨_,rfl,e1.trans e2⟩
  ·rintro σ H1 ⟨v,rfl,e1⟩
   exact q _ e1
theorem cK:aR ["orders", "rings", "left", "turned", "land", "ring", "order"] ["orders"] (ak cI):=⟨rfl,rfl,rfl,by decide +kernel,rfl,by decide +kernel,by decide +kernel⟩
theorem pK (D:Def K mg "other_map" cI ["orders"]) (T:Txt K mg Z) (jw:du P w K mg base (cM P w) "steps" 1 ["ring"] iY) (eT:du P w K mg base (cM P w) "lands" 3 ["orders"] gI) (qm:du P w K mg base (cM P w) "left_lands" 2 ["rings"] uX):du P w K mg base (cM P w) "other_map" 4 ["orders"] rE:=by
 refine D.Hy cK (fun vs H Q E h=>?_) (fun f dH A outer s H vs Q E hr h=>?_)
 ·obtain ⟨p,as,L,rfl,_⟩:=h; rfl
 ·obtain ⟨p,as,L,rfl,g,im,hn,hd,qF,qq⟩:=h
  refine ⟨_,(ag (aG (i:=1) cK.nd rfl (by first | exact Or.inl rfl | exact Or.inr rfl) (aC eT hr bg (aa (pv 0) af)))
   (ag (aG (i:=2) cK.nd rfl (by first | exact Or.inl rfl | exact Or.inr rfl) (aC qm hr bg (aa (pv 1) af)))
   (ag (aG (i:=3) cK.nd rfl (by first | exact Or.inl rfl | exact Or.inr rfl) (cL af))
   (ag (cg PassesOwn.leaving rfl (ig T.enumerate (aa (pv 1) af)) (gS (n:=2) rfl (bD (aJ (i:=4) cK.nd rfl (by first | exact Or.inl rfl | exact Or.inr rfl)) (bD (aJ (i:=5) cK.nd rfl (by first | exact Or.inl rfl | exact Or.inr rfl)) eP)))
   (ag (jb (i:=6) cK.nd rfl (by first | exact Or.inl rfl | exact Or.inr rfl) (tg:=["here", "there"]) (fr:=[("left",2)]) (by walk_at "blk_ok") rfl (cD (aC jw hr bg (aa (pv 5) af))) (fun _ _ _ _ _=>(vG (K:=K) rfl (n:=2) rfl (bD (aJ (i:=0) (show [("here" : Str),("there" : Str),("left" : Str)].Nodup by decide +kernel) rfl (by first | exact Or.inl rfl | exact Or.inr rfl)) (bD (aJ (i:=1) (show [("here" : Str),("there" : Str),("left" : Str)].Nodup by decide +kernel) rfl (by first | exact Or.inl rfl | exact Or.inr rfl)) eP)))) (fun _ _ _ _ _=>fc) (fun _ _ _ _ _=>(jf (fg hr) (pv 2) (fI (aa (pv 1) (aa (pv 0) af))) (fun _ _=>rfl))))
   (ag (b8 (PW.pt (pw_or (aM jJ (pv 4) (pv 6) (by with_unfolding_all rfl)) (pw_or1 (aM gw (av oH (by rfl) T.len aK (aa (oq (oF rfl) (by rfl) T.set Ab (aa (pv 6) af)) af)) (av az (by rfl) T.len aK (aa (pv 6) af)) (aZ _))))) (ao (rV PySem.F.excBase_ValueError T.x_NoOther T.xH rfl (aa yM af) yw)) aX)
   (ao (b9 (di PySem.F.plainAttrs_list PySem.F.slot_list_append PySem.F.type_list_append bT (pv 3) (aa (pv 6) af)))))))
   (ao (aS (pv 3))))))),?_⟩
  dsimp only [dO]
  walk_at "rd"
  refine ⟨p,as,L,rfl,g,im,by omega,hd,fun t ts R H1 e1 t1 ou qQ lR=>?_⟩
  have q:mU (R.map (gE R 0))→∀ (t:Addr) (bs:List Addr) H',ah H H'→aQ H' t bs (R.map (gE R 0))→(t :: bs).Nodup→(∀ b∈t :: bs,H b = none)→Q (.ref t) H':=fun _ t bs H' e g _ _=>qq R t bs H' lR e g
  have qE:¬ mU (R.map (gE R 0))→∀ H',ah H H'→E (.ref Z.qD) none H':=fun no=>absurd (qF R lR) no
  have fl:=jL lR
  have xS:=ow lR
  walk_at "rd"
  refine ⟨t,ts,R,rfl,t1,lR.nd,fun r hr=>by have:=(lR.good r hr).two; omega,by omega,fun gd H2 e2 ZC g2=>?_⟩
  have t2:=t1.same e2
  walk_at "rd"
  refine ⟨Nat.zero_le _,fun tu Rx=>?_⟩
  have e3:ah H2 (upd H2 tu (.lst [])):=ah.upd Rx
  have u3:aQ (upd H2 tu (.lst [])) tu [] ((R.take 0).map (gE R 0)):=⟨ae,rfl,fun i a l z=>by simp at z⟩
  generalize upd H2 tu (.lst []) = H3 at e3 u3 ⊢
  walk_at "rd"
  refine dh ?_
  refine ⟨_,rfl,t,rfl,⟨_,aD.of (t2.same e3).top⟩,fW (K:=K) (a:=t) (xs:=ts.map V.ref) (fun i σ H4=>∃ (cs:List Addr) (v4 v5 v6:Option V),σ = [some (.ref p),some (.ref t),some (.ref gd),some (.ref tu),v4,v5,v6]∧ah H2 H4∧aQ H4 tu cs ((R.take i).map (gE R 0))∧(tu :: cs).Nodup∧(∀ b∈tu :: cs,H2 b = none)∧∀ (k:Nat) (l:List Int),k < i→(R.map (gE R 0))[k]? = some l→(k:Int)∉l∧l.Nodup)
   ⟨[],none,none,none,rfl,e3,u3,by simp,by simpa using Rx,fun k l hk _=>by omega⟩ (fun i σ H4 _ ⟨_,_,_,_,_,e,_⟩=>aD.of (e _ _ t2.top)) ?_ ?_⟩
  ·rintro i x pr σ H4 hx ⟨cs,v4,v5,v6,rfl,e4,u4,JG,HN,Jy⟩ tq
   have hi:i < R.length:=by
    have:=(List.getElem?_eq_some_iff.mp hx).1
    rw [List.length_map,t2.len] at this
    exact this
   obtain ⟨b,r,ha,hr,bO⟩:=t2.at hi
   obtain rfl:x = V.ref b:=by
    rw [List.getElem?_map,ha] at hx
    exact (Option.some.inj hx).symm
   have gr:=lR.good r (List.mem_of_getElem? hr)
   have tw:=gr.two
   have rl:r.length≤128:=by
    have:=yo lR (List.mem_of_getElem? hr)
    omega
   have e5:ah H4 (upd H4 pr (.tup [.int i,.ref b])):=ah.upd tq
   have OO:=e4.trans e5
   have u5:=u4.same e5
   refine dQ (SqT.of ae) rfl ?_
   generalize upd H4 pr (.tup [.int i,.ref b]) = H5 at e5 OO u5 ⊢
   walk_at "rd"
   refine dR ?_
   refine ⟨_,rfl,b,r,rfl,OO _ _ bO,by omega,by omega,fun sl ps H6 e6 Jk CF DN=>?_⟩
   refine ⟨sl,rfl,⟨_,aD.of CF⟩,fun acc bI=>?_⟩
   have ON:=OO.trans e6
   refine dG (K:=K) (a:=sl) (xs:=ps.map V.ref) (fun j σ' ys H7=>∃ v0 v1:Option V,σ' = [v0,v1,some (.ref gd)]∧ys = ((gE R 0 r).take j).map V.int∧ah H6 H7∧H7 acc = some (.lst ys))
    ⟨none,none,rfl,rfl,ah.upd bI,ae⟩ (fun j σ' ys H7 _ ⟨_,_,_,_,e,_⟩=>aD.of (e _ _ CF)) ?_ ?_
   ·rintro j x σ' ys H7 hx hj ⟨v0,v1,rfl,rfl,e7,a7⟩
    rw [List.length_map] at hj
    obtain ⟨d8,EG,k8⟩:=DN.at (i:=j) (a:=ps[j]) (by simp [hj])
    obtain rfl:x = V.ref ps[j]:=by
     rw [List.getElem?_map,List.getElem?_eq_getElem hj] at hx
     exact (Option.some.inj hx).symm
    have Ax:j < r.length:=by
     have:=DN.len
     rw [bQ] at this
     omega
    have RN:=EG
    rw [n6 Ax] at RN
    obtain rfl:=Option.some.inj RN
    refine dQ (SqT.of (e7 _ _ k8)) rfl ?_
    walk_at "rd"
    refine jE (r_var rfl ?_)
    walk_at "rd"
    intro q8 NR
    have e8:ah H7 (upd H7 q8 (.tup [.int (dj r (j + 0)).2,.int (dj r (j + 0)).1])):=ah.upd NR
    have k9:upd H7 q8 (.tup [.int (dj r (j + 0)).2,.int (dj r (j + 0)).1]) q8 = some (.tup ((eR ((dj r (j + 0)).2,(dj r (j + 0)).1)).map kV)):=ae
    generalize upd H7 q8 (.tup [.int (dj r (j + 0)).2,.int (dj r (j + 0)).1]) = H8 at e8 k9 ⊢
    have lg:=Ed (s:=fun _=>0) lR (qC im (gr.dt (j + 0)))
    refine ⟨gd,V.int (lo R ((dj r (j + 0)).2,(dj r (j + 0)).1)),rfl,?_,?_⟩
    ·have:=eD.t (k:=eR ((dj r (j + 0)).2,(dj r (j + 0)).1)) (e8 _ _ (e7 _ _ (ON _ _ g2))) k9
     rw [lg] at this
     exact this
    ·have tk:(gE R 0 r).take (j + 1) = (gE R 0 r).take j ++ [lo R ((dj r (j + 0)).2,(dj r (j + 0)).1)]:=take_snoc (jH Ax)
     refine ⟨e8 _ _ a7,?_,dN (by rw [List.length_map]; exact hj) ⟨_,_,rfl,?_,ah.fresh (e7.trans e8) bI,ae⟩⟩
     ·rw [List.length_map,List.length_take]
      exact aB (by omega)
     ·rw [tk,List.map_append]
      rfl
   ·rintro σ' ys H7 ⟨v0,v1,rfl,rfl,e7,a7⟩
    have lo1:(ps.map V.ref).length = (gE R 0 r).length:=by rw [List.length_map,DN.len,bQ,df]
    rw [lo1,List.take_length] at a7
    have Sh:=ON.trans e7
    have NO:(R.map (gE R 0))[i]? = some (gE R 0 r):=by rw [List.getElem?_map,hr]; rfl
    have E5:H2 acc = none:=ON.free bI
    walk_at "rd"
    refine wL (aD.of a7) ?_
    rw [if_neg (by decide)]
    walk_at "rd"
    refine if2 (fun Fz=>?_) (fun NZ=>?_)
    ·walk_at "rd"
     exact ⟨by rw [PySem.sizeLine_eq]; simp,qE (fun z=>(z i _ NO).1 Fz) _ ((e1.trans e2).trans Sh)⟩
    ·walk_at "rd"
     refine ⟨acc,gE R 0 r,rfl,aD.of a7,by rw [df]; omega,fun sp S tm=>?_⟩
     have e8:ah H7 (upd H7 sp (.set S (qw (gE R 0 r)).length)):=ah.upd tm
     refine ⟨sp,S,_,rfl,ae,?_⟩
     generalize upd H7 sp (.set S (qw (gE R 0 r)).length) = H8 at e8 ⊢
     have a8:=e8 _ _ a7
     walk_at "rd"
     refine ⟨_,_,rfl,.inl ⟨_,aD.of a8,rfl⟩,?_⟩
     rw [List.length_map]
     have Sg:=Sh.trans e8
     walk_at "rd"
     refine gB (fun gD=>?_) (fun heq=>?_)
     ·walk_at "rd"
      exact ⟨by rw [PySem.sizeLine_eq]; simp,qE (fun z=>gD (by rw [(mG (gE R 0 r)).mpr (z i _ NO).2])) _ ((e1.trans e2).trans Sg)⟩
     ·have Vc:(gE R 0 r).Nodup:=(mG _).mp (by omega)
      have u8:=((u5.same e6).same e7).same e8
      have GS:acc∉tu :: cs:=(u5.same e6).iA bI
      have Ri:acc≠tu:=fun z=>GS (z▸List.mem_cons_self)
      walk_at "rd"
      refine ⟨.inl ⟨rfl,_,aD.of u8.top⟩,?_⟩
      walk_at "rd"
      refine cY u8.top (by rw [List.length_map,u8.len,List.length_map,List.length_take]; exact aB (by omega)) ?_
      refine ⟨cs ++ [acc],_,_,_,rfl,ah.fresh Sg (HN _ List.mem_cons_self),?_,?_,fun y hy=>?_,fun k l hk hl=>?_⟩
      ·rw [take_snoc hr,List.map_append]
       exact u8.snoc (List.nodup_cons.mp JG).1 Ri a8
      ·obtain ⟨n1,n2⟩:=List.nodup_cons.mp JG
       refine List.nodup_cons.mpr ⟨fun z=>?_,i5.mpr ⟨fun z=>GS (List.mem_cons_of_mem _ z),n2⟩⟩
       rcases List.mem_append.mp z with z | z
       ·exact n1 z
       ·exact Ri (List.mem_singleton.mp z).symm
      ·rcases List.mem_cons.mp hy with z | z
       ·rw [z]; exact HN _ List.mem_cons_self
       ·rcases List.mem_append.mp z with z | z
        ·exact HN y (List.mem_cons_of_mem _ z)
        ·rw [List.mem_singleton.mp z]; exact E5
      ·by_cases z:k < i
       ·exact Jy k l z hl
       ·obtain rfl:k = i:=by omega
        rw [NO] at hl
        cases hl
        exact ⟨NZ,Vc⟩
  ·rintro σ H4 ⟨cs,v4,v5,v6,rfl,e4,u4,JG,HN,Jy⟩
   rw [List.length_map,t2.len] at Jy u4
   rw [List.take_length] at u4
   walk_at "rd"
   refine q (fun k l hl=>Jy k l ?_ hl) tu cs H4 ((e1.trans e2).trans e4) u4 JG (fun b hb=>(e1.trans e2).free (HN b hb))
   have:=(List.getElem?_eq_some_iff.mp hl).1
   rw [List.length_map] at this
   exact this
theorem fZ:aR ["orders", "names", "changed", "place", "order"] ["orders", "names"] (ak dE):=⟨rfl,rfl,rfl,by decide +kernel,rfl,by decide +kernel,by decide +kernel⟩
theorem uh (D:Def K mg "renamed" dE ["orders", "names"]) (T:Txt K mg Z):du P w K mg base (cM P w) "renamed" 1 ["orders", "names"] (jX Z.kW):=by
 refine D.Hy fZ (fun vs H Q E h=>?_) (fun f dH A0 outer s H vs Q E hr h=>?_)
 ·obtain ⟨p,c,as,A,l,rfl,_⟩:=h; rfl
 ·obtain ⟨p,c,as,A,l,rfl,g,hc,mA,hl,hn,q,qE⟩:=h
  refine ⟨_,(ag (b8 (aM (DS hr.units) (av fG (by rfl) T.sorted fX (aa (pv 1) af)) (je rfl T.range T.list (av az (by rfl) T.len aK (aa (pv 0) af))) (aZ _)) (ao (rV PySem.F.excBase_ValueError T.x_NoNames T.xI rfl (aa yM af) yw)) aX)
   (ag (jb (i:=2) fZ.nd rfl (by first | exact Or.inl rfl | exact Or.inr rfl) (tg:=["order"]) (fr:=[]) (by walk_at "blk_ok") rfl (cD (pv 0)) (fun _ _ _ _ _=>(aJ (i:=0) (show [("order" : Str)].Nodup by decide +kernel) rfl (by first | exact Or.inl rfl | exact Or.inr rfl))) (fun _ _ _ _ _=>fc) (fun _ _ _ _ _=>(cL af)))
   (ag (cg PassesOwn.leaving rfl (ig T.enumerate (aa (pv 0) af)) (gS (n:=2) rfl (bD (aJ (i:=3) fZ.nd rfl (by first | exact Or.inl rfl | exact Or.inr rfl)) (bD (aJ (i:=4) fZ.nd rfl (by first | exact Or.inl rfl | exact Or.inr rfl)) eP)))
   (ao (DM (fB (tg:=["neighbour"]) (fr:=[("names",1)]) (by walk_at "blk_ok") rfl (cD (pv 4)) (fun _ _ _ _ _=>(aJ (i:=0) (show [("neighbour" : Str),("names" : Str)].Nodup by decide +kernel) rfl (by first | exact Or.inl rfl | exact Or.inr rfl))) (fun _ _ _ _ _=>fc) (fun _ _ _ _ _=>(bp (jt (K:=K) rfl) (pv 1) (pv 0) (fun _ _=>rfl)))) (DP (pv 2) (bp aO (pv 1) (pv 3) (fun _ _=>rfl)) set_list))))
   (ao (aS (pv 2)))))),?_⟩
  dsimp only [dO]
  walk_at "rd"
  refine ⟨c,l,rfl,aD.of hc,by omega,fun l' p1 pm so BO=>?_⟩
  have e1:ah H (upd H p1 (.lst (l'.map V.int))):=ah.upd BO
  have x1:upd H p1 (.lst (l'.map V.int)) p1 = some (.lst (l'.map V.int)):=ae
  generalize upd H p1 (.lst (l'.map V.int)) = H1 at e1 x1 ⊢
  walk_at "rd"
  refine oi ?_
  walk_at "rd"
  refine ⟨_,_,rfl,.inl ⟨_,aD.of (e1 _ _ g.top),rfl⟩,A.length,by rw [List.length_map,g.len],by omega,fun z hz=>?_⟩
  have e2:ah H1 (upd H1 z (.lst ((aT A.length).map V.int))):=ah.upd hz
  refine ⟨fF l',fF (aT A.length),ie (e2 _ _ x1),ie ae,shaped_ints _,shaped_ints _,?_⟩
  rw [if_pos rfl,qv]
  generalize upd H1 z (.lst ((aT A.length).map V.int)) = H2 at e2 ⊢
  have gF:=e1.trans e2
  walk_at "rd"
  refine gB (fun gD=>?_) (fun heq=>?_)
  ·walk_at "rd"
   exact ⟨by rw [PySem.sizeLine_eq]; simp,qE (fun tj=>gD (tj.sorted pm so)) _ gF⟩
  ·have tj:nI A.length l:=nI.pL (heq▸pm.symm)
   have q:=q tj
   clear qE
   have g2:=g.same gF
   have Oi:=gF _ _ hc
   walk_at "rd"
   refine dR ?_
   refine ⟨_,rfl,p,rfl,⟨_,aD.of g2.top⟩,fun acc bI=>?_⟩
   have C0:=gF.free bI
   refine dG (K:=K) (a:=p) (xs:=as.map V.ref) (fun i σ' ys H1=>∃ (cs:List Addr) (v:Option V),σ' = [v]∧ys = cs.map V.ref∧cs.length = i∧ah H2 H1∧H1 acc = some (.lst ys)∧acc∉cs∧∀ b∈cs,H1 b = some (.lst []))
    ⟨[],none,rfl,rfl,rfl,ah.upd bI,ae,by simp,by simp⟩ (fun i σ' ys H1 _ ⟨_,_,_,_,_,e,_⟩=>aD.of (e _ _ g2.top)) ?_ ?_
   ·rintro i x σ' ys H1 hx hi ⟨cs,v,rfl,rfl,rfl,e1,h1,na,hb⟩
    have WG:=hi
    rw [List.length_map,g.len] at WG
    walk_at "rd"
    refine ⟨Nat.zero_le _,fun b Hx=>⟨by rw [ax (aA h1 Hx)]; exact h1,by rw [List.length_map]; exact aB (by omega),dN hi ⟨cs ++ [b],_,rfl,by simp,by simp,ah.fresh (ah.fresh e1 (e1.free Hx)) bI,ae,?_,?_⟩⟩⟩
    ·intro z
     rcases List.mem_append.mp z with z | z
     ·exact na z
     ·exact aA h1 Hx (List.mem_singleton.mp z)
    ·intro d hd
     have da:d≠acc:=fun z=>by
      subst z
      rcases List.mem_append.mp hd with z | z
      ·exact na z
      ·exact aA h1 Hx (List.mem_singleton.mp z)
     rw [ax da]
     rcases List.mem_append.mp hd with z | z
     ·rw [ax (aA (hb d z) Hx)]; exact hb d z
     ·rw [List.mem_singleton.mp z]; exact ae
   ·rintro σ' ys H3 ⟨cs,v,rfl,rfl,FE,e3,h3,na,hb⟩
    rw [List.length_map,g.len] at FE
    have ER:=gF.trans e3
    have g3:=g2.same e3
    walk_at "rd"
    refine dh ?_
    refine ⟨_,rfl,p,rfl,⟨_,aD.of g3.top⟩,fW (K:=K) (a:=p) (xs:=as.map V.ref) (fun i σ H2=>∃ (cs:List Addr) (R:List (List Int)) (v v':Option V),σ = [some (.ref p),some (.ref c),some (.ref acc),v,v']∧ah H H2∧aQ H2 acc cs R∧acc∉cs∧R.length = A.length∧∀ j:Int,0≤j→j < i→R[(fD l j).toNat]? = some ((rowOf A j).map (fD l)))
     ⟨cs,List.replicate A.length [],none,none,rfl,ER,⟨h3,by simp [FE],fun i b l h2 h3=>?_⟩,na,by simp,fun j j0 j1=>by omega⟩ (fun i σ H1 _ ⟨_,_,_,_,_,e,_⟩=>aD.of (e _ _ g.top)) ?_ ?_⟩
    ·rw [List.getElem?_replicate] at h3
     split at h3
     ·cases h3; exact hb b (List.mem_of_getElem? h2)
     ·cases h3
    ·rintro i x pr σ H4 hx ⟨cs,R,v,v',rfl,e4,g4,M7,rl,rows⟩ tq
     have hi:i < A.length:=by
      have:=(List.getElem?_eq_some_iff.mp hx).1
      rw [List.length_map,g.len] at this
      exact this
     obtain ⟨b,r,ha,j7,bO⟩:=g.at hi
     obtain rfl:x = V.ref b:=by
      rw [List.getElem?_map,ha] at hx
      exact (Option.some.inj hx).symm
     have er:=cP j7
     have rr:=tj.Gq (i:=(i:Int)) (by omega) (by omega)
     have e5:ah H4 (upd H4 pr (.tup [.int i,.ref b])):=ah.upd tq
     refine dQ (SqT.of ae) rfl ?_
     generalize upd H4 pr (.tup [.int i,.ref b]) = H5 at e5 ⊢
     have xU:=e4.trans e5
     have g5:=g4.same e5
     walk_at "rd"
     refine dR ?_
     refine ⟨_,rfl,b,rfl,⟨_,aD.of (xU _ _ bO)⟩,fun E6 qi=>?_⟩
     refine dG (K:=K) (a:=b) (xs:=r.map V.int) (fun j σ' ys H3=>∃ v:Option V,σ' = [v,some (.ref c)]∧ys = ((r.take j).map (fD l)).map V.int∧ah H5 H3∧H3 E6 = some (.lst ys))
      ⟨none,rfl,rfl,ah.upd qi,ae⟩ (fun j σ' ys H3 _ ⟨_,_,_,e,_⟩=>aD.of (e _ _ (xU _ _ bO))) ?_ ?_
     ·rintro j x σ' ys H6 hx hj ⟨v,rfl,rfl,e6,a6⟩
      obtain ⟨y,hy,rfl⟩:∃ y,r[j]? = some y∧x = V.int y:=by
       rw [List.getElem?_map] at hx
       cases e:r[j]? with
       | none=>rw [e] at hx; cases hx
       | some z=>rw [e] at hx; exact ⟨z,rfl,(Option.some.inj hx).symm⟩
      have yr:=mA.rg _ _ j7 y (List.mem_of_getElem? hy)
      have jr:=hj
      rw [List.length_map] at jr
      have Y3:r.length≤A.length:=bC (mA.nd _ _ j7) fun y hy=>⟨(mA.rg _ _ j7 y hy).1,(mA.rg _ _ j7 y hy).2.1⟩
      walk_at "rd"
      refine bj (aD.of (e6 _ _ (xU _ _ hc))) (zu yr.1 (by rw [tj.len]; exact yr.2.1)) ?_
      refine ⟨a6,by rw [List.length_map,List.length_map,List.length_take]; exact aB (by omega),dN hj ⟨_,rfl,?_,ah.fresh e6 qi,ae⟩⟩
      rw [List.take_succ,hy]
      simp
     ·rintro σ' ys H6 ⟨v,rfl,rfl,e6,a6⟩
      rw [List.length_map,List.take_length] at a6
      have HV:=xU.trans e6
      have Yb:=xU.free qi
      refine ⟨_,rfl,_,rfl,_,rfl,bj (aD.of (HV _ _ hc)) (zu (x:=(i:Int)) (by omega) (by rw [tj.len]; omega)) ?_⟩
      have g6:=g5.same e6
      refine ⟨acc,_,_,(fD l (i:Int)).toNat,rfl,rfl,g6.top,Ek rr.1 (by rw [List.length_map,g6.len,rl]; exact rr.2),?_⟩
      have nb:E6≠acc:=fun z=>by rw [z,g5.top] at qi; cases qi
      refine ⟨_,R.set (fD l (i:Int)).toNat (r.map (fD l)),_,_,rfl,ah.fresh HV C0,g6.Dw M7 nb a6,?_,by rw [List.length_set]; exact rl,fun j j0 j1=>?_⟩
      ·intro z
       rcases List.mem_or_eq_of_mem_set z with z | z
       ·exact M7 z
       ·exact nb z.symm
      ·by_cases ej:j = (i:Int)
       ·subst ej
        rw [er,List.getElem?_set_self (by rw [rl]; have:=rr.2; omega)]
       ·rw [List.getElem?_set_ne (fun z=>ej ?_)]
        ·exact rows j j0 (by omega)
        ·have rj:=tj.Gq (i:=j) j0 (by omega)
         exact tj.inj j0 (by omega) (by omega) (by omega) (by omega)
    ·rintro σ H4 ⟨cs,R,v,v',rfl,e4,g4,M7,rl,rows⟩
     rw [List.length_map,g.len] at rows
     walk_at "rd"
     exact q acc cs R H4 e4 g4 C0 ⟨rl,rows⟩
theorem j3:aR ["order", "first", "where"] ["order", "first"] (ak cX):=⟨rfl,rfl,rfl,by decide +kernel,rfl,by decide +kernel,by decide +kernel⟩
theorem sf (D:Def K mg "begun_at" cX ["order", "first"]) (T:Txt K mg Z):du P w K mg base (cM P w) "begun_at" 1 ["order", "first"] iH:=by
 refine D.eI j3 (fun vs H Q E h=>?_) (fun f dH A outer s H vs Q E hr h=>?_)
 ·obtain ⟨a,l,x,rfl,_⟩:=h; rfl
 ·obtain ⟨a,l,x,rfl,ha,hx,hl,q⟩:=h
  have ii:=List.idxOf_lt_length_of_mem hx
  refine ⟨_,(ag (aG (i:=2) j3.nd rfl (by first | exact Or.inl rfl | exact Or.inr rfl) (di PySem.F.plainAttrs_list PySem.F.slot_list_index PySem.F.type_list_index fV (pv 0) (aa (pv 1) af)))
   (ao (aS (aU pI (d7 fY (pv 0) (fv (pv 2)) fz) (d7 fY (pv 0) fz (fv (pv 2))))))),?_⟩
  dsimp only [dO]
  walk_at "rd"
  refine ⟨.inl ⟨rfl,_,aD.of ha⟩,?_⟩
  walk_at "rd"
  refine ⟨a,_,x,rfl,rfl,ha,hx,?_⟩
  walk_at "rd"
  refine oj (a:=a) (i:=0) (k:=2) (n:=l.idxOf x) (r:=l) rfl rfl (aD.of ha) (by omega) fun p1 BO=>?_
  have e1:ah H (upd H p1 (.lst ((l.drop (l.idxOf x)).map V.int))):=ah.upd BO
  refine vn (a:=a) (i:=0) (k:=2) (n:=l.idxOf x) (r:=l) rfl rfl (aD.of (e1 _ _ ha)) (by omega) fun p2 xj=>?_
  have e2:=e1.trans (ah.upd (o:=.lst ((l.take (l.idxOf x)).map V.int)) xj)
  have x1:upd (upd H p1 (.lst ((l.drop (l.idxOf x)).map V.int))) p2 (.lst ((l.take (l.idxOf x)).map V.int)) p1 = some (.lst ((l.drop (l.idxOf x)).map V.int)):=by rw [ax (aA ae xj)]; exact ae
  refine ⟨p1,p2,_,_,rfl,rfl,x1,ae,by rw [List.length_map,List.length_map,List.length_drop,List.length_take,PySem.sizeLine_eq]; omega,fun b hb=>?_⟩
  generalize upd (upd H p1 (.lst ((l.drop (l.idxOf x)).map V.int))) p2 (.lst ((l.take (l.idxOf x)).map V.int)) = H2 at e2 x1 hb ⊢
  have er:(l.drop (l.idxOf x)).map V.int ++ (l.take (l.idxOf x)).map V.int = (bM l (l.idxOf x)).map V.int:=by unfold bM; rw [List.map_append]
  rw [er]
  walk_at "rd"
  exact q b _ (e2.trans (ah.upd hb)) (e2.free hb) ae
theorem ke:aR ["one", "other"] ["one", "other"] (ak bG):=⟨rfl,rfl,rfl,by decide +kernel,rfl,by decide +kernel,by decide +kernel⟩
theorem kg (D:Def K mg "orders_alike" bG ["one", "other"]) (T:Txt K mg Z) (gm:du P w K mg base (cM P w) "begun_at" 1 ["order", "first"] iH):du P w K mg base (cM P w) "orders_alike" 2 ["one", "other"] nW:=by
 refine D.eI ke (fun vs H Q E h=>?_) (fun f dH A outer s H vs Q E hr h=>?_)
 ·obtain ⟨a,b,l,m,rfl,_⟩:=h; rfl
 ·obtain ⟨a,b,l,m,rfl,ha,hb,hl,hm,nm,q,qf⟩:=h
  refine ⟨_,(ag (b8 (aM gw (av az (by rfl) T.len aK (aa (pv 0) af)) (av az (by rfl) T.len aK (aa (pv 1) af)) (aZ _)) (ao (aS fe)) aX)
   (ag (b8 (aM ji (av az (by rfl) T.len aK (aa (pv 0) af)) ay (aZ _)) (ao (aS fe)) aX)
   (ao (aS (pG (jg jJ (bp aO (pv 0) ay (fun _ _=>rfl)) (pv 1) (by with_unfolding_all rfl)) (tY (jg (DV hr.units) (aC gm hr bg (aa (pv 1) (aa (bp aO (pv 0) ay (fun _ _=>rfl)) af))) (pv 0) (aZ _)))))))),?_⟩
  dsimp only [dO]
  walk_at "rd"
  refine ⟨_,_,rfl,.inl ⟨_,aD.of ha,rfl⟩,?_⟩
  walk_at "rd"
  refine ⟨_,_,rfl,.inl ⟨_,aD.of hb,rfl⟩,?_⟩
  rw [List.length_map,List.length_map]
  walk_at "rd"
  refine gB (fun gD=>?_) (fun heq=>?_)
  ·walk_at "rd"
   exact qf (fun r=>gD (by rw [r.len])) _ (fun _ _ e=>e)
  ·walk_at "rd"
   refine ⟨_,_,rfl,.inl ⟨_,aD.of ha,rfl⟩,?_⟩
   rw [List.length_map]
   walk_at "rd"
   refine if2 (fun h0=>?_) (fun h0=>?_)
   ·walk_at "rd"
    have l0:l = []:=List.length_eq_zero_iff.mp (by omega)
    have m0:m = []:=List.length_eq_zero_iff.mp (by omega)
    exact q (.inl (by rw [l0,m0])) _ (fun _ _ e=>e)
   ·obtain ⟨x,l1,rfl⟩:∃ x l1,l = x :: l1:=by cases l with | nil=>simp at h0 | cons a b=>exact ⟨a,b,rfl⟩
    walk_at "rd"
    refine bj (aD.of ha) (show kU ((x :: l1).map V.int) ((0:Nat):Int) = some (V.int x) from ir (by simp)) ?_
    walk_at "rd"
    refine wL (aD.of hb) ?_
    rw [if_neg (by decide)]
    by_cases xm:x∈m
    ·rw [decide_eq_true xm]
     walk_at "rd"
     refine bj (aD.of ha) (show kU ((x :: l1).map V.int) ((0:Nat):Int) = some (V.int x) from ir (by simp)) ?_
     walk_at "rd"
     refine ⟨b,m,x,rfl,hb,xm,hm,fun c H1 e1 hc c1=>?_⟩
     walk_at "rd"
     refine ⟨fF (bM m (m.idxOf x)),fF (x :: l1),ie c1,ie (e1 _ _ ha),shaped_ints _,shaped_ints _,?_⟩
     rw [if_neg (by decide),qv]
     by_cases er:bM m (m.idxOf x) = x :: l1
     ·rw [decide_eq_true er]
      exact q (.inr ⟨m.idxOf x,List.idxOf_lt_length_of_mem xm,er.symm⟩) _ e1
     ·rw [decide_eq_false er]
      exact qf (fun rq=>er (rq.idx nm rfl).2) _ e1
    ·rw [decide_eq_false xm]
     walk_at "rd"
     exact qf (fun rq=>xm (rq.perm.mem_iff.mp List.mem_cons_self)) _ (fun _ _ e=>e)
theorem A8:aR ["one", "other"] ["one", "other"] (ak s_same):=⟨rfl,rfl,rfl,by decide +kernel,rfl,by decide +kernel,by decide +kernel⟩
theorem Bq (D:Def K mg "same" s_same ["one", "other"]) (T:Txt K mg Z) (mr:du P w K mg base (cM P w) "orders_alike" 2 ["one", "other"] nW):du P w K mg base (cM P w) "same" 3 ["one", "other"] rB:=by
 refine D.eI A8 (fun vs H Q E h=>?_) (fun f dH A outer s H vs Q E hr h=>?_)
 ·obtain ⟨p,t,as,bs,L,M,rfl,_⟩:=h; rfl
 ·obtain ⟨p,t,as,bs,L,M,rfl,g,k,hL,hM,hn,hm,q,qf⟩:=h
  refine ⟨_,(ao (aS (pG (jg ji (av az (by rfl) T.len aK (aa (pv 0) af)) (av az (by rfl) T.len aK (aa (pv 1) af)) (aZ _)) (tY (av (Aa rfl) (by rfl) T.all E1 (aa (fB (tg:=["first", "second"]) (fr:=[]) (by walk_at "blk_ok") rfl (yL T.zip (aa (pv 0) (aa (pv 1) af))) (fun _ _ _ _ _=>(vG (K:=K) rfl (n:=2) rfl (bD (aJ (i:=0) (show [("first" : Str),("second" : Str)].Nodup by decide +kernel) rfl (by first | exact Or.inl rfl | exact Or.inr rfl)) (bD (aJ (i:=1) (show [("first" : Str),("second" : Str)].Nodup by decide +kernel) rfl (by first | exact Or.inl rfl | exact Or.inr rfl)) eP)))) (fun _ _ _ _ _=>fc) (fun _ _ _ _ _=>(aC mr hr bg (aa (pv 0) (aa (pv 1) af))))) af)))))),?_⟩
  dsimp only [dO]
  walk_at "rd"
  refine ⟨_,_,rfl,.inl ⟨_,aD.of g.top,rfl⟩,?_⟩
  walk_at "rd"
  refine ⟨_,_,rfl,.inl ⟨_,aD.of k.top,rfl⟩,?_⟩
  rw [List.length_map,List.length_map,g.len,k.len]
  walk_at "rd"
  refine if2 (fun Zy=>?_) (fun gD=>?_)
  ·walk_at "rd"
   refine dR ?_
   have Hi:L.length = M.length:=by omega
   refine ⟨_,rfl,_,rfl,p,t,rfl,⟨_,aD.of g.top⟩,⟨_,aD.of k.top⟩,fun acc bI=>?_⟩
   refine zZ (K:=K) (a:=p) (b:=t) (xs:=as.map V.ref) (ys:=bs.map V.ref) (n:=L.length) (by rw [List.length_map,List.length_map,g.len,k.len,Hi,Nat.min_self]) (fun i σ' ys H1=>∃ (v v':Option V) (ts:List Bool),σ' = [v,v']∧ys = ts.map V.bl∧ts.length = i∧ah H H1∧H1 acc = some (.lst ys)∧(ts.all id = true↔∀ (j:Nat) (l m:List Int),j < i→L[j]? = some l→M[j]? = some m→aW l m))
    ⟨none,none,[],rfl,rfl,rfl,ah.upd bI,ae,by simp⟩ (fun i σ' ys H1 _ ⟨_,_,_,_,_,_,e,_⟩=>⟨aD.of (e _ _ g.top),aD.of (e _ _ k.top)⟩) ?_ ?_
   ·rintro i x y pr σ' ys H1 hx hy hi ⟨v,v',ts,rfl,rfl,Ry,e1,a1,iff⟩ tq
    obtain ⟨b,l,hb,hl,bO⟩:=g.at hi
    obtain ⟨c,m,hc,vU,iD⟩:=k.at (i:=i) (by omega)
    obtain rfl:x = V.ref b:=by
     rw [List.getElem?_map,hb] at hx
     exact (Option.some.inj hx).symm
    obtain rfl:y = V.ref c:=by
     rw [List.getElem?_map,hc] at hy
     exact (Option.some.inj hy).symm
    obtain ⟨nm,lm⟩:=hM m (List.mem_of_getElem? vU)
    have lL:=hL l (List.mem_of_getElem? hl)
    have e2:ah H1 (upd H1 pr (.tup [.ref b,.ref c])):=ah.upd tq
    refine dQ (SqT.of ae) rfl ?_
    generalize upd H1 pr (.tup [.ref b,.ref c]) = H2 at e2 ⊢
    have gF:=e1.trans e2
    walk_at "rd"
    have Tt:∀ (u:Bool),(u = true↔aW l m)→((ts ++ [u]).all id = true↔∀ (j:Nat) (l m:List Int),j < i + 1→L[j]? = some l→M[j]? = some m→aW l m):=fun u hu=>by
     rw [List.all_append,Bool.and_eq_true,iff]
     constructor
     ·rintro ⟨h1,h2⟩ j l' m' hj e1 e2
      by_cases z:j = i
      ·subst z
       rw [hl] at e1; rw [vU] at e2
       cases e1; cases e2
       exact hu.mp (by simpa using h2)
      ·exact h1 j l' m' (by omega) e1 e2
     ·intro h
      exact ⟨fun j l' m' hj=>h j l' m' (by omega),by simpa using hu.mpr (h i l m (by omega) hl vU)⟩
    have fin:∀ (u:Bool) H3,(u = true↔aW l m)→ah H2 H3→H3 acc = some (.lst (ts.map V.bl))∧(ts.map V.bl).length < sizeLine∧∃ m',m' < L.length - i∧(m' = L.length - (i + 1)∧i + 1≤L.length∧∃ (v v':Option V) (KU:List Bool),[some (V.ref b),some (V.ref c)] = [v,v']∧ts.map V.bl ++ [.bl u] = KU.map V.bl∧KU.length = i + 1∧ah H (upd H3 acc (.lst (ts.map V.bl ++ [.bl u])))∧upd H3 acc (.lst (ts.map V.bl ++ [.bl u])) acc = some (.lst (ts.map V.bl ++ [.bl u]))∧(KU.all id = true↔∀ (j:Nat) (l m:List Int),j < i + 1→L[j]? = some l→M[j]? = some m→aW l m)):=fun u H3 hu e3=>
     ⟨(e2.trans e3) _ _ a1,by rw [List.length_map]; exact aB (by omega),L.length - (i + 1),by omega,rfl,by omega,_,_,ts ++ [u],rfl,by simp,by simp [Ry],ah.fresh (gF.trans e3) bI,ae,Tt u hu⟩
    refine ⟨b,c,l,m,rfl,gF _ _ bO,gF _ _ iD,lL,lm,nm,fun yes H3 e3=>?_,fun no H3 e3=>?_⟩
    ·exact fin true H3 ⟨fun _=>yes,fun _=>rfl⟩ e3
    ·exact fin false H3 ⟨fun z=>(by cases z),fun z=>absurd z no⟩ e3
   ·rintro σ' ys H1 ⟨v,v',ts,rfl,rfl,Ry,e1,a1,iff⟩
    walk_at "rd"
    refine ⟨acc,ts,rfl,aD.of a1,?_⟩
    by_cases z:ts.all id = true
    ·rw [z]
     exact q ⟨Hi,fun j l m h1 h2=>iff.mp z j l m (List.getElem?_eq_some_iff.mp h1).1 h1 h2⟩ _ e1
    ·rw [Bool.eq_false_iff.mpr z]
     exact qf (fun r=>z (iff.mpr fun j l m _ h1 h2=>r.2 j l m h1 h2)) _ e1
  ·exact qf (fun r=>gD (by rw [r.1])) _ (fun _ _ e=>e)
theorem bE:aR ["one", "other", "first", "second", "names", "waiting", "step", "place", "order", "goal", "neighbour", "name"] ["one", "other", "first", "second"] (ak bU):=⟨rfl,rfl,rfl,by decide +kernel,rfl,by decide +kernel,by decide +kernel⟩
theorem mY (D:Def K mg "names_from" bU ["one", "other", "first", "second"]) (T:Txt K mg Z) (gm:du P w K mg base (cM P w) "begun_at" 1 ["order", "first"] iH):du P w K mg base (cM P w) "names_from" 2 ["one", "other", "first", "second"] iZ:=by
 refine D.eI bE (fun vs H Q E h=>?_) (fun f dH A outer s H vs Q E hr h=>?_)
 ·obtain ⟨p,t,as,bs,A,B,first,second,x0,rfl,_⟩:=h; rfl
 ·obtain ⟨p,o,as,bs,A,B,first,second,x0,rfl,g,k,mA,mB,hl,hn,n0,hA,f0,f1,Es,hs,qn,qs⟩:=h
  refine ⟨_,(ag (aG (i:=4) bE.nd rfl (by first | exact Or.inl rfl | exact Or.inr rfl) (vH (rX ay (pv 2) vB) rfl rfl (by decide) (by decide)))
   (ag (aG (i:=5) bE.nd rfl (by first | exact Or.inl rfl | exact Or.inr rfl) (cL (aa (fI (aa ay (aa (bp aO (bp aO (pv 0) ay (fun _ _=>rfl)) ay (fun _ _=>rfl)) (aa (pv 3) af)))) af)))
   (ag (ja PassesOwn.never (aM rZ (av az (by rfl) T.len aK (aa (pv 5) af)) ay (aZ _)) (ag (aG (i:=6) bE.nd rfl (by first | exact Or.inl rfl | exact Or.inr rfl) (yN PySem.F.plainAttrs_list PySem.F.slot_list_pop PySem.F.type_list_pop y3 (pv 5)))
   (ag (aG (i:=7) bE.nd rfl (by first | exact Or.inl rfl | exact Or.inr rfl) (bp uw (pv 6) ay (fun _ _=>rfl)))
   (ag (aG (i:=8) bE.nd rfl (by first | exact Or.inl rfl | exact Or.inr rfl) (aC gm hr bg (aa (bp aO (pv 0) (pv 7) (fun _ _=>rfl)) (aa (bp uw (pv 6) ay (fun _ _=>rfl)) af))))
   (ag (aG (i:=9) bE.nd rfl (by first | exact Or.inl rfl | exact Or.inr rfl) (aC gm hr bg (aa (bp aO (pv 1) (jf (fg hr) (pv 4) (pv 7) (fun _ _=>rfl)) (fun _ _=>rfl)) (aa (bp uw (pv 6) ay (fun _ _=>rfl)) af))))
   (ag (b8 (aM gw (av az (by rfl) T.len aK (aa (pv 8) af)) (av az (by rfl) T.len aK (aa (pv 9) af)) (aZ _)) (ao (aS pE)) aX)
   (ao (cg PassesOwn.never rfl (yL T.zip (aa (pv 8) (aa (pv 9) af))) (gS (n:=2) rfl (bD (aJ (i:=10) bE.nd rfl (by first | exact Or.inl rfl | exact Or.inr rfl)) (bD (aJ (i:=11) bE.nd rfl (by first | exact Or.inl rfl | exact Or.inr rfl)) eP)))
   (ag (b8 (iK (fT (fg hr) (pv 10) (pv 4))) (ag (jc (fg hr) (pv 4) (pv 10) (pv 11) rfl)
   (ao (b9 (di PySem.F.plainAttrs_list PySem.F.slot_list_append PySem.F.type_list_append bT (pv 5) (aa (fI (aa (pv 10) (aa (pv 7) (aa (jf (fg hr) (pv 4) (pv 7) (fun _ _=>rfl)) af)))) af))))) aX)
   (ao (b8 (aM gw (jf (fg hr) (pv 4) (pv 10) (fun _ _=>rfl)) (pv 11) (aZ _)) (ao (aS pE)) aX)))))))))))
   (ao (aS (fB (tg:=["place"]) (fr:=[("names",4)]) (by walk_at "blk_ok") rfl (cQ rfl T.range (aa (av az (by rfl) T.len aK (aa (pv 0) af)) af)) (fun _ _ _ _ _=>(aJ (i:=0) (show [("place" : Str),("names" : Str)].Nodup by decide +kernel) rfl (by first | exact Or.inl rfl | exact Or.inr rfl))) (fun _ _ _ _ _=>fc) (fun _ _ _ _ _=>(jf (fg hr) (pv 1) (pv 0) (fun _ _=>rfl))))))))),?_⟩
  dsimp only [dO]
  walk_at "rd"
  refine fun t ht=>⟨_,rfl,?_⟩
  refine ⟨ae,[(.inl 0,.int first)],rfl,by simp,?_⟩
  have e0:ah H (upd (upd H t (.dK [])) t (.dK (ff [] [(.inl 0,.int first)]))):=ah.fresh (ah.upd ht) ht
  have t0:upd (upd H t (.dK [])) t (.dK (ff [] [(.inl 0,.int first)])) t = some (.dK (kI [(0,first)])):=ae
  generalize upd (upd H t (.dK [])) t (.dK (ff [] [(.inl 0,.int first)])) = H0 at e0 t0 ⊢
  obtain ⟨ca,la,WM,Aw,gy⟩:=g.at (i:=0) n0
  have Ku:rowOf A 0 = la:=by
   have:=aq (L:=A) (a:=0) (by omega) (by omega)
   rw [show (0:Int).toNat = 0 from rfl,Aw] at this
   exact (Option.some.inj this).symm
  rw [Ku] at Es
  walk_at "rd"
  refine bj (aD.of (e0 _ _ g.top)) (g.ix WM) ?_
  walk_at "rd"
  refine bj (aD.of (e0 _ _ gy)) (show kU (la.map V.int) ((0:Nat):Int) = some (V.int x0) from ir (by rw [List.getElem?_map,Es]; rfl)) ?_
  walk_at "rd"
  refine fun w1 V8=>?_
  have e1:ah H0 (upd H0 w1 (.tup [.int 0,.int x0,.int second])):=ah.upd V8
  have Qx:upd H0 w1 (.tup [.int 0,.int x0,.int second]) w1 = some (.tup [.int 0,.int x0,.int second]):=ae
  generalize upd H0 w1 (.tup [.int 0,.int x0,.int second]) = H1 at e1 Qx ⊢
  walk_at "rd"
  refine ⟨by rw [PySem.sizeLine_eq]; simp,fun wq hw=>?_⟩
  have e2:ah H1 (upd H1 wq (.lst [.ref w1])):=ah.upd hw
  have wf:H wq = none:=(e0.trans e1).free hw
  have q2:upd H1 wq (.lst [.ref w1]) wq = some (.lst ([w1].map V.ref)):=ae
  have w2:=e2 _ _ Qx
  have t2:=e2 _ _ (e1 _ _ t0)
  have gF:ah H (upd H1 wq (.lst [.ref w1])):=(e0.trans e1).trans e2
  generalize upd H1 wq (.lst [.ref w1]) = H2 at e2 q2 w2 t2 gF ⊢
  have SR:x0∈rowOf A 0:=by rw [Ku]; exact List.mem_of_getElem? Es
  walk_at "rd"
  refine ku (fun σ H3=>∃ (ks:List (Int×Int)) (ra:List Addr) (ws:List Wait) (v6 v7 v8 v9 v10 v11:Option V),σ = [some (.ref p),some (.ref o),some (.int first),some (.int second),some (.ref t),some (.ref wq),v6,v7,v8,v9,v10,v11]∧ah H H3∧H3 t = some (.dK (kI ks))∧H3 wq = some (.lst (ra.map V.ref))∧WR H3 ra ws∧Nf A B first x0 second ks ws)
   (fun _ H3=>match H3 t,H3 wq with | some (.dK aI),some (.lst xs)=>2 * (A.length - aI.length) + xs.length | _,_=>0)
   ⟨[(0,first)],[w1],[(0,x0,second)],none,none,none,none,none,none,rfl,gF,t2,q2,.cons w2 .nil,Nf.start n0 ⟨f0,f1⟩ SR hs⟩ ?_
  rintro σ H3 ⟨ks,ra,ws,v6,v7,v8,v9,v10,v11,rfl,e3,t3,q3,Qv,nf⟩
  walk_at "rd"
  refine ⟨_,_,rfl,.inl ⟨_,aD.of q3,rfl⟩,?_⟩
  have wl:=Paired.length Qv
  rw [List.length_map,wl]
  walk_at "rd"
  refine if2 (fun gC=>?_) (fun gC=>?_)
  ·refine w_turn ?_
   rw [t3,q3]
   dsimp only
   rw [uv,List.length_map,wl]
   obtain ⟨An,a1,oP,w,rfl,rfl,SV,WU⟩:=Qv.last (fun z=>by rw [z] at gC; simp at gC)
   obtain ⟨pl,qq,rr⟩:=w
   obtain ⟨v,hv,Wj,Wi⟩:=nf.wk (pl,qq,rr) (by simp)
   have DC:=nf.rg _ hv
   have wt:wq≠t:=fun z=>by rw [z,t3] at q3; cases q3
   walk_at "rd"
   refine ⟨.inl ⟨rfl,_,aD.of q3⟩,?_⟩
   refine ⟨wq,_,.ref a1,rfl,rfl,q3,by simp,?_⟩
   have e4:ah H (upd H3 wq (.lst ((An ++ [a1]).map V.ref).dropLast)):=ah.fresh e3 wf
   have q4:upd H3 wq (.lst ((An ++ [a1]).map V.ref).dropLast) wq = some (.lst (An.map V.ref)):=by rw [ae]; simp
   have t4:upd H3 wq (.lst ((An ++ [a1]).map V.ref).dropLast) t = some (.dK (kI ks)):=by rw [ax (Ne.symm wt)]; exact t3
   have FR:∀ a x,H3 a = some (.tup x)→upd H3 wq (.lst ((An ++ [a1]).map V.ref).dropLast) a = some (.tup x):=fun a x h=>by
    have na:a≠wq:=fun z=>by rw [z,q3] at h; cases h
    rw [ax na]; exact h
   have a14:=FR _ _ WU
   have Qu:WR (upd H3 wq (.lst ((An ++ [a1]).map V.ref).dropLast)) An oP:=Paired.ki SV fun a w h=>FR _ _ h
   generalize upd H3 wq (.lst ((An ++ [a1]).map V.ref).dropLast) = H4 at e4 q4 t4 a14 Qu ⊢
   obtain ⟨SG,uu,Oh,BP,G7⟩:=g.at (i:=pl.toNat) (by have:=DC.1; dsimp only at this; omega)
   obtain ⟨SF,ur,Og,xk,jN⟩:=k.at (i:=v.toNat) (by have:=DC.2; dsimp only at this; omega)
   have p0:0≤pl∧pl < A.length:=DC.1
   have v0:0≤v∧v < B.length:=DC.2
   have R9:rowOf A pl = uu:=by
    have:=aq p0.1 p0.2
    rw [BP] at this
    exact (Option.some.inj this).symm
   have Kt:rowOf B v = ur:=by
    have:=aq v0.1 v0.2
    rw [xk] at this
    exact (Option.some.inj this).symm
   have i1:kU (as.map V.ref) pl = some (V.ref SG):=by
    have:=g.ix Oh
    rwa [Int.toNat_of_nonneg p0.1] at this
   have i2:kU (bs.map V.ref) v = some (V.ref SF):=by
    have:=k.ix Og
    rwa [Int.toNat_of_nonneg v0.1] at this
   have sa:uu.length≤A.length:=bC (mA.nd _ _ BP) fun y hy=>⟨(mA.rg _ _ BP y hy).1,(mA.rg _ _ BP y hy).2.1⟩
   have sb:ur.length≤B.length:=bC (mB.nd _ _ xk) fun y hy=>⟨(mB.rg _ _ xk y hy).1,(mB.rg _ _ xk y hy).2.1⟩
   have G9:qq∈uu:=by rw [← R9]; exact Wj
   have G6:rr∈ur:=by rw [← Kt]; exact Wi
   have ia:=List.idxOf_lt_length_of_mem G9
   have ib:=List.idxOf_lt_length_of_mem G6
   walk_at "rd"
   refine bj (aD.of (e4 _ _ g.top)) i1 ?_
   walk_at "rd"
   refine ⟨SG,uu,qq,rfl,e4 _ _ G7,G9,by omega,fun ob H5 e5 Jz Q8=>?_⟩
   have a15:=e5 _ _ a14
   have t5:=e5 _ _ t4
   have q5:=e5 _ _ q4
   have xU:=e4.trans e5
   walk_at "rd"
   refine jE (r_var rfl (r_var rfl ⟨t,V.int v,rfl,?_,?_⟩))
   ·have:=eD.k (k:=.inl pl) t5
    rw [dP nf.nd hv] at this
    exact this
   refine bj (aD.of (xU _ _ k.top)) i2 ?_
   walk_at "rd"
   refine ⟨SF,ur,rr,rfl,xU _ _ jN,G6,by omega,fun gb H6 e6 JX JY=>?_⟩
   have U5:ob≠wq:=fun z=>by rw [z,q4] at Jz; cases Jz
   have U8:gb≠wq:=fun z=>by rw [z,q5] at JX; cases JX
   have M0:ob≠t:=fun z=>by rw [z,t4] at Jz; cases Jz
   have M5:gb≠t:=fun z=>by rw [z,t5] at JX; cases JX
   have JA:=e6 _ _ Q8
   have t6:=e6 _ _ t5
   have q6:=e6 _ _ q5
   have HV:=xU.trans e6
   have SU:WR H6 An oP:=Paired.ki Qu fun a w h=>e6 _ _ (e5 _ _ h)
   have lo:(bM uu (uu.idxOf qq)).length = uu.length:=bF (by omega)
   have lg:(bM ur (ur.idxOf rr)).length = ur.length:=bF (by omega)
   have Jo:aW (bM uu (uu.idxOf qq)) (rowOf A pl):=by rw [R9]; exact .inr ⟨_,ia,rfl⟩
   have Jn:aW (bM ur (ur.idxOf rr)) (rowOf B v):=by rw [Kt]; exact .inr ⟨_,ib,rfl⟩
   have NW:(bM uu (uu.idxOf qq))[0]? = some qq:=by rw [gR ia,dk ia]; simp [List.getElem_idxOf ia]
   have Oa:(bM ur (ur.idxOf rr))[0]? = some rr:=by rw [gR ib,dk ib]; simp [List.getElem_idxOf ib]
   have go:∀ f,eC A B first x0 second f→(bM uu (uu.idxOf qq)).map f = bM ur (ur.idxOf rr):=fun f AO=>by
    have u1:=nf.un f AO
    exact AO.Ot mB p0 (u1.1 _ hv) v0 Jo Jn NW Oa (u1.2 (pl,qq,rr) (by simp))
   generalize bM uu (uu.idxOf qq) = od at JA Q8 lo Jo go NW
   generalize bM ur (ur.idxOf rr) = gl at JY lg Jn go Oa
   walk_at "rd"
   refine ⟨_,_,rfl,.inl ⟨_,aD.of JA,rfl⟩,?_⟩
   walk_at "rd"
   refine ⟨_,_,rfl,.inl ⟨_,aD.of JY,rfl⟩,?_⟩
   rw [List.length_map,List.length_map]
   walk_at "rd"
   refine gB (fun gD=>?_) (fun heq=>?_)
   ·walk_at "rd"
    refine qn (fun ⟨f,AO⟩=>gD ?_) _ HV
    have:=congrArg List.length (go f AO)
    rw [List.length_map] at this
    rw [this]
   ·have hlen:od.length = gl.length:=by omega
    walk_at "rd"
    refine dh ?_
    refine ⟨_,rfl,_,rfl,ob,gb,rfl,⟨_,aD.of JA⟩,⟨_,aD.of JY⟩,BZ (K:=K) (a:=ob) (b:=gb) (xs:=od.map V.int) (ys:=gl.map V.int) (fun i σ H7=>∃ (qP:List (Int×Int)) (o7:List Addr) (kd:List Wait) (v10 v11:Option V),σ = [some (.ref p),some (.ref o),some (.int first),some (.int second),some (.ref t),some (.ref wq),some (.ref a1),some (.int pl),some (.ref ob),some (.ref gb),v10,v11]∧ah H H7∧H7 t = some (.dK (kI qP))∧H7 wq = some (.lst (o7.map V.ref))∧WR H7 o7 kd∧H7 ob = some (.lst (od.map V.int))∧H7 gb = some (.lst (gl.map V.int))∧Ni A B first x0 second qP kd pl v od gl i∧2 * (A.length - qP.length) + kd.length < 2 * (A.length - ks.length) + (oP ++ [(pl,qq,rr)]).length)
     ⟨ks,An,oP,_,_,rfl,HV,t6,q6,SU,JA,JY,nf.turn hv NW Oa,by simp⟩ (by rw [List.length_map,List.length_map,hlen]) (fun i σ H7 _ ⟨_,_,_,_,_,_,_,_,_,_,h1,h2,_⟩=>⟨aD.of h1,aD.of h2⟩) ?_ ?_⟩
    ·rintro i x y pr σ H7 hx hy ⟨qP,o7,kd,v10,v11,rfl,e7,t7,q7,Je,Q7,RY,ni,ms⟩ tq
     obtain ⟨nb,N1,rfl⟩:∃ nb,od[i]? = some nb∧x = V.int nb:=by
      rw [List.getElem?_map] at hx
      cases e:od[i]? with
      | none=>rw [e] at hx; cases hx
      | some z=>rw [e] at hx; exact ⟨z,rfl,(Option.some.inj hx).symm⟩
     obtain ⟨sZ,ED,rfl⟩:∃ sZ,gl[i]? = some sZ∧y = V.int sZ:=by
      rw [List.getElem?_map] at hy
      cases e:gl[i]? with
      | none=>rw [e] at hy; cases hy
      | some z=>rw [e] at hy; exact ⟨z,rfl,(Option.some.inj hy).symm⟩
     have uf:∀ f,eC A B first x0 second f→f nb = sZ:=fun f AO=>by
      have:=congrArg (fun l=>l[i]?) (go f AO)
      simp only [List.getElem?_map,N1,ED] at this
      exact Option.some.inj this
     have e8:ah H7 (upd H7 pr (.tup [.int nb,.int sZ])):=ah.upd tq
     refine dQ (SqT.of ae) rfl ?_
     generalize upd H7 pr (.tup [.int nb,.int sZ]) = H8 at e8 ⊢
     have t8:=e8 _ _ t7
     have q8:=e8 _ _ q7
     have KP:WR H8 o7 kd:=Paired.ki Je fun a w h=>e8 _ _ h
     have Q6:=e8 _ _ Q7
     have RX:=e8 _ _ RY
     have OR:=e7.trans e8
     walk_at "rd"
     have kl:qP.length≤A.length:=by
      have:=bC (l:=qP.map (·.1)) (n:=A.length) ni.nd fun y hy=>by
       obtain ⟨z,hz,rfl⟩:=List.mem_map.mp hy
       exact (ni.rg z hz).1
      rwa [List.length_map] at this
     have YN:kd.length≤A.length:=by
      have:=bC (l:=kd.map (·.1)) (n:=A.length) ni.wn fun y hy=>by
       obtain ⟨z,hz,rfl⟩:=List.mem_map.mp hy
       obtain ⟨v',BK,_⟩:=ni.wk z hz
       exact (ni.rg _ BK).1
      rwa [List.length_map] at this
     have lr:=Paired.length KP
     refine ⟨t,_,rfl,eD.k (k:=.inl nb) t8,?_⟩
     rw [AR ni.nd]
     walk_at "rd"
     refine gB (fun Au=>?_) (fun Er=>?_)
     ·have Fq:=ni.new mA mB N1 ED Au (fun z hz=>Jo.perm.mem_iff.mp hz) (fun z hz=>Jn.perm.mem_iff.mp hz) uf
      walk_at "rd"
      refine ⟨t,_,rfl,jV.k (k:=.inl nb) t8 (by rw [uv]; exact aB (by omega)),?_⟩
      rw [GD Au]
      have Jh:∀ a x,a≠t→H8 a = some x→upd H8 t (.dK (kI (qP ++ [(nb,sZ)]))) a = some x:=fun a x na h=>by rw [ax na]; exact h
      have q9:=Jh _ _ wt q8
      have Q5:=Jh _ _ M0 Q6
      have RW:=Jh _ _ M5 RX
      have Qt:WR (upd H8 t (.dK (kI (qP ++ [(nb,sZ)])))) o7 kd:=Paired.ki KP fun a w h=>Jh _ _ (fun z=>by rw [z,t8] at h; cases h) h
      have t9:upd H8 t (.dK (kI (qP ++ [(nb,sZ)]))) t = some (.dK (kI (qP ++ [(nb,sZ)]))):=ae
      have Sk:ah H (upd H8 t (.dK (kI (qP ++ [(nb,sZ)])))):=ah.fresh OR ht
      generalize upd H8 t (.dK (kI (qP ++ [(nb,sZ)]))) = H9 at q9 Q5 RW Qt t9 Sk ⊢
      walk_at "rd"
      refine ⟨.inl ⟨rfl,_,aD.of q9⟩,?_⟩
      walk_at "rd"
      refine jE (r_var rfl (r_var rfl ⟨t,V.int v,rfl,?_,?_⟩))
      ·have:=eD.k (k:=.inl pl) t9
       rw [dP Fq.nd Fq.pk] at this
       exact this
      walk_at "rd"
      refine fun tp Wd=>?_
      have B7:ah H9 (upd H9 tp (.tup [.int nb,.int pl,.int v])):=ah.upd Wd
      have AU:upd H9 tp (.tup [.int nb,.int pl,.int v]) tp = some (.tup [.int nb,.int pl,.int v]):=ae
      generalize upd H9 tp (.tup [.int nb,.int pl,.int v]) = Cr at B7 AU ⊢
      have Jv:=B7 _ _ q9
      walk_at "rd"
      refine cY Jv (by rw [List.length_map,lr]; exact aB (by omega)) ?_
      have zh:∀ a x,a≠wq→Cr a = some x→upd Cr wq (.lst (o7.map V.ref ++ [.ref tp])) a = some x:=fun a x na h=>by rw [ax na]; exact h
      have Ld:=zh _ _ (Ne.symm wt) (B7 _ _ t9)
      have GJ:=zh _ _ U5 (B7 _ _ Q5)
      have HD:=zh _ _ U8 (B7 _ _ RW)
      have S5:tp≠wq:=fun z=>by rw [z,Jv] at AU; cases AU
      have FO:WR (upd Cr wq (.lst (o7.map V.ref ++ [.ref tp]))) (o7 ++ [tp]) (kd ++ [(nb,pl,v)]):=WR.app (Paired.ki Qt fun a w h=>zh _ _ (fun z=>by rw [z,q9] at h; cases h) (B7 _ _ h)) (.cons (zh _ _ S5 AU) .nil)
      have Ju:upd Cr wq (.lst (o7.map V.ref ++ [.ref tp])) wq = some (.lst ((o7 ++ [tp]).map V.ref)):=by rw [ae,List.map_append]; rfl
      have HW:ah H (upd Cr wq (.lst (o7.map V.ref ++ [.ref tp]))):=ah.fresh (Sk.trans B7) wf
      generalize upd Cr wq (.lst (o7.map V.ref ++ [.ref tp])) = KN at Ld GJ HD FO Ju HW ⊢
      walk_at "rd"
      refine jE (r_var rfl (r_var rfl ⟨t,V.int sZ,rfl,?_,?_⟩))
      ·have:=eD.k (k:=.inl nb) Ld
       rw [dP Fq.nd (List.mem_append_right _ (List.mem_singleton.mpr rfl))] at this
       exact this
      walk_at "rd"
      refine gB (fun z=>absurd rfl z) (fun _=>?_)
      refine ⟨qP ++ [(nb,sZ)],o7 ++ [tp],kd ++ [(nb,pl,v)],_,_,rfl,HW,Ld,Ju,FO,GJ,HD,Fq,?_⟩
      have VI:(qP ++ [(nb,sZ)]).length≤A.length:=by
       have:=bC (l:=(qP ++ [(nb,sZ)]).map (·.1)) (n:=A.length) Fq.nd fun y hy=>by
        obtain ⟨z,hz,rfl⟩:=List.mem_map.mp hy
        exact (Fq.rg z hz).1
       rwa [List.length_map] at this
      rw [List.length_append,List.length_singleton] at VI
      rw [List.length_append,List.length_append,List.length_singleton,List.length_singleton]
      omega
     ·obtain ⟨⟨Ve,u2⟩,hz,e2⟩:=List.mem_map.mp Er
      obtain rfl:nb = Ve:=e2.symm
      walk_at "rd"
      refine jE (r_var rfl (r_var rfl ⟨t,V.int u2,rfl,?_,?_⟩))
      ·have:=eD.k (k:=.inl nb) t8
       rw [dP ni.nd hz] at this
       exact this
      walk_at "rd"
      refine gB (fun gD=>?_) (fun Od=>?_)
      ·walk_at "rd"
       exact qn (fun ⟨f,AO⟩=>gD (((ni.un f AO).1 _ hz).symm.trans (uf f AO))) _ OR
      ·exact ⟨qP,o7,kd,_,_,rfl,OR,t8,q8,KP,Q6,RX,ni.old N1 ED (Od▸hz),ms⟩
    ·rintro σ H7 ⟨qP,o7,kd,v10,v11,rfl,e7,t7,q7,Je,Q7,RY,ni,ms⟩
     rw [List.length_map] at ni
     refine ⟨⟨qP,o7,kd,_,_,_,_,_,_,rfl,e7,t7,q7,Je,ni.done Jo Jn hlen⟩,?_⟩
     rw [t7,q7]
     dsimp only
     rw [uv,List.length_map,Paired.length Je]
     exact ms
  ·have NK:ws = []:=by
    cases ws with
    | nil=>rfl
    | cons a b=>simp at gC
   subst NK
   obtain ⟨IP,ly⟩:=nf.lay mA hl n0 hA
   have YM:eC A B first x0 second (nm ks)→True:=fun _=>trivial
   walk_at "rd"
   refine dR ?_
   refine ⟨_,rfl,_,_,rfl,.inl ⟨_,aD.of (e3 _ _ g.top),rfl⟩,(A.length:Int),by rw [List.length_map,g.len],by omega,by omega,?_⟩
   rw [Int.toNat_natCast]
   intro acc bI
   refine gs (fun i σ' ys H4=>∃ v:Option V,σ' = [v,some (.ref t)]∧ys = ((aT i).map (nm ks)).map V.int∧ah H3 H4∧H4 acc = some (.lst ys)) ⟨none,rfl,rfl,ah.upd bI,ae⟩ ?_ ?_
   ·rintro i σ' ys H4 hi ⟨v,rfl,rfl,e4,a4⟩
    simp only [Int.zero_add]
    obtain ⟨u,hu⟩:=IP i (by omega) (by omega)
    walk_at "rd"
    refine jE (r_var rfl (r_var rfl ⟨t,V.int u,rfl,?_,?_⟩))
    ·have:=eD.k (k:=.inl (i:Int)) (e4 _ _ t3)
     rw [dP nf.nd hu] at this
     exact this
    refine ⟨a4,by rw [List.length_map,List.length_map,bh]; exact aB (by omega),dN hi ⟨_,rfl,?_,ah.fresh e4 bI,ae⟩⟩
    rw [h9,List.map_append,List.map_append,List.map_singleton,List.map_singleton,nm_at nf.nd hu]
   ·rintro σ' ys H4 ⟨v,rfl,rfl,e4,a4⟩
    walk_at "rd"
    by_cases hw:∃ f,eC A B first x0 second f
    ·obtain ⟨f,w⟩:=hw
     have ef:(aT A.length).map (nm ks) = (aT A.length).map f:=List.map_congr_left fun x hx=>by
      have r:=aV.mp hx
      obtain ⟨u,hu⟩:=IP x r.1 r.2
      rw [nm_at nf.nd hu]
      exact ((nf.un f w).1 _ hu).symm
     rw [ef] at a4
     exact qs f w acc H4 (e3.trans e4) (e3.free bI) a4
    ·refine absurd ⟨nm ks,ly,nm_at nf.nd nf.st,?_⟩ hw
     rcases nf.Fu with z | z
     ·cases z
     ·exact nm_at nf.nd z
theorem gN:aR ["one", "other", "first", "order", "tried", "found"] ["one", "other"] (ak fq):=⟨rfl,rfl,rfl,by decide +kernel,rfl,by decide +kernel,by decide +kernel⟩
theorem yU (D:Def K mg "alike" fq ["one", "other"]) (T:Txt K mg Z) (qk:du P w K mg base (cM P w) "names_from" 2 ["one", "other", "first", "second"] iZ):du P w K mg base (cM P w) "alike" 3 ["one", "other"] rL:=by
 refine D.eI gN (fun vs H Q E h=>?_) (fun f dH A outer s H vs Q E hr h=>?_)
 ·obtain ⟨p,o,as,bs,A,B,rfl,_⟩:=h; rfl
 ·obtain ⟨p,o,as,bs,A,B,rfl,g,k,mA,mB,hn,n0,m0,hA,qn,qs⟩:=h
  refine ⟨_,(ag (b8 (aM gw (av az (by rfl) T.len aK (aa (pv 0) af)) (av az (by rfl) T.len aK (aa (pv 1) af)) (aZ _)) (ao (aS pE)) aX)
   (ag (b8 (aM ji (av az (by rfl) T.len aK (aa (pv 0) af)) ay (aZ _)) (ao (aS (cL (aa ay af)))) aX)
   (ag (cg PassesOwn.never rfl (ig T.enumerate (aa (pv 1) af)) (gS (n:=2) rfl (bD (aJ (i:=2) gN.nd rfl (by first | exact Or.inl rfl | exact Or.inr rfl)) (bD (aJ (i:=3) gN.nd rfl (by first | exact Or.inl rfl | exact Or.inr rfl)) eP)))
   (ag (jb (i:=4) gN.nd rfl (by first | exact Or.inl rfl | exact Or.inr rfl) (tg:=["second"]) (fr:=[("one",0),("other",1),("first",2)]) (by walk_at "blk_ok") rfl (cD (pv 3)) (fun _ _ _ _ _=>(aJ (i:=0) (show [("second" : Str),("one" : Str),("other" : Str),("first" : Str)].Nodup by decide +kernel) rfl (by first | exact Or.inl rfl | exact Or.inr rfl))) (fun _ _ _ _ _=>fc) (fun _ _ _ _ _=>(aC qk hr bg (aa (pv 1) (aa (pv 2) (aa (pv 3) (aa (pv 0) af)))))))
   (ag (jb (i:=5) gN.nd rfl (by first | exact Or.inl rfl | exact Or.inr rfl) (tg:=["names"]) (fr:=[]) (by walk_at "blk_ok") rfl (cD (pv 4)) (fun _ _ _ _ _=>(aJ (i:=0) (show [("names" : Str)].Nodup by decide +kernel) rfl (by first | exact Or.inl rfl | exact Or.inr rfl))) (fun _ _ _ _ _=>(fR (iK (pH (pv 0))))) (fun _ _ _ _ _=>(pv 0)))
   (ao (b8 (aM rZ (av az (by rfl) T.len aK (aa (pv 5) af)) ay (aZ _)) (ao (aS (av (oG rfl hr.units) (by rfl) T.min qB (aa (pv 5) af)))) aX)))))
   (ao (aS pE))))),?_⟩
  dsimp only [dO]
  walk_at "rd"
  refine ⟨_,_,rfl,.inl ⟨_,aD.of g.top,rfl⟩,?_⟩
  walk_at "rd"
  refine ⟨_,_,rfl,.inl ⟨_,aD.of k.top,rfl⟩,?_⟩
  rw [List.length_map,List.length_map,g.len,k.len]
  walk_at "rd"
  refine gB (fun gD=>?_) (fun heq=>?_)
  ·walk_at "rd"
   exact qn (fun ⟨f,ly⟩=>gD (by rw [ly.len])) _ (fun _ _ e=>e)
  have hl:A.length = B.length:=by omega
  walk_at "rd"
  refine ⟨_,_,rfl,.inl ⟨_,aD.of g.top,rfl⟩,?_⟩
  rw [List.length_map,g.len]
  walk_at "rd"
  refine if2 (fun h1=>?_) (fun h1=>?_)
  ·walk_at "rd"
   refine ⟨by rw [PySem.sizeLine_eq]; simp,fun t ht=>?_⟩
   have l1:A.length = 1:=by omega
   obtain ⟨f,ly,ef⟩:=BE mA mB l1 hl
   refine qs f ly (fun f2 JI=>?_) t _ (ah.upd ht) ht (by rw [ae,ef]; rfl)
   have r1:=JI.rg 0 (by omega) (by omega)
   have:(aT A.length).map f2 = [0]:=by
    rw [l1]
    show [f2 0] = [0]
    have:f2 0 = 0:=by omega
    rw [this]
   rw [ef,this]
   exact BC _
  have n2:2≤A.length:=by omega
  obtain ⟨x0,Es⟩:=LD mA n2 hA
  walk_at "rd"
  refine dh ?_
  refine ⟨_,rfl,o,rfl,⟨_,aD.of k.top⟩,fW (K:=K) (a:=o) (xs:=bs.map V.ref) (fun i σ H1=>∃ v2 v3 v4 v5:Option V,σ = [some (.ref p),some (.ref o),v2,v3,v4,v5]∧ah H H1∧∀ f,Lay A B f→(i:Int)≤f 0)
   ⟨none,none,none,none,rfl,fun _ _ e=>e,fun f ly=>(ly.rg 0 (by omega) (by omega)).1⟩ (fun i σ H1 _ ⟨_,_,_,_,_,e1,_⟩=>aD.of (e1 _ _ k.top)) ?_ ?_⟩
  ·rintro i x pr σ H1 hx ⟨v2,v3,v4,v5,rfl,e1,low⟩ tq
   have hi:i < B.length:=by
    have:=(List.getElem?_eq_some_iff.mp hx).1
    rw [List.length_map,k.len] at this
    exact this
   obtain ⟨b,r,ha,j7,bO⟩:=k.at hi
   obtain rfl:x = V.ref b:=by
    rw [List.getElem?_map,ha] at hx
    exact (Option.some.inj hx).symm
   have er:rowOf B (i:Int) = r:=by
    have:=aq (L:=B) (a:=(i:Int)) (by omega) (by omega)
    rw [Int.toNat_natCast,j7] at this
    exact (Option.some.inj this).symm
   have rl:r.length≤B.length:=bC (mB.nd _ _ j7) fun y hy=>⟨(mB.rg _ _ j7 y hy).1,(mB.rg _ _ j7 y hy).2.1⟩
   have e2:ah H1 (upd H1 pr (.tup [.int i,.ref b])):=ah.upd tq
   have gF:=e1.trans e2
   refine dQ (SqT.of ae) rfl ?_
   generalize upd H1 pr (.tup [.int i,.ref b]) = H2 at e2 gF ⊢
   walk_at "rd"
   refine dR ?_
   refine ⟨_,rfl,b,rfl,⟨_,aD.of (gF _ _ bO)⟩,fun acc bI=>?_⟩
   refine dG (K:=K) (a:=b) (xs:=r.map V.int) (fun j σ' ys H3=>∃ v:Option V,σ' = [v,some (.ref p),some (.ref o),some (.int (i:Int))]∧ah H2 H3∧H3 acc = some (.lst ys)∧TR A B (i:Int) x0 acc H2 H3 ys r j)
    ⟨none,rfl,ah.upd bI,ae,rfl,fun t s ht=>by omega⟩ (fun j σ' ys H3 _ ⟨_,_,e,_⟩=>aD.of (e _ _ (gF _ _ bO))) ?_ ?_
   ·rintro j u σ' ys H3 hu hj ⟨v,rfl,e3,a3,tr⟩
    obtain ⟨y,hy,rfl⟩:∃ y,r[j]? = some y∧u = V.int y:=by
     rw [List.getElem?_map] at hu
     cases e:r[j]? with
     | none=>rw [e] at hu; cases hu
     | some z=>rw [e] at hu; exact ⟨z,rfl,(Option.some.inj hu).symm⟩
    have yr:y∈rowOf B (i:Int):=by rw [er]; exact List.mem_of_getElem? hy
    have ER:=gF.trans e3
    have yl:=tr.1
    rw [List.length_map] at hj
    walk_at "rd"
    refine ⟨p,o,as,bs,A,B,(i:Int),y,x0,rfl,g.same ER,k.same ER,mA,mB,hl,hn,n0,hA,by omega,by omega,Es,yr,fun zx H4 e4=>?_,fun f wf t H4 e4 ht h4=>?_⟩
    ·refine ⟨e4 _ _ a3,aB (by omega),dN (by rw [List.length_map]; exact hj) ⟨_,rfl,ah.fresh (e3.trans e4) bI,ae,tr.app (fun a o na h=>by rw [ax na]; exact e4 _ _ h) hy (.inl ⟨rfl,zx⟩)⟩⟩
    ·have ta:t≠acc:=fun z=>by rw [z,a3] at ht; cases ht
     refine ⟨e4 _ _ a3,aB (by omega),dN (by rw [List.length_map]; exact hj) ⟨_,rfl,ah.fresh (e3.trans e4) bI,ae,tr.app (fun a o na h=>by rw [ax na]; exact e4 _ _ h) hy (.inr ⟨t,f,rfl,wf,e3.free ht,ta,by rw [ax ta]; exact h4⟩)⟩⟩
   ·rintro σ' ys H3 ⟨v,rfl,e3,a3,tr⟩
    rw [List.length_map] at tr
    have yl:=tr.1
    have ER:=gF.trans e3
    walk_at "rd"
    refine dR ?_
    refine ⟨_,rfl,acc,rfl,⟨_,aD.of a3⟩,fun E6 qi=>?_⟩
    refine dG (K:=K) (a:=acc) (xs:=ys) (fun j σ' zs H4=>∃ (ds:List Addr) (M:List (List Int)) (v:Option V),σ' = [v]∧zs = ds.map V.ref∧ah H3 H4∧aQ H4 E6 ds M∧E6∉ds∧(∀ d∈ds,H2 d = none)∧ds.length≤j∧(∀ l∈M,∃ s f,eC A B (i:Int) x0 s f∧l = (aT A.length).map f)∧∀ (t:Nat) (s:Int) f,t < j→r[t]? = some s→eC A B (i:Int) x0 s f→(aT A.length).map f∈M)
     ⟨[],[],none,rfl,rfl,ah.upd qi,⟨ae,rfl,fun i b l z=>by simp at z⟩,by simp,by simp,Nat.le_refl _,by simp,fun t s f ht=>by omega⟩ (fun j σ' zs H4 _ ⟨_,_,_,_,_,e,_⟩=>aD.of (e _ _ a3)) ?_ ?_
    ·rintro j u σ' zs H4 hu hj ⟨ds,M,v,rfl,rfl,e4,g4,na,fr,dl,ms,al⟩
     have Ax:j < r.length:=by omega
     obtain ⟨s,hs⟩:∃ s,r[j]? = some s:=⟨_,List.getElem?_eq_getElem Ax⟩
     rcases tr.2 j s Ax hs with ⟨eu,zx⟩ | ⟨a,f,eu,wf,a0,ac,ha⟩
     ·rw [hu] at eu
      cases eu
      walk_at "rd"
      rw [if_neg (by simp)]
      refine dN hj ⟨ds,M,_,rfl,rfl,e4,g4,na,fr,by omega,ms,fun t s' f ht zw wf=>?_⟩
      by_cases z:t = j
      ·subst z
       rw [hs] at zw
       cases zw
       exact absurd ⟨f,wf⟩ zx
      ·exact al t s' f (by omega) zw wf
     ·rw [hu] at eu
      cases eu
      walk_at "rd"
      rw [if_pos (by simp)]
      walk_at "rd"
      have nb:a≠E6:=fun z=>by rw [z,qi] at ha; cases ha
      refine ⟨g4.top,by rw [List.length_map]; exact aB (by omega),dN hj ⟨ds ++ [a],M ++ [(aT A.length).map f],_,rfl,by simp,ah.fresh e4 qi,g4.snoc na nb (e4 _ _ ha),?_,?_,?_,?_,?_⟩⟩
      ·intro z
       rcases List.mem_append.mp z with z | z
       ·exact na z
       ·exact nb (List.mem_singleton.mp z).symm
      ·intro c qh
       rcases List.mem_append.mp qh with z | z
       ·exact fr c z
       ·rw [List.mem_singleton.mp z]; exact a0
      ·rw [List.length_append,List.length_singleton]; omega
      ·intro l JS
       rcases List.mem_append.mp JS with z | z
       ·exact ms l z
       ·exact ⟨s,f,wf,List.mem_singleton.mp z⟩
      ·intro t s' f' ht zw Jf
       by_cases z:t = j
       ·subst z
        rw [hs] at zw
        cases zw
        refine List.mem_append_right _ (List.mem_singleton.mpr (List.map_congr_left fun x hx=>?_))
        have rx:=aV.mp hx
        exact Jf.lay.unique wf.lay mA mB n0 (List.mem_of_getElem? Es) (Jf.e0.trans wf.e0.symm) (Jf.e1.trans wf.e1.symm) x (hA x rx.1 rx.2)
       ·exact List.mem_append_left _ (al t s' f' (by omega) zw Jf)
    ·rintro σ' zs H4 ⟨ds,M,v,rfl,rfl,e4,g4,na,fr,dl,ms,al⟩
     have zl:=g4.len
     have FH:=ER.trans e4
     have hit:∀ f,Lay A B f→f 0 = (i:Int)→(aT A.length).map f∈M:=fun f ly e0=>by
      have QR:=ly.row 0 (by omega) (by omega)
      rw [e0,er] at QR
      have mem:f x0∈r:=QR.perm.mem_iff.mp (List.mem_map.mpr ⟨x0,List.mem_of_getElem? Es,rfl⟩)
      obtain ⟨t,ht,et⟩:=List.mem_iff_getElem.mp mem
      exact al t (f x0) f (by omega) (by rw [List.getElem?_eq_getElem ht,et]) ⟨ly,e0,rfl⟩
     walk_at "rd"
     refine ⟨_,_,rfl,.inl ⟨_,aD.of g4.top,rfl⟩,?_⟩
     rw [List.length_map]
     walk_at "rd"
     refine if2 (fun gC=>?_) (fun gC=>?_)
     ·walk_at "rd"
      refine ⟨E6,ds,M,rfl,aD.of g4.top,zl,fun i b l x1 x2=>aD.of (g4.row i b l x1 x2),by omega,fun q d l x1 x2 hle=>?_⟩
      walk_at "rd"
      obtain ⟨s,f,wf,rfl⟩:=ms l (List.mem_of_getElem? x2)
      refine qs f wf.lay (fun f2 JI=>?_) d H4 FH (gF.free (fr d (List.mem_of_getElem? x1))) (g4.row q d _ x1 x2)
      have Vx:=low f2 JI
      by_cases z:f2 0 = (i:Int)
      ·exact hle _ (hit f2 JI z)
      ·refine Le.of_lt ?_
       have e0:=wf.e0
       obtain ⟨n,en⟩:∃ n,A.length = n + 1:=⟨A.length - 1,by omega⟩
       have eu:aT (n + 1) = 0 :: (List.range n).map (fun i:Nat=>((i + 1:Nat):Int)):=by
        unfold aT
        rw [List.range_succ_eq_map,List.map_cons,List.map_map]
        rfl
       rw [en,eu,List.map_cons,List.map_cons,HT.dC,if_neg (by omega)]
       exact decide_eq_true (by omega)
     ·walk_at "rd"
      refine ⟨_,_,_,_,rfl,FH,fun f ly=>?_⟩
      have Vx:=low f ly
      by_cases z:f 0 = (i:Int)
      ·have:=List.length_pos_of_mem (hit f ly z)
       omega
      ·omega
  ·rintro σ H1 ⟨v2,v3,v4,v5,rfl,e1,low⟩
   rw [List.length_map,k.len] at low
   walk_at "rd"
   refine qn (fun ⟨f,ly⟩=>?_) _ e1
   have h1:=low f ly
   have h2:=(ly.rg 0 (by omega) (by omega)).2
   omega
theorem dy:aR ["_law_script", "_law_k", "_law_cell", "_law_j"] ["_law_script", "_law_k"] (ak bZ):=⟨rfl,rfl,rfl,by decide +kernel,rfl,by decide +kernel,by decide +kernel⟩
theorem ng (D:Def K mg "_law_block" bZ ["_law_script", "_law_k"]) (T:Txt K mg Z):du P w K mg base (cM P w) "_law_block" 1 ["_law_script", "_law_k"] (fO K):=by
 refine D.eI dy (fun vs H Q E h=>?_) (fun f dH A outer s H vs Q E hr h=>?_)
 ·obtain ⟨a,ns,k,rfl,_⟩:=h; rfl
 ·obtain ⟨a,ns,k,rfl,hS,RI,RH,q⟩:=h
  refine ⟨_,(ag (aG (i:=2) dy.nd rfl (by first | exact Or.inl rfl | exact Or.inr rfl) ay)
   (ag (b8 (aM vI (aU fK ay (aU dr (aU fJ (pv 1) ay) ay)) (av az (by rfl) T.len aK (aa (pv 0) af)) (aZ _)) (ao (aG (i:=2) dy.nd rfl (by first | exact Or.inl rfl | exact Or.inr rfl) (aU fJ (bp aO (pv 0) (aU fK ay (aU dr (aU fJ (pv 1) ay) ay)) (fun _ _=>rfl)) (pF (v:=10000000000000000000000000000000000000000000000000000000000000000) ud ay ay ⟨by decide,by decide,by decide⟩ (by decide +kernel))))) aX)
   (ag (cg PassesOwn.never rfl (cQ rfl T.range (aa (aU dr (pv 1) ay) af)) (aJ (i:=3) dy.nd rfl (by first | exact Or.inl rfl | exact Or.inr rfl))
   (ao (aG (i:=2) dy.nd rfl (by first | exact Or.inl rfl | exact Or.inr rfl) (aU fJ (pv 2) ay))))
   (ao (aS (aU dr (pv 2) ay)))))),?_⟩
  dsimp only [dO]
  walk_at "rd"
  refine ⟨_,_,rfl,.inl ⟨_,hS,rfl⟩,?_⟩
  walk_at "rd"
  refine if2 (fun eG=>?_) (fun eG=>?_)
  ·walk_at "rd"
   rw [List.length_map] at eG
   obtain ⟨n0,He⟩:=pO (ns:=ns) (k:=1 + k / 8 % 62) (by omega) eG
   refine bj hS He ?_
   walk_at "rd"
   refine dh ?_
   refine ⟨_,rfl,_,_,rfl,rfl,(show (0:Int) < 8 by decide),k % 8,rfl,by omega,by omega,dU (fun i σ H1=>∃ (c:Int) (v:Option V),σ = [some (.ref a),some (.int k),some (.int c),v]∧H1 = H) ⟨_,_,rfl,rfl⟩ ?_ ?_⟩
   ·rintro i σ H1 hi ⟨c,v,rfl,rfl⟩
    walk_at "rd"
    exact ⟨_,_,rfl,rfl⟩
   ·rintro σ H1 ⟨c,v,rfl,rfl⟩
    walk_at "rd"
    exact q _ (Int.emod_nonneg _ (by decide)) (Int.emod_lt_of_pos _ (by decide))
  ·walk_at "rd"
   refine dh ?_
   refine ⟨_,rfl,_,_,rfl,rfl,(show (0:Int) < 8 by decide),k % 8,rfl,by omega,by omega,dU (fun i σ H1=>∃ (c:Int) (v:Option V),σ = [some (.ref a),some (.int k),some (.int c),v]∧H1 = H) ⟨_,_,rfl,rfl⟩ ?_ ?_⟩
   ·rintro i σ H1 hi ⟨c,v,rfl,rfl⟩
    walk_at "rd"
    exact ⟨_,_,rfl,rfl⟩
   ·rintro σ H1 ⟨c,v,rfl,rfl⟩
    walk_at "rd"
    exact q _ (Int.emod_nonneg _ (by decide)) (Int.emod_lt_of_pos _ (by decide))
theorem cO:aR ["_law_script", "_law_k", "_law_cell", "_law_number"] ["_law_script", "_law_k"] (ak bY):=⟨rfl,rfl,rfl,by decide +kernel,rfl,by decide +kernel,by decide +kernel⟩
theorem m9 (D:Def K mg "_law_mixed" bY ["_law_script", "_law_k"]) (T:Txt K mg Z) (qt:du P w K mg base (cM P w) "_law_block" 1 ["_law_script", "_law_k"] (fO K)):du P w K mg base (cM P w) "_law_mixed" 2 ["_law_script", "_law_k"] (fO K):=by
 refine D.eI cO (fun vs H Q E h=>?_) (fun f dH A outer s H vs Q E hr h=>?_)
 ·obtain ⟨a,ns,k,rfl,_⟩:=h; rfl
 ·obtain ⟨a,ns,k,rfl,hS,RI,RH,q⟩:=h
  refine ⟨_,(ag (aG (i:=2) cO.nd rfl (by first | exact Or.inl rfl | exact Or.inr rfl) ay)
   (ag (b8 (aM rZ (av az (by rfl) T.len aK (aa (pv 0) af)) ay (aZ _)) (ao (aG (i:=2) cO.nd rfl (by first | exact Or.inl rfl | exact Or.inr rfl) (bp aO (pv 0) ay (fun _ _=>rfl)))) aX)
   (ag (b8 (aM ji (aU dr (aU fJ (pv 2) (pF (v:=1000000) ud ay ay ⟨by decide,by decide,by decide⟩ (by decide +kernel))) ay) ay (aZ _)) (ao (aS (aC qt hr bg (aa (pv 0) (aa (pv 1) af))))) aX)
   (ag (b8 (aM rZ (av az (by rfl) T.len aK (aa (pv 0) af)) ay (aZ _)) (ao (aG (i:=2) cO.nd rfl (by first | exact Or.inl rfl | exact Or.inr rfl) (bp aO (pv 0) (aU dr (pv 1) (av (xD rfl) (by rfl) T.min qB (aa ay (aa (av az (by rfl) T.len aK (aa (pv 0) af)) af)))) (fun _ _=>rfl)))) aX)
   (ag (aG (i:=3) cO.nd rfl (by first | exact Or.inl rfl | exact Or.inr rfl) (aU fK (aU dr (pv 2) (pF (v:=1000000000000000000) ud ay ay ⟨by decide,by decide,by decide⟩ (by decide +kernel))) (aU jh ay (aU fK (pv 1) ay))))
   (ag (aG (i:=3) cO.nd rfl (by first | exact Or.inl rfl | exact Or.inr rfl) (aU fK (aU dr (aU jh (pv 3) (pv 3)) ay) (aU jh ay (pv 1))))
   (ao (aS (aU dr (aU jh (pv 3) (pv 3)) ay))))))))),?_⟩
  dsimp only [dO]
  walk_at "rd"
  refine ⟨_,_,rfl,.inl ⟨_,hS,rfl⟩,?_⟩
  walk_at "rd"
  refine if2 (fun gC=>?_) (fun gC=>?_)
  ·walk_at "rd"
   rw [List.length_map] at gC
   obtain ⟨n0,He⟩:=pO (ns:=ns) (k:=0) (by omega) gC
   refine bj hS He ?_
   walk_at "rd"
   refine if2 (fun _=>?_) (fun _=>?_)
   ·walk_at "rd"
    exact ⟨a,ns,k,rfl,hS,RI,RH,q⟩
   ·walk_at "rd"
    refine ⟨_,_,rfl,.inl ⟨_,hS,rfl⟩,?_⟩
    walk_at "rd"
    rw [List.length_map]
    refine if2 (fun _=>?_) (fun h=>absurd gC h)
    walk_at "rd"
    refine ⟨_,_,rfl,.inl ⟨_,hS,rfl⟩,?_⟩
    walk_at "rd"
    rw [List.length_map]
    refine ⟨_,_,rfl,?_⟩
    have mp:0 < (if (ns.length:Int) < 63 then (ns.length:Int) else 63):=by split <;> omega
    have ml:(if (ns.length:Int) < 63 then (ns.length:Int) else 63)≤ns.length:=by split <;> omega
    generalize (if (ns.length:Int) < 63 then (ns.length:Int) else 63) = mm at mp ml ⊢
    walk_at "rd"
    have i0:=Int.emod_nonneg k (show mm≠0 by omega)
    have i1:=Int.emod_lt_of_pos k mp
    obtain ⟨n1,Wt⟩:=pO (ns:=ns) (k:=k % mm) i0 (by omega)
    refine bj hS Wt ?_
    walk_at "rd"
    generalize n1 = cc
    have c0:=Int.emod_nonneg cc (show (1000000000000000000:Int)≠0 by decide)
    have c1:=Int.emod_lt_of_pos cc (show (0:Int) < 1000000000000000000 by decide)
    generalize cc % 1000000000000000000 = r at c0 c1 ⊢
    have hm:IntMulOk (r + 48271 * (k + 1)) (r + 48271 * (k + 1)):=mulL (by omega) (by omega)
    walk_at "rd"
    generalize (r + 48271 * (k + 1)) * (r + 48271 * (k + 1)) = zz
    have z0:=Int.emod_nonneg zz (show (2147483629:Int)≠0 by decide)
    have z1:=Int.emod_lt_of_pos zz (show (0:Int) < 2147483629 by decide)
    generalize zz % 2147483629 = r2 at z0 z1 ⊢
    have vU:IntMulOk (r2 + 69621 * k) (r2 + 69621 * k):=mulL (by omega) (by omega)
    walk_at "rd"
    exact q _ (Int.emod_nonneg _ (by decide)) (Int.emod_lt_of_pos _ (by decide))
  ·walk_at "rd"
   rw [List.length_map] at gC
   refine if2 (fun z=>absurd z (by decide)) (fun _=>?_)
   walk_at "rd"
   refine ⟨_,_,rfl,.inl ⟨_,hS,rfl⟩,?_⟩
   walk_at "rd"
   rw [List.length_map]
   refine if2 (fun h=>absurd h gC) (fun _=>?_)
   walk_at "rd"
   generalize j7:(0:Int) % 1000000000000000000 = r
   have c0:0≤r:=by omega
   have c1:r < 1000000000000000000:=by omega
   have hm:IntMulOk (r + 48271 * (k + 1)) (r + 48271 * (k + 1)):=mulL (by omega) (by omega)
   walk_at "rd"
   generalize (r + 48271 * (k + 1)) * (r + 48271 * (k + 1)) = zz
   have z0:=Int.emod_nonneg zz (show (2147483629:Int)≠0 by decide)
   have z1:=Int.emod_lt_of_pos zz (show (0:Int) < 2147483629 by decide)
   generalize zz % 2147483629 = r2 at z0 z1 ⊢
   have vU:IntMulOk (r2 + 69621 * k) (r2 + 69621 * k):=mulL (by omega) (by omega)
   walk_at "rd"
   exact q _ (Int.emod_nonneg _ (by decide)) (Int.emod_lt_of_pos _ (by decide))
theorem bA:aR ["_law_orders", "_law_gone", "_law_found", "_law_one", "_law_other", "_law_ring", "_law_here", "_law_there", "_law_order"] ["_law_orders"] (ak bX):=⟨rfl,rfl,rfl,by decide +kernel,rfl,by decide +kernel,by decide +kernel⟩
theorem m8 (D:Def K mg "_law_rings" bX ["_law_orders"]) (T:Txt K mg Z):du P w K mg base (cM P w) "_law_rings" 1 ["_law_orders"] rD:=by
 refine D.eI bA (fun vs H Q E h=>?_) (fun f dH A outer s H vs Q E hr h=>?_)
 ·obtain ⟨p,as,L,rfl,_⟩:=h; rfl
 ·obtain ⟨p,as,L,rfl,g,im,hn,hd,q⟩:=h
  refine ⟨_,(ag (aG (i:=1) bA.nd rfl (by first | exact Or.inl rfl | exact Or.inr rfl) lI)
   (ag (aG (i:=2) bA.nd rfl (by first | exact Or.inl rfl | exact Or.inr rfl) (cL af))
   (ag (cg PassesOwn.never rfl (cQ rfl T.range (aa (av az (by rfl) T.len aK (aa (pv 0) af)) af)) (aJ (i:=3) bA.nd rfl (by first | exact Or.inl rfl | exact Or.inr rfl))
   (ao (cg PassesOwn.never rfl (cD (bp aO (pv 0) (pv 3) (fun _ _=>rfl))) (aJ (i:=4) bA.nd rfl (by first | exact Or.inl rfl | exact Or.inr rfl))
   (ao (b8 (iK (fT (fg hr) (fI (aa (pv 3) (aa (pv 4) af))) (pv 1))) (ag (aG (i:=5) bA.nd rfl (by first | exact Or.inl rfl | exact Or.inr rfl) (cL af))
   (ag (aG (i:=6) bA.nd rfl (by first | exact Or.inl rfl | exact Or.inr rfl) (pv 3))
   (ag (aG (i:=7) bA.nd rfl (by first | exact Or.inl rfl | exact Or.inr rfl) (pv 4))
   (ag (ja PassesOwn.never (iK (fT (fg hr) (fI (aa (pv 6) (aa (pv 7) af))) (pv 1))) (ag (jc (fg hr) (pv 1) (fI (aa (pv 6) (aa (pv 7) af))) fe rfl)
   (ag (b9 (di PySem.F.plainAttrs_list PySem.F.slot_list_append PySem.F.type_list_append bT (pv 5) (aa (pv 6) af)))
   (ag (aG (i:=8) bA.nd rfl (by first | exact Or.inl rfl | exact Or.inr rfl) (bp aO (pv 0) (pv 7) (fun _ _=>rfl)))
   (ao (DK (i:=6) (j:=7) rfl bA.nd rfl rfl (by decide) rfl rfl (aa (pv 7) (aa (bp aO (pv 8) (aU jI (di PySem.F.plainAttrs_list PySem.F.slot_list_index PySem.F.type_list_index fV (pv 8) (aa (pv 6) af)) ay) (fun _ _=>rfl)) af)) rfl))))))
   (ao (b9 (di PySem.F.plainAttrs_list PySem.F.slot_list_append PySem.F.type_list_append bT (pv 2) (aa (pv 5) af)))))))) aX)))))
   (ao (aS (pv 2)))))),?_⟩
  dsimp only [dO]
  walk_at "rd"
  intro gd zE
  walk_at "rd"
  refine ⟨Nat.zero_le _,fun t ht=>?_⟩
  have tH:H t = none:=(ah.upd zE).free ht
  have e0:ah H (upd (upd H gd (.dT [])) t (.lst [])):=(ah.upd zE).trans (ah.upd ht)
  have g0:upd (upd H gd (.dT [])) t (.lst []) gd = some (.dT (kD [])):=by rw [ax (aA ae ht)]; exact ae
  have t0:aQ (upd (upd H gd (.dT [])) t (.lst [])) t [] []:=⟨ae,rfl,fun i a l z=>by simp at z⟩
  generalize upd (upd H gd (.dT [])) t (.lst []) = H0 at e0 g0 t0 ⊢
  walk_at "rd"
  refine dh ?_
  refine ⟨_,rfl,_,_,rfl,.inl ⟨_,aD.of (e0 _ _ g.top),rfl⟩,(L.length:Int),by rw [List.length_map,g.len],by omega,by omega,?_⟩
  rw [Int.toNat_natCast]
  refine dU (fun i σ H1=>∃ (bs:List Addr) (R:List (List aj)) (v3 v4 v5 v6 v7 v8:Option V),σ = [some (.ref p),some (.ref gd),some (.ref t),v3,v4,v5,v6,v7,v8]∧ah H H1∧H1 gd = some (.dT (kD R.flatten))∧aQ H1 t bs (R.map fun c=>c.map (·.1))∧(t :: bs).Nodup∧(∀ b∈t :: bs,H b = none)∧Dp L R∧∀ d,Dt L d→d.1 < i→d∈R.flatten)
   ⟨[],[],none,none,none,none,none,none,rfl,e0,g0,t0,by simp,by simpa using tH,Dp.start,fun d h1 h2=>by have:=h1.lo; omega⟩ ?_ ?_
  ·rintro i σ H1 hi ⟨bs,R,v3,v4,v5,v6,v7,v8,rfl,e1,g1,t1,ou,qQ,y9,AF⟩
   obtain ⟨b,l,ha,hl,bO⟩:=g.at hi
   simp only [Int.zero_add]
   have el:rowOf L (i:Int) = l:=by
    have:=aq (L:=L) (a:=(i:Int)) (by omega) (by omega)
    rw [Int.toNat_natCast,hl] at this
    exact (Option.some.inj this).symm
   walk_at "rd"
   refine dh ?_
   refine ⟨_,rfl,_,rfl,bj (aD.of (e1 _ _ g.top)) (g.ix ha) ?_⟩
   refine ⟨b,rfl,⟨_,aD.of (e1 _ _ bO)⟩,eg (K:=K) (a:=b) (xs:=l.map V.int) (fun k σ H3=>∃ (bs:List Addr) (R:List (List aj)) (v4 v5 v6 v7 v8:Option V),σ = [some (.ref p),some (.ref gd),some (.ref t),some (.int (i:Int)),v4,v5,v6,v7,v8]∧ah H H3∧H3 gd = some (.dT (kD R.flatten))∧aQ H3 t bs (R.map fun c=>c.map (·.1))∧(t :: bs).Nodup∧(∀ b∈t :: bs,H b = none)∧Dp L R∧∀ d,Dt L d→d.1 < i∨d.1 = i∧d.2∈l.take k→d∈R.flatten)
    ⟨bs,R,v4,v5,v6,v7,v8,rfl,e1,g1,t1,ou,qQ,y9,fun d h1 h2=>AF d h1 (h2.elim id fun z=>by simp at z)⟩ (fun k σ H3 _ ⟨_,_,_,_,_,_,_,_,e,_⟩=>aD.of (e _ _ bO)) ?_ ?_⟩
   ·clear bs R v3 v4 v5 v6 v7 v8 e1 g1 t1 ou qQ y9 AF
    rintro k x σ H3 hx ⟨bs,R,v4,v5,v6,v7,v8,rfl,e3,g3,t3,yY,xR,xO,xA⟩
    obtain ⟨y,hy,rfl⟩:∃ y,l[k]? = some y∧x = V.int y:=by
     rw [List.getElem?_map] at hx
     cases e:l[k]? with
     | none=>rw [e] at hx; cases hx
     | some z=>rw [e] at hx; exact ⟨z,rfl,(Option.some.inj hx).symm⟩
    have dt:Dt L ((i:Int),y):=⟨by simp,by simpa using hi,by rw [el]; exact List.mem_of_getElem? hy⟩
    walk_at "rd"
    intro q1 NS
    have e4:ah H3 (upd H3 q1 (.tup [.int i,.int y])):=ah.upd NS
    have k4:upd H3 q1 (.tup [.int i,.int y]) q1 = some (.tup ((eR ((i:Int),y)).map kV)):=ae
    generalize upd H3 q1 (.tup [.int i,.int y]) = H4 at e4 k4 ⊢
    refine ⟨_,rfl,gd,_,rfl,eD.t (k:=eR ((i:Int),y)) (e4 _ _ g3) k4,?_⟩
    rw [fN]
    walk_at "rd"
    refine gB (fun Au=>?_) (fun Er=>?_)
    ·obtain ⟨n,n0,ek,nr⟩:=mC im dt
     have dp:=xO.add im dt n0 ek nr Au
     have lb:=dp.len
     have lf:=Dp.xS fun c hc=>(xO.hZ c hc).ne
     rw [List.flatten_append,List.flatten_singleton,List.length_append] at lb
     have tn:∀ j,(tr L ((i:Int),y) j).length = j:=fun j=>by unfold tr; simp
     rw [tn] at lb
     walk_at "rd"
     refine ⟨Nat.zero_le _,fun r j7=>?_⟩
     have g4:=e4 _ _ g3
     have t4:=t3.same e4
     have nc:=t4.iA j7
     have rH:H r = none:=(e3.trans e4).free j7
     have e5:ah H (upd H4 r (.lst [])):=(e3.trans e4).trans (ah.upd j7)
     have g5:upd H4 r (.lst []) gd = some (.dT (kD (R.flatten ++ tr L ((i:Int),y) 0))):=by
      rw [ax (aA g4 j7),show tr L ((i:Int),y) 0 = [] from rfl,List.append_nil]; exact g4
     have t5:=t4.same (ah.upd (o:=.lst []) j7)
     have r5:upd H4 r (.lst []) r = some (.lst ((aF L ((i:Int),y) 0).map V.int)):=ae
     generalize upd H4 r (.lst []) = H5 at e5 g5 t5 r5 ⊢
     walk_at "rd"
     refine ku (fun σ H6=>∃ (j:Nat) (v8:Option V),σ = [some (.ref p),some (.ref gd),some (.ref t),some (.int (i:Int)),some (.int y),some (.ref r),some (.int (it L ((i:Int),y) j).1),some (.int (it L ((i:Int),y) j).2),v8]∧j≤n∧ah H H6∧H6 gd = some (.dT (kD (R.flatten ++ tr L ((i:Int),y) j)))∧aQ H6 t bs (R.map fun c=>c.map (·.1))∧H6 r = some (.lst ((aF L ((i:Int),y) j).map V.int)))
      (fun _ H6=>match H6 r with | some (.lst xs)=>n - xs.length | _=>0) ⟨0,v8,rfl,Nat.zero_le _,e5,g5,t5,r5⟩ ?_
     rintro σ H6 ⟨j,w8,rfl,hj,e6,g6,t6,r6⟩
     walk_at "rd"
     intro q7 Wl
     have e7:ah H6 (upd H6 q7 (.tup [.int (it L ((i:Int),y) j).1,.int (it L ((i:Int),y) j).2])):=ah.upd Wl
     have k7:upd H6 q7 (.tup [.int (it L ((i:Int),y) j).1,.int (it L ((i:Int),y) j).2]) q7 = some (.tup ((eR (it L ((i:Int),y) j)).map kV)):=ae
     generalize upd H6 q7 (.tup [.int (it L ((i:Int),y) j).1,.int (it L ((i:Int),y) j).2]) = H7 at e7 k7 ⊢
     have g7:=e7 _ _ g6
     have t7:=t6.same e7
     have r7:=e7 _ _ r6
     refine ⟨_,rfl,gd,_,rfl,eD.t (k:=eR (it L ((i:Int),y) j)) g7 k7,?_⟩
     rw [fN]
     have rl:∀ j,((aF L ((i:Int),y) j).map V.int).length = j:=fun j=>by unfold aF; simp
     have ts:tr L ((i:Int),y) (j + 1) = tr L ((i:Int),y) j ++ [it L ((i:Int),y) j]:=by unfold tr; rw [List.range_succ,List.map_append]; rfl
     walk_at "rd"
     refine gB (fun Hd=>?_) (fun hold=>?_)
     ·have jn:j < n:=by
       refine Nat.lt_of_le_of_ne hj fun z=>Hd (List.mem_append_right _ ?_)
       rw [z,ek]
       exact List.mem_map.mpr ⟨0,List.mem_range.mpr n0,rfl⟩
      have Xo:=j6 im dt j
      obtain ⟨b0,b1,b2,b3⟩:=Xo.back im
      obtain ⟨c2,l2,XU,Sq,Pz⟩:=g.at (i:=(it L ((i:Int),y) j).2.toNat) (by omega)
      have Xh:l2 = rowOf L (it L ((i:Int),y) j).2:=by rw [aq b0 b1] at Sq; exact (Option.some.inj Sq).symm
      subst Xh
      have i2:kU (as.map V.ref) (it L ((i:Int),y) j).2 = some (V.ref c2):=by
       have:=g.ix XU
       rwa [Int.toNat_of_nonneg b0] at this
      refine w_turn ?_
      rw [r6]
      dsimp only
      walk_at "rd"
      intro q8 NR
      have e8:ah H7 (upd H7 q8 (.tup [.int (it L ((i:Int),y) j).1,.int (it L ((i:Int),y) j).2])):=ah.upd NR
      have k8:upd H7 q8 (.tup [.int (it L ((i:Int),y) j).1,.int (it L ((i:Int),y) j).2]) q8 = some (.tup ((eR (it L ((i:Int),y) j)).map kV)):=ae
      generalize upd H7 q8 (.tup [.int (it L ((i:Int),y) j).1,.int (it L ((i:Int),y) j).2]) = H8 at e8 k8 ⊢
      have g8:=e8 _ _ g7
      refine ⟨gd,_,rfl,jV.t (k:=eR (it L ((i:Int),y) j)) g8 k8 ?_,?_⟩
      ·rw [zt,List.length_append,tn]
       exact aB (by omega)
      ·rw [rT Hd,List.append_assoc,← ts]
       have e9:ah H (upd H8 gd (.dT (kD (R.flatten ++ tr L ((i:Int),y) (j + 1))))):=ah.fresh ((e6.trans e7).trans e8) zE
       have g9:upd H8 gd (.dT (kD (R.flatten ++ tr L ((i:Int),y) (j + 1)))) gd = some (.dT (kD (R.flatten ++ tr L ((i:Int),y) (j + 1)))):=ae
       have t9:=(t7.same e8).other (o:=.dT (kD (R.flatten ++ tr L ((i:Int),y) (j + 1)))) g8
       have r8:=e8 _ _ r7
       have r9:upd H8 gd (.dT (kD (R.flatten ++ tr L ((i:Int),y) (j + 1)))) r = some (.lst ((aF L ((i:Int),y) j).map V.int)):=by
        rw [ax (fun z=>by rw [z,g8] at r8; cases r8)]; exact r8
       generalize upd H8 gd (.dT (kD (R.flatten ++ tr L ((i:Int),y) (j + 1)))) = H9 at e9 g9 t9 r9 ⊢
       walk_at "rd"
       refine ⟨.inl ⟨rfl,_,aD.of r9⟩,?_⟩
       walk_at "rd"
       refine cY r9 (by rw [rl]; exact aB (by omega)) ?_
       have er:(aF L ((i:Int),y) j).map V.int ++ [V.int (it L ((i:Int),y) j).1] = (aF L ((i:Int),y) (j + 1)).map V.int:=by
        unfold aF
        rw [List.range_succ,List.map_append,List.map_append]
        rfl
       rw [er]
       have eA:ah H (upd H9 r (.lst ((aF L ((i:Int),y) (j + 1)).map V.int))):=ah.fresh e9 rH
       have gA:upd H9 r (.lst ((aF L ((i:Int),y) (j + 1)).map V.int)) gd = some (.dT (kD (R.flatten ++ tr L ((i:Int),y) (j + 1)))):=by
        rw [ax (fun z=>by rw [← z,g9] at r9; cases r9)]; exact g9
       have tA:aQ (upd H9 r (.lst ((aF L ((i:Int),y) (j + 1)).map V.int))) t bs (R.map fun c=>c.map (·.1)):=t9.away nc
       have rA:upd H9 r (.lst ((aF L ((i:Int),y) (j + 1)).map V.int)) r = some (.lst ((aF L ((i:Int),y) (j + 1)).map V.int)):=ae
       generalize upd H9 r (.lst ((aF L ((i:Int),y) (j + 1)).map V.int)) = HA at eA gA tA rA ⊢
       walk_at "rd"
       refine bj (aD.of (eA _ _ g.top)) i2 ?_
       walk_at "rd"
       refine ⟨.inl ⟨rfl,_,aD.of (eA _ _ Pz)⟩,?_⟩
       walk_at "rd"
       refine ⟨c2,_,_,rfl,rfl,eA _ _ Pz,b3,?_⟩
       walk_at "rd"
       refine bj (aD.of (eA _ _ Pz)) (wo b3) ?_
       walk_at "rd"
       refine ⟨_,_,rfl,⟨j + 1,_,rfl,jn,eA,gA,tA,rA⟩,?_⟩
       rw [rA]
       dsimp only
       rw [rl,rl]
       omega
     ·have jn:j = n:=by
       refine Nat.le_antisymm hj (Nat.le_of_not_lt fun z=>?_)
       rcases List.mem_append.mp hold with w | w
       ·exact xO.new n0 ek Au j w
       ·have nd:=iV im dt nr
        have ej:(tr L ((i:Int),y) n)[j]? = some (it L ((i:Int),y) j):=by unfold tr; simp [z]
        have:=dJ (A:=[]) (by simpa using nd) ej
        refine this ?_
        have et:(tr L ((i:Int),y) n).take j = tr L ((i:Int),y) j:=by
         unfold tr
         rw [← List.map_take,List.take_range,Nat.min_eq_left (by omega)]
        rw [et]
        exact List.mem_append_right _ w
      subst jn
      have Xn:=e6.trans e7
      walk_at "rd"
      refine ⟨.inl ⟨rfl,_,aD.of t7.top⟩,?_⟩
      walk_at "rd"
      have zb:=t7.len
      rw [List.length_map] at zb
      refine cY t7.top (by rw [List.length_map]; exact aB (by omega)) ?_
      have GR:r≠t:=fun z=>nc (z▸List.mem_cons_self)
      have er:aF L ((i:Int),y) j = (tr L ((i:Int),y) j).map (·.1):=by unfold aF tr; rw [List.map_map]; rfl
      rw [er] at r7
      have t8:=t7.snoc (List.nodup_cons.mp yY).1 GR r7
      have g8:upd H7 t (.lst (bs.map V.ref ++ [.ref r])) gd = some (.dT (kD (R.flatten ++ tr L ((i:Int),y) j))):=by
       rw [ax (fun z=>by have:=t7.top; rw [← z,g7] at this; cases this)]; exact g7
      refine ⟨bs ++ [r],R ++ [tr L ((i:Int),y) j],_,_,_,_,_,rfl,ah.fresh Xn tH,?_,?_,?_,fun b hb=>?_,dp,fun d h1 h2=>?_⟩
      ·rw [List.flatten_append,List.flatten_singleton]; exact g8
      ·rw [List.map_append]; exact t8
      ·obtain ⟨n1,n2⟩:=List.nodup_cons.mp yY
       refine List.nodup_cons.mpr ⟨fun z=>?_,i5.mpr ⟨fun z=>nc (List.mem_cons_of_mem _ z),n2⟩⟩
       rcases List.mem_append.mp z with z | z
       ·exact n1 z
       ·exact GR (List.mem_singleton.mp z).symm
      ·rcases List.mem_cons.mp hb with z | z
       ·rw [z]; exact tH
       ·rcases List.mem_append.mp z with z | z
        ·exact xR b (List.mem_cons_of_mem _ z)
        ·rw [List.mem_singleton.mp z]; exact rH
      ·rw [List.flatten_append,List.flatten_singleton]
       rw [take_snoc hy] at h2
       by_cases z:d = ((i:Int),y)
       ·rw [z]
        exact List.mem_append_right _ (List.mem_map.mpr ⟨0,List.mem_range.mpr n0,rfl⟩)
       ·refine List.mem_append_left _ (xA d h1 ?_)
        rcases h2 with h2 | ⟨h2,h3⟩
        ·exact .inl h2
        ·rcases List.mem_append.mp h3 with h3 | h3
         ·exact .inr ⟨h2,h3⟩
         ·exact absurd (Prod.ext h2 (List.mem_singleton.mp h3)) z
    ·refine ⟨bs,R,_,_,_,_,_,rfl,e3.trans e4,e4 _ _ g3,t3.same e4,yY,xR,xO,fun d h1 h2=>?_⟩
     rw [take_snoc hy] at h2
     rcases h2 with h2 | ⟨h2,h3⟩
     ·exact xA d h1 (.inl h2)
     ·rcases List.mem_append.mp h3 with h3 | h3
      ·exact xA d h1 (.inr ⟨h2,h3⟩)
      ·rw [show d = ((i:Int),y) from Prod.ext h2 (List.mem_singleton.mp h3)]; exact Er
   ·rintro σ H3 ⟨bs,R,v4,v5,v6,v7,v8,rfl,e3,g3,t3,yY,xR,xO,xA⟩
    rw [List.length_map,List.take_length] at xA
    refine ⟨bs,R,_,_,_,_,_,_,rfl,e3,g3,t3,yY,xR,xO,fun d h1 h2=>xA d h1 ?_⟩
    by_cases z:d.1 = i
    ·refine .inr ⟨z,?_⟩
     have:=h1.mem
     rw [z,el] at this
     exact this
    ·exact .inl (by omega)
  ·rintro σ H1 ⟨bs,R,v3,v4,v5,v6,v7,v8,rfl,e1,g1,t1,ou,qQ,y9,AF⟩
   walk_at "rd"
   exact q t bs R H1 e1 t1 ou qQ (y9.dec fun d hd=>AF d hd hd.hi)
theorem eF:aR ["_law_orders", "_law_ring", "_law_one", "_law_other", "_law_first", "_law_second"] ["_law_orders", "_law_ring", "_law_one", "_law_other"] (ak bH):=⟨rfl,rfl,rfl,by decide +kernel,rfl,by decide +kernel,by decide +kernel⟩
theorem kh (D:Def K mg "_law_put_tie" bH ["_law_orders", "_law_ring", "_law_one", "_law_other"]) (T:Txt K mg Z):du P w K mg base (cM P w) "_law_put_tie" 1 ["_law_orders", "_law_ring", "_law_one", "_law_other"] nT:=by
 refine D.eI eF (fun vs H Q E h=>?_) (fun f dH A outer s H vs Q E hr h=>?_)
 ·obtain ⟨p,ra,as,L,r,i,j,rfl,_⟩:=h; rfl
 ·obtain ⟨p,ra,as,L,r,i,j,rfl,g,nd,Ey,JC,sh,sm,gd,ns,hi,hj,hn,q⟩:=h
  have nr:=sm.ring gd ns
  have im:=sh.map
  obtain ⟨Fc,a0,a1,Sd⟩:=cS gd im (c:=i)
  obtain ⟨Fb,b0,b1,Sb⟩:=cS gd im (c:=j)
  obtain ⟨ca,la,ha,Aw,gy⟩:=g.at (i:=(cy r i).toNat) (by omega)
  obtain ⟨cb,lb,hb,Fy,RB⟩:=g.at (i:=(cy r j).toNat) (by omega)
  have Ku:la = rowOf L (cy r i):=by rw [aq a0 a1] at Aw; exact (Option.some.inj Aw).symm
  have Kt:lb = rowOf L (cy r j):=by rw [aq b0 b1] at Fy; exact (Option.some.inj Fy).symm
  subst Ku Kt
  have ia:kU (as.map V.ref) (cy r i) = some (V.ref ca):=by
   have:=g.ix ha
   rwa [Int.toNat_of_nonneg a0] at this
  have ib:kU (as.map V.ref) (cy r j) = some (V.ref cb):=by
   have:=g.ix hb
   rwa [Int.toNat_of_nonneg b0] at this
  have sa:(rowOf L (cy r i)).length≤L.length:=bC (im.nd _ _ Aw) fun y hy=>⟨(im.rg _ _ Aw y hy).1,(im.rg _ _ Aw y hy).2.1⟩
  have sb:(rowOf L (cy r j)).length≤L.length:=bC (im.nd _ _ Fy) fun y hy=>⟨(im.rg _ _ Fy y hy).1,(im.rg _ _ Fy y hy).2.1⟩
  have ii:=List.idxOf_lt_length_of_mem Fc
  have ij:=List.idxOf_lt_length_of_mem Fb
  refine ⟨_,(ag (aG (i:=4) eF.nd rfl (by first | exact Or.inl rfl | exact Or.inr rfl) (bp aO (pv 1) (pv 2) (fun _ _=>rfl)))
   (ag (aG (i:=5) eF.nd rfl (by first | exact Or.inl rfl | exact Or.inr rfl) (bp aO (pv 1) (pv 3) (fun _ _=>rfl)))
   (ao (b8 (PW.pt (pw_and (aM gw (pv 4) (pv 5) (aZ _)) (pw_and1 (aM gc (pv 5) (bp aO (pv 0) (pv 4) (fun _ _=>rfl)) (by with_unfolding_all rfl))))) (ag (b9 (di PySem.F.plainAttrs_list PySem.F.slot_list_insert PySem.F.type_list_insert jK (bp aO (pv 0) (pv 4) (fun _ _=>rfl)) (aa (di PySem.F.plainAttrs_list PySem.F.slot_list_index PySem.F.type_list_index fV (bp aO (pv 0) (pv 4) (fun _ _=>rfl)) (aa (bp aO (pv 1) (aU jI (pv 2) ay) (fun _ _=>rfl)) af)) (aa (pv 5) af))))
   (ao (b9 (di PySem.F.plainAttrs_list PySem.F.slot_list_insert PySem.F.type_list_insert jK (bp aO (pv 0) (pv 5) (fun _ _=>rfl)) (aa (di PySem.F.plainAttrs_list PySem.F.slot_list_index PySem.F.type_list_index fV (bp aO (pv 0) (pv 5) (fun _ _=>rfl)) (aa (bp aO (pv 1) (aU jI (pv 3) ay) (fun _ _=>rfl)) af)) (aa (pv 4) af)))))) aX)))),?_⟩
  dsimp only [dO]
  walk_at "rd"
  refine bj (aD.of Ey) (gu (j:=i) (by omega) (by omega) (.inl rfl)) ?_
  walk_at "rd"
  refine bj (aD.of Ey) (gu (j:=j) (by omega) (by omega) (.inl rfl)) ?_
  walk_at "rd"
  refine gB (fun gD=>?_) (fun heq=>?_)
  ·walk_at "rd"
   refine bj (aD.of g.top) ia ?_
   refine wL (aD.of gy) ?_
   rw [if_pos rfl]
   walk_at "rd"
   refine gB (fun zx=>?_) (fun V4=>?_)
   ·have F:bB L (cy r i) (cy r j) (put (rowOf L (cy r i)) ((rowOf L (cy r i)).idxOf (cy r (i + (r.length - 1)))) (cy r j)) (put (rowOf L (cy r j)) ((rowOf L (cy r j)).idxOf (cy r (j + (r.length - 1)))) (cy r i)):=by
     have NY:cy r i∉rowOf L (cy r j):=fun z=>zx (Dt.back (d:=(cy r j,cy r i)) ⟨b0,b1,z⟩ im).2.2.2
     exact ⟨im,a0,a1,b0,b1,gD,zx,fP _ _ _,fP _ _ _,fQ zx,fQ NY⟩
    have TU:=F.jZ sh Fc Fb (ft Fc zx) (ft Fb F.M4) (fun Pd h0 hs=>by
     rw [← Sd] at h0
     rw [← Sb]
     exact gd.on hs h0 _)
    have Tz:jS (both L (cy r i) (cy r j) (put (rowOf L (cy r i)) ((rowOf L (cy r i)).idxOf (cy r (i + (r.length - 1)))) (cy r j)) (put (rowOf L (cy r j)) ((rowOf L (cy r j)).idxOf (cy r (j + (r.length - 1)))) (cy r i))):=by
     obtain ⟨k,k0,k1,ek⟩:∃ k,0 < k∧k < r.length∧(i + k) % r.length = j % r.length:=by
      have Zc:i≠j:=fun z=>gD (by rw [z])
      by_cases z:i < j
      ·exact ⟨j - i,by omega,by omega,by rw [show i + (j - i) = j by omega]⟩
      ·exact ⟨j + r.length - i,by omega,by omega,by rw [show i + (j + r.length - i) = j + r.length by omega,Nat.add_mod_right]⟩
     have ej:cy r (i + k) = cy r j:=cw ek
     have Xj:dj r (i + k) = dj r j:=ck ek
     have Sa:dj r (i + k + (r.length - 1)) = dj r (j + (r.length - 1)):=ck (by rw [Nat.add_mod,ek,← Nat.add_mod])
     obtain ⟨m1,m2,m3,m4,m5⟩:=F.Bs Fc Fb (ft Fc zx) (ft Fb F.M4)
     have fd:=fun d=>F.cT (d:=d)
     rw [← Sd] at m1 m4 m5
     rw [← Sb] at m2 m3 m5
     have back:∀ t,nx L (dj r (t + (r.length - 1))) = dj r t:=fun t=>by
      rw [gd.st]
      exact ck (by rw [show t + (r.length - 1) + 1 = t + r.length by omega,Nat.add_mod_right])
     rw [back] at m3 m4
     exact AV im sm gd nr ns k0 k1 (i:=i) (N:=both L (cy r i) (cy r j) (put (rowOf L (cy r i)) ((rowOf L (cy r i)).idxOf (cy r (i + (r.length - 1)))) (cy r j)) (put (rowOf L (cy r j)) ((rowOf L (cy r j)).idxOf (cy r (j + (r.length - 1)))) (cy r i))) (by rw [ej]; exact fd) (by rw [ej]; exact m1) (by rw [ej,Sa]; exact m2) (by rw [ej,Xj]; exact m3) (by rw [ej]; exact m4) (by rw [Sa]; exact m5)
    walk_at "rd"
    refine bj (aD.of g.top) ia ?_
    refine ⟨.inl ⟨rfl,_,aD.of gy⟩,?_⟩
    walk_at "rd"
    refine bj (aD.of g.top) ia ?_
    refine ⟨.inl ⟨rfl,_,aD.of gy⟩,?_⟩
    walk_at "rd"
    refine bj (aD.of Ey) (gu (j:=i + (r.length - 1)) (by omega) (by omega) (.inr (by omega))) ?_
    walk_at "rd"
    refine ⟨ca,_,_,rfl,rfl,gy,Fc,?_⟩
    walk_at "rd"
    refine lq (k:=(rowOf L (cy r i)).idxOf (cy r (i + (r.length - 1)))) rfl gy (by rw [List.length_map]; omega) (by rw [List.length_map]; exact aB (by omega)) ?_
    rw [map_put]
    have PD:=List.mem_of_getElem? ha
    have XT:=List.mem_of_getElem? hb
    have g1:=g.set nd (l':=put (rowOf L (cy r i)) ((rowOf L (cy r i)).idxOf (cy r (i + (r.length - 1)))) (cy r j)) ha
    have o1:∀ b o,b∉as→H b = some o→upd H ca (.lst ((put (rowOf L (cy r i)) ((rowOf L (cy r i)).idxOf (cy r (i + (r.length - 1)))) (cy r j)).map V.int)) b = some o:=fun b o EI e=>by rw [ky PD EI]; exact e
    generalize upd H ca (.lst ((put (rowOf L (cy r i)) ((rowOf L (cy r i)).idxOf (cy r (i + (r.length - 1)))) (cy r j)).map V.int)) = H1 at g1 o1 ⊢
    have xk:(L.set (cy r i).toNat (put (rowOf L (cy r i)) ((rowOf L (cy r i)).idxOf (cy r (i + (r.length - 1)))) (cy r j)))[(cy r j).toNat]? = some (rowOf L (cy r j)):=by rw [List.getElem?_set_ne (by omega)]; exact Fy
    have jN:=g1.row _ _ _ hb xk
    have xi:=o1 _ _ JC Ey
    walk_at "rd"
    refine bj (aD.of g1.top) ib ?_
    refine ⟨.inl ⟨rfl,_,aD.of jN⟩,?_⟩
    walk_at "rd"
    refine bj (aD.of g1.top) ib ?_
    refine ⟨.inl ⟨rfl,_,aD.of jN⟩,?_⟩
    walk_at "rd"
    refine bj (aD.of xi) (gu (j:=j + (r.length - 1)) (by omega) (by omega) (.inr (by omega))) ?_
    walk_at "rd"
    refine ⟨cb,_,_,rfl,rfl,jN,Fb,?_⟩
    walk_at "rd"
    refine lq (k:=(rowOf L (cy r j)).idxOf (cy r (j + (r.length - 1)))) rfl jN (by rw [List.length_map]; omega) (by rw [List.length_map]; exact aB (by omega)) ?_
    rw [map_put]
    have g2:=g1.set nd (l':=put (rowOf L (cy r j)) ((rowOf L (cy r j)).idxOf (cy r (j + (r.length - 1)))) (cy r i)) hb
    refine q _ _ (fun b o EI e=>?_) g2 TU Tz (by rw [List.length_set,List.length_set]) (fun d hd=>F.sub d hd)
    rw [ky XT EI]
    exact o1 b o EI e
   ·exact q _ L (fun b o _ e=>e) g sh sm rfl (fun _ h=>h)
  ·walk_at "rd"
   exact q _ L (fun b o _ e=>e) g sh sm rfl (fun _ h=>h)
theorem cU:aR ["_law_orders", "_law_ring", "_law_corners", "_law_many", "_law_at", "_law_order"] ["_law_orders", "_law_ring", "_law_corners"] (ak bo):=⟨rfl,rfl,rfl,by decide +kernel,rfl,by decide +kernel,by decide +kernel⟩
theorem jj (D:Def K mg "_law_put_place" bo ["_law_orders", "_law_ring", "_law_corners"]) (T:Txt K mg Z):du P w K mg base (cM P w) "_law_put_place" 1 ["_law_orders", "_law_ring", "_law_corners"] jY:=by
 refine D.eI cU (fun vs H Q E h=>?_) (fun f dH A outer s H vs Q E hr h=>?_)
 ·obtain ⟨p,ra,rc,as,L,r,cs,rfl,_⟩:=h; rfl
 ·obtain ⟨p,ra,rc,as,L,r,cs,rfl,g,nd,Ey,JC,Fx,Q9,Y5,Y4,nY,sm,gd,Ap,c2,EW,PB,Ik,hn,q⟩:=h
  have nr:=sm.ring gd Ap
  have c0:cs≠[]:=fun z=>by rw [z] at c2; simp at c2
  have Ky:(cs.map (cy r)).Nodup:=List.Pairwise.map _ (R:=fun a b=>a < b∧b < r.length) (fun a b h=>jR nr h.1 (by omega)) (List.Pairwise.imp_of_mem (fun {a b} _ hb h=>⟨h,PB b hb⟩) EW)
  have im:=nY.map
  have two:=gd.two
  have two2:=nY.two
  obtain ⟨c1,ct,FE⟩:∃ c1 ct,cs = c1 :: ct:=by cases cs with | nil=>exact absurd rfl c0 | cons a b=>exact ⟨a,b,rfl⟩
  refine ⟨_,(ag (aG (i:=3) cU.nd rfl (by first | exact Or.inl rfl | exact Or.inr rfl) (av az (by rfl) T.len aK (aa (pv 0) af)))
   (ag (cg PassesOwn.never rfl (cD (pv 2)) (aJ (i:=4) cU.nd rfl (by first | exact Or.inl rfl | exact Or.inr rfl))
   (ag (aG (i:=5) cU.nd rfl (by first | exact Or.inl rfl | exact Or.inr rfl) (bp aO (pv 0) (bp aO (pv 1) (pv 4) (fun _ _=>rfl)) (fun _ _=>rfl)))
   (ao (b9 (di PySem.F.plainAttrs_list PySem.F.slot_list_insert PySem.F.type_list_insert jK (pv 5) (aa (di PySem.F.plainAttrs_list PySem.F.slot_list_index PySem.F.type_list_index fV (pv 5) (aa (bp aO (pv 1) (aU jI (pv 4) ay) (fun _ _=>rfl)) af)) (aa (pv 3) af)))))))
   (ao (b9 (di PySem.F.plainAttrs_list PySem.F.slot_list_append PySem.F.type_list_append bT (pv 0) (aa (fB (tg:=["_law_at"]) (fr:=[("_law_ring",1)]) (by walk_at "blk_ok") rfl (cD (pv 2)) (fun _ _ _ _ _=>(aJ (i:=0) (show [("_law_at" : Str),("_law_ring" : Str)].Nodup by decide +kernel) rfl (by first | exact Or.inl rfl | exact Or.inr rfl))) (fun _ _ _ _ _=>fc) (fun _ _ _ _ _=>(bp (jt (K:=K) rfl) (pv 1) (pv 0) (fun _ _=>rfl)))) af)))))),?_⟩
  dsimp only [dO]
  walk_at "rd"
  refine ⟨_,_,rfl,.inl ⟨_,aD.of g.top,rfl⟩,?_⟩
  rw [List.length_map,g.len]
  walk_at "rd"
  refine dh ?_
  refine ⟨_,rfl,rc,rfl,⟨_,aD.of Fx⟩,eg (K:=K) (a:=rc) (xs:=(cs.map fun c:Nat=>(c:Int)).map V.int) (fun k σ H1=>∃ (G:List (List Int)) (v4 v5:Option V),σ = [some (.ref p),some (.ref ra),some (.ref rc),some (.int (L.length:Int)),v4,v5]∧(∀ b o,b∉as→H b = some o→H1 b = some o)∧aQ H1 p as G∧((k = 0∧G = L)∨(∃ M cj,Pl L r c1 cj (cs.take k) M∧xW L r c1 cj M∧G = M.take L.length∧0 < k∧cs[k - 1]? = some cj)))
   ⟨L,none,none,rfl,fun _ _ _ e=>e,g,.inl ⟨rfl,rfl⟩⟩ (fun k σ H1 _ ⟨_,_,_,_,o,_⟩=>aD.of (o _ _ Q9 Fx)) ?_ ?_⟩
  ·rintro k x σ H1 hx ⟨G,v4,v5,rfl,o1,g1,st⟩
   obtain ⟨c,hc,rfl⟩:∃ c:Nat,cs[k]? = some c∧x = V.int (c:Int):=by
    rw [List.getElem?_map,List.getElem?_map] at hx
    cases e:cs[k]? with
    | none=>rw [e] at hx; cases hx
    | some z=>rw [e] at hx; exact ⟨z,rfl,(Option.some.inj hx).symm⟩
   have zF:=PB c (List.mem_of_getElem? hc)
   obtain ⟨zm,x0,x1,ed⟩:=cS gd im (c:=c)
   have xi:=o1 _ _ JC Ey
   have un:∀ e∈cs.take k,cy r e≠cy r c:=fun e he z=>by
    have:=dJ (A:=[]) (B:=cs.map (cy r)) (j:=k) (x:=cy r c) (by simpa using Ky) (by rw [List.getElem?_map,hc]; rfl)
    refine this ?_
    rw [List.nil_append,← List.map_take,← z]
    exact List.mem_map.mpr ⟨e,he,rfl⟩
   have step:G[(cy r c).toNat]? = some (rowOf L (cy r c))∧∃ M,Pl L r c1 c (cs.take (k + 1)) M∧xW L r c1 c M∧G.set (cy r c).toNat (put (rowOf L (cy r c)) ((rowOf L (cy r c)).idxOf (cy r (c + (r.length - 1)))) L.length) = M.take L.length:=by
    rcases st with ⟨rfl,rfl⟩ | ⟨M,cj,pl,ps,rfl,k0,Ht⟩
    ·obtain ⟨F,pl⟩:=Pl.first nY gd Ap zF
     have ps:=xW.first nY sm gd Ap zF F pl
     have ec:c1 = c:=by rw [FE] at hc; simpa using hc
     have e1:cs.take (0 + 1) = [c]:=by rw [FE,ec]; rfl
     rw [e1,ec]
     refine ⟨aq x0 x1,_,pl,ps,?_⟩
     rw [nP (by rw [gY]) (by omega)]
     unfold dS
     rw [List.take_left]
    ·have lt:cj < c:=by
      obtain ⟨q1,w1⟩:=List.getElem?_eq_some_iff.mp Ht
      obtain ⟨q2,w2⟩:=List.getElem?_eq_some_iff.mp hc
      have:=List.pairwise_iff_getElem.mp EW (k - 1) k q1 q2 (by omega)
      rw [w1,w2] at this
      exact this
     obtain ⟨F,Mh⟩:=pl.next nY gd Ap lt zF un
     have Um:=xW.next nY gd nr Ap pl ps lt zF F un
     rw [take_snoc hc]
     refine ⟨?_,_,Mh,Um,?_⟩
     ·rw [List.getElem?_take,if_pos (by omega),← pl.keep _ x0 x1 un]
      exact aq x0 (by rw [pl.len]; omega)
     ·rw [nP pl.len (by omega)]
   obtain ⟨gx,M,UB,Ul,eM⟩:=step
   obtain ⟨ca,la,ha,Aw,gy⟩:=g1.at (i:=(cy r c).toNat) (List.getElem?_eq_some_iff.mp gx).1
   rw [gx] at Aw
   cases Aw
   have ia:kU (as.map V.ref) (cy r c) = some (V.ref ca):=by
    have:=g1.ix ha
    rwa [Int.toNat_of_nonneg x0] at this
   have N5:=aq x0 x1
   have sa:(rowOf L (cy r c)).length≤L.length:=bC (im.nd _ _ N5) fun y hy=>⟨(im.rg _ _ N5 y hy).1,(im.rg _ _ N5 y hy).2.1⟩
   have ii:=List.idxOf_lt_length_of_mem zm
   walk_at "rd"
   refine bj (aD.of xi) (gu (j:=c) (by omega) (by omega) (.inl rfl)) ?_
   refine bj (aD.of g1.top) ia ?_
   walk_at "rd"
   refine ⟨.inl ⟨rfl,_,aD.of gy⟩,?_⟩
   walk_at "rd"
   refine ⟨.inl ⟨rfl,_,aD.of gy⟩,?_⟩
   walk_at "rd"
   refine bj (aD.of xi) (gu (j:=c + (r.length - 1)) (by omega) (by omega) (.inr (by omega))) ?_
   walk_at "rd"
   refine ⟨ca,_,_,rfl,rfl,gy,zm,?_⟩
   walk_at "rd"
   refine lq (k:=(rowOf L (cy r c)).idxOf (cy r (c + (r.length - 1)))) rfl gy (by rw [List.length_map]; omega) (by rw [List.length_map]; exact aB (by omega)) ?_
   rw [map_put]
   have PD:=List.mem_of_getElem? ha
   have g2:=g1.set nd (l':=put (rowOf L (cy r c)) ((rowOf L (cy r c)).idxOf (cy r (c + (r.length - 1)))) L.length) ha
   rw [eM] at g2
   refine ⟨_,_,_,rfl,fun b o EI e=>?_,g2,.inr ⟨M,c,UB,Ul,rfl,by omega,by rw [Nat.add_sub_cancel]; exact hc⟩⟩
   rw [ky PD EI]
   exact o1 b o EI e
  ·rintro σ H1 ⟨G,v4,v5,rfl,o1,g1,st⟩
   rw [List.length_map,List.length_map,List.take_length] at st
   rcases st with ⟨z,_⟩ | ⟨M,cj,pl,ps,rfl,k0,Ht⟩
   ·exact absurd (List.length_eq_zero_iff.mp z) c0
   have xi:=o1 _ _ JC Ey
   have G8:=o1 _ _ Q9 Fx
   walk_at "rd"
   refine ⟨.inl ⟨rfl,_,aD.of g1.top⟩,?_⟩
   walk_at "rd"
   refine dR ?_
   refine ⟨_,rfl,rc,rfl,⟨_,aD.of G8⟩,fun acc bI=>?_⟩
   refine dG (K:=K) (a:=rc) (xs:=(cs.map fun c:Nat=>(c:Int)).map V.int) (fun i σ' ys H2=>∃ v:Option V,σ' = [v,some (.ref ra)]∧ah H1 H2∧H2 acc = some (.lst ys)∧ys = ((cs.take i).map (cy r)).map V.int)
    ⟨none,rfl,ah.upd bI,ae,rfl⟩ (fun i σ' ys H2 _ ⟨_,_,e,_⟩=>aD.of (e _ _ G8)) ?_ ?_
   ·rintro i x σ' ys H2 hx hi ⟨v,rfl,e2,a2,rfl⟩
    obtain ⟨c,hc,rfl⟩:∃ c:Nat,cs[i]? = some c∧x = V.int (c:Int):=by
     rw [List.getElem?_map,List.getElem?_map] at hx
     cases e:cs[i]? with
     | none=>rw [e] at hx; cases hx
     | some z=>rw [e] at hx; exact ⟨z,rfl,(Option.some.inj hx).symm⟩
    have zF:=PB c (List.mem_of_getElem? hc)
    walk_at "rd"
    refine bj (aD.of (e2 _ _ xi)) (gu (j:=c) (by omega) (by omega) (.inl rfl)) ?_
    refine ⟨a2,by rw [List.length_map,List.length_map,List.length_take]; exact aB (by omega),dN hi ⟨_,rfl,ah.fresh e2 bI,ae,?_⟩⟩
    rw [take_snoc hc,List.map_append,List.map_append]
    rfl
   ·rintro σ' ys H2 ⟨v,rfl,e2,a2,rfl⟩
    rw [List.length_map,List.length_map,List.take_length] at a2
    have g2:=g1.same e2
    have Eb:=g1.iA bI
    have SI:acc≠p:=fun z=>Eb (z▸List.mem_cons_self)
    walk_at "rd"
    refine cY g2.top (by rw [List.length_map,g.len]; exact aB (by omega)) ?_
    have g3:=g2.snoc (List.nodup_cons.mp nd).1 SI a2
    rw [← pl.new,wG pl.len] at g3
    have E5:H acc = none:=by
     cases e:H acc with
     | none=>rfl
     | some o=>
      have:=o1 acc o (fun z=>Eb (List.mem_cons_of_mem _ z)) e
      rw [bI] at this
      cases this
    have Vr:c1 < cj:=by
     obtain ⟨q2,w2⟩:=List.getElem?_eq_some_iff.mp Ht
     have:=List.pairwise_iff_getElem.mp EW 0 (cs.length - 1) (by omega) q2 (by omega)
     have e0:cs[0] = c1:=by simp [FE]
     rw [w2,e0] at this
     exact this
    refine q _ M acc (fun b o hb e=>?_) E5 g3 ?_ pl.sh (xW.done gd nr pl ps Vr) pl.len pl.sub (by rw [pl.new,List.length_map])
    ·rw [ky (as:=p :: as) List.mem_cons_self hb]
     exact e2 _ _ (o1 b o (fun z=>hb (List.mem_cons_of_mem _ z)) e)
    ·obtain ⟨n1,n2⟩:=List.nodup_cons.mp nd
     refine List.nodup_cons.mpr ⟨fun z=>?_,i5.mpr ⟨fun z=>Eb (List.mem_cons_of_mem _ z),n2⟩⟩
     rcases List.mem_append.mp z with z | z
     ·exact n1 z
     ·exact SI (List.mem_singleton.mp z).symm
theorem bK:aR ["_law_script", "_law_start", "_law_steps", "_law_orders", "_law_k", "_law_number", "_law_rings_here", "_law_ring", "_law_corners"] ["_law_script", "_law_start", "_law_steps"] (ak bW):=⟨rfl,rfl,rfl,by decide +kernel,rfl,by decide +kernel,by decide +kernel⟩
theorem m7 (D:Def K mg "_law_tight" bW ["_law_script", "_law_start", "_law_steps"]) (T:Txt K mg Z) (dM:du P w K mg base (cM P w) "_law_mixed" 2 ["_law_script", "_law_k"] (fO K)) (qp:du P w K mg base (cM P w) "_law_rings" 1 ["_law_orders"] rD)
  (mv:du P w K mg base (cM P w) "_law_put_tie" 1 ["_law_orders", "_law_ring", "_law_one", "_law_other"] nT) (jO:du P w K mg base (cM P w) "_law_put_place" 1 ["_law_orders", "_law_ring", "_law_corners"] jY):du P w K mg base (cM P w) "_law_tight" 3 ["_law_script", "_law_start", "_law_steps"] (rz K):=by
 refine D.eI bK (fun vs H Q E h=>?_) (fun f dH A outer s H vs Q E hr h=>?_)
 ·obtain ⟨a,ns,st,n,rfl,_⟩:=h; rfl
 ·obtain ⟨a,ns,st,n,rfl,hS,Y0,YZ,hn,q⟩:=h
  refine ⟨_,(@ag _ _ _ _ _ (@aG _ _ 3 _ _ _ _ bK.nd rfl (by first | exact Or.inl rfl | exact Or.inr rfl) (@M9 _ _ _ _ _ _ _ _ _ _ (cL (aa ay (aa ay (aa ay af)))) (cL (aa ay (aa ay (aa ay af)))) (cL (aa ay (aa ay (aa ay af)))) (cL (aa ay (aa ay (aa ay af)))) rfl rfl rfl rfl) rfl (by first | exact .inl rfl | exact .inr rfl))
   (ag (cg PassesOwn.never rfl (cQ rfl T.range (aa (pv 2) af)) (aJ (i:=4) bK.nd rfl (by first | exact Or.inl rfl | exact Or.inr rfl))
   (ag (aG (i:=5) bK.nd rfl (by first | exact Or.inl rfl | exact Or.inr rfl) (aC dM hr bg (aa (pv 0) (aa (aU fK (pv 1) (pv 4)) af))))
   (ag (aG (i:=6) bK.nd rfl (by first | exact Or.inl rfl | exact Or.inr rfl) (aC qp hr bg (aa (pv 3) af)))
   (ag (aG (i:=7) bK.nd rfl (by first | exact Or.inl rfl | exact Or.inr rfl) (bp aO (pv 6) (aU dr (pv 5) (av az (by rfl) T.len aK (aa (pv 6) af))) (fun _ _=>rfl)))
   (ao (b8 (aM ji (aU dr (aU fJ (pv 5) ay) ay) ay (aZ _)) (ao (b9 (aC mv hr bg (aa (pv 3) (aa (pv 7) (aa (aU dr (aU fJ (pv 5) ay) (av az (by rfl) T.len aK (aa (pv 7) af))) (aa (aU dr (aU fJ (pv 5) ay) (av az (by rfl) T.len aK (aa (pv 7) af))) af))))))) (ag (jb (i:=8) bK.nd rfl (by first | exact Or.inl rfl | exact Or.inr rfl) (tg:=["_law_at"]) (fr:=[("_law_number",5)]) (by walk_at "blk_ok") rfl (cQ rfl T.range (aa (av az (by rfl) T.len aK (aa (pv 7) af)) af)) (fun _ _ _ _ _=>(aJ (i:=0) (show [("_law_at" : Str),("_law_number" : Str)].Nodup by decide +kernel) rfl (by first | exact Or.inl rfl | exact Or.inr rfl))) (fun _ _ _ _ _=>(fR (aM gw (aU dr (aU fK (aU fJ (pv 1) ay) (aU jh (pv 0) (aU fJ (pv 1) ay))) ay) ay (aZ _)))) (fun _ _ _ _ _=>(pv 0)))
   (ag (b8 (aM vI (av az (by rfl) T.len aK (aa (pv 8) af)) ay (aZ _)) (ao (aG (i:=8) bK.nd rfl (by first | exact Or.inl rfl | exact Or.inr rfl) (je rfl T.range T.list (av az (by rfl) T.len aK (aa (pv 7) af))))) aX)
   (ao (b9 (aC jO hr bg (aa (pv 3) (aa (pv 7) (aa (pv 8) af))))))))))))))
   (ao (aS (pv 3))))),?_⟩
  dsimp only [dO]
  walk_at "rd"
  refine fun b1 RO=>?_
  have e1:ah H (upd H b1 (.lst [.int 1,.int 3,.int 2])):=ah.upd RO
  have r1:upd H b1 (.lst [.int 1,.int 3,.int 2]) b1 = some (.lst (([1,3,2]:List Int).map V.int)):=ae
  generalize upd H b1 (.lst [.int 1,.int 3,.int 2]) = H1 at e1 r1 ⊢
  walk_at "rd"
  refine fun b2 BU=>?_
  have e2:ah H1 (upd H1 b2 (.lst [.int 2,.int 3,.int 0])):=ah.upd BU
  have r2:upd H1 b2 (.lst [.int 2,.int 3,.int 0]) b2 = some (.lst (([2,3,0]:List Int).map V.int)):=ae
  generalize upd H1 b2 (.lst [.int 2,.int 3,.int 0]) = H2 at e2 r2 ⊢
  walk_at "rd"
  refine fun b3 JT=>?_
  have e3:ah H2 (upd H2 b3 (.lst [.int 0,.int 3,.int 1])):=ah.upd JT
  have r3:upd H2 b3 (.lst [.int 0,.int 3,.int 1]) b3 = some (.lst (([0,3,1]:List Int).map V.int)):=ae
  generalize upd H2 b3 (.lst [.int 0,.int 3,.int 1]) = H3 at e3 r3 ⊢
  walk_at "rd"
  refine fun b4 Hw=>?_
  have e4:ah H3 (upd H3 b4 (.lst [.int 2,.int 0,.int 1])):=ah.upd Hw
  have r4:upd H3 b4 (.lst [.int 2,.int 0,.int 1]) b4 = some (.lst (([2,0,1]:List Int).map V.int)):=ae
  generalize upd H3 b4 (.lst [.int 2,.int 0,.int 1]) = H4 at e4 r4 ⊢
  walk_at "rd"
  refine ⟨by rw [PySem.sizeLine_eq]; simp,fun p hp=>?_⟩
  have e5:ah H4 (upd H4 p (.lst [.ref b1,.ref b2,.ref b3,.ref b4])):=ah.upd hp
  have p5:upd H4 p (.lst [.ref b1,.ref b2,.ref b3,.ref b4]) p = some (.lst [.ref b1,.ref b2,.ref b3,.ref b4]):=ae
  generalize upd H4 p (.lst [.ref b1,.ref b2,.ref b3,.ref b4]) = H5 at e5 p5 ⊢
  have Vo:b1≠b2:=aA r1 BU
  have GV:b1≠b3:=aA (e2 _ _ r1) JT
  have Vn:b1≠b4:=aA (e3 _ _ (e2 _ _ r1)) Hw
  have Vk:b2≠b3:=aA r2 JT
  have Vj:b2≠b4:=aA (e3 _ _ r2) Hw
  have Vi:b3≠b4:=aA r3 Hw
  have s1:=e5 _ _ (e4 _ _ (e3 _ _ (e2 _ _ r1)))
  have s2:=e5 _ _ (e4 _ _ (e3 _ _ r2))
  have s3:=e5 _ _ (e4 _ _ r3)
  have s4:=e5 _ _ r4
  have p1:p≠b1:=fun z=>by rw [z] at hp; rw [(e4 _ _ (e3 _ _ (e2 _ _ r1)))] at hp; cases hp
  have p2:p≠b2:=fun z=>by rw [z] at hp; rw [(e4 _ _ (e3 _ _ r2))] at hp; cases hp
  have p3:p≠b3:=fun z=>by rw [z] at hp; rw [(e4 _ _ r3)] at hp; cases hp
  have p4:p≠b4:=fun z=>by rw [z] at hp; rw [r4] at hp; cases hp
  have FH:=((e1.trans e2).trans e3).trans e4
  have e0:=FH.trans e5
  have g0:aQ H5 p [b1,b2,b3,b4] tetra:=by
   refine ⟨p5,rfl,fun i c l h1 h2=>?_⟩
   have hi:i = 0∨i = 1∨i = 2∨i = 3:=by
    have:=(List.getElem?_eq_some_iff.mp h1).1
    simp at this
    omega
   unfold tetra at h2
   rcases hi with rfl | rfl | rfl | rfl
   ·simp at h1 h2
    subst h1 h2
    exact s1
   ·simp at h1 h2
    subst h1 h2
    exact s2
   ·simp at h1 h2
    subst h1 h2
    exact s3
   ·simp at h1 h2
    subst h1 h2
    exact s4
  have Rh:(p :: [b1,b2,b3,b4]).Nodup:=by simp [p1,p2,p3,p4,Vo,GV,Vn,Vk,Vj,Vi]
  have R7:∀ b∈p :: [b1,b2,b3,b4],H b = none:=by
   intro b hb
   simp at hb
   rcases hb with rfl | rfl | rfl | rfl | rfl
   ·exact FH.free hp
   ·exact RO
   ·exact e1.free BU
   ·exact (e1.trans e2).free JT
   ·exact ((e1.trans e2).trans e3).free Hw
  clear s1 s2 s3 s4 r1 r2 r3 r4 e1 e2 e3 e4 e5 FH
  walk_at "rd"
  refine dh ?_
  refine ⟨_,rfl,(n:Int),rfl,by omega,by omega,?_⟩
  rw [Int.toNat_natCast]
  refine dU (fun k σ H1=>∃ (as:List Addr) (L:List (List Int)) (v4 v5 v6 v7 v8:Option V),σ = [some (.ref a),some (.int st),some (.int (n:Int)),some (.ref p),v4,v5,v6,v7,v8]∧ah H H1∧aQ H1 p as L∧(p :: as).Nodup∧(∀ b∈p :: as,H b = none)∧bb L∧jS L∧kb L∧4≤L.length∧L.length≤4 + k)
   ⟨[b1,b2,b3,b4],tetra,none,none,none,none,none,rfl,e0,g0,Rh,R7,tetra_sheet,tetra_smp,tetra_tri,by decide,by decide⟩ ?_ ?_
  ·clear e0 g0 Rh R7
   rintro k σ H1 hk ⟨as,L,v4,v5,v6,v7,v8,rfl,e1,g1,ou,qQ,nY,Fh,Fe,l4,hlen⟩
   simp only [Int.zero_add]
   have im:=nY.map
   have xS:=nY.xS (by omega)
   walk_at "rd"
   refine ⟨a,ns,st + k,rfl,e1.seq hS,by omega,by omega,fun num n0 n1=>?_⟩
   walk_at "rd"
   refine ⟨p,as,L,rfl,g1,im,by omega,by omega,fun t bs R H2 e2 t2 Zd W9 dec=>?_⟩
   have R0:=nY.pos dec
   have g2:=g1.same e2
   walk_at "rd"
   refine ⟨_,_,rfl,.inl ⟨_,aD.of t2.top,rfl⟩,?_⟩
   rw [List.length_map,t2.len,List.length_map]
   have hp:(0:Int) < (R.length:Int):=by omega
   walk_at "rd"
   have m0:=Int.emod_nonneg num (show (R.length:Int)≠0 by omega)
   have m1:=Int.emod_lt_of_pos num hp
   obtain ⟨mi,Ww⟩:=Int.eq_ofNat_of_zero_le m0
   rw [Ww] at m1 ⊢
   obtain ⟨rc,rl,Fx,Ew,me⟩:=t2.at (i:=mi) (by rw [List.length_map]; omega)
   rw [List.getElem?_map] at Ew
   obtain ⟨c,WN,rfl⟩:∃ c,R[mi]? = some c∧c.map (·.1) = rl:=by
    cases e:R[mi]? with
    | none=>rw [e] at Ew; cases Ew
    | some z=>rw [e] at Ew; exact ⟨z,rfl,Option.some.inj Ew⟩
   have Oe:=List.mem_of_getElem? WN
   have three:3≤(c.map (·.1)).length:=by rw [List.length_map]; exact nY.three (by omega) dec Oe
   obtain ⟨gd,TN,Ky⟩:=dec.good im Oe
   have LA:(sh 0 (c.map (·.1))).Nodup:=by rw [TN]; exact Ky
   have Ik:(c.map (·.1)).length≤(cT L L.length).length:=by
    rw [List.length_map]
    exact bN Ky fun d hd=>((dec.mem d).mp (List.mem_flatten.mpr ⟨c,Oe,hd⟩)).all
   have T6:=List.mem_of_getElem? Fx
   have Gk:=g1.iA (W9 rc (List.mem_cons_of_mem _ T6))
   have Gn:rc∉as:=fun z=>Gk (List.mem_cons_of_mem _ z)
   have T5:rc≠p:=fun z=>Gk (by rw [z]; exact List.mem_cons_self)
   generalize c.map (·.1) = r at gd LA Ik me three
   have Gh:(0:Int) < (r.length:Int):=by omega
   refine bj (aD.of t2.top) (t2.ix Fx) ?_
   walk_at "rd"
   refine if2 (fun RM=>?_) (fun Wn=>?_)
   ·walk_at "rd"
    refine ⟨_,_,rfl,.inl ⟨_,aD.of me,rfl⟩,?_⟩
    rw [List.length_map]
    walk_at "rd"
    refine ⟨_,_,rfl,.inl ⟨_,aD.of me,rfl⟩,?_⟩
    rw [List.length_map]
    walk_at "rd"
    have i0:=Int.emod_nonneg (num / 192) (show (r.length:Int)≠0 by omega)
    have i1:=Int.emod_lt_of_pos (num / 192) Gh
    have j0:=Int.emod_nonneg (num / 4096) (show (r.length:Int)≠0 by omega)
    have j1:=Int.emod_lt_of_pos (num / 4096) Gh
    obtain ⟨i,hi⟩:=Int.eq_ofNat_of_zero_le i0
    obtain ⟨j,hj⟩:=Int.eq_ofNat_of_zero_le j0
    rw [hi,hj]
    refine ⟨p,rc,as,L,r,i,j,rfl,g2,ou,me,Gn,nY,Fh,gd,LA,by omega,by omega,by omega,fun H3 L3 off g3 TQ Tx l3 Ts=>?_⟩
    exact ⟨as,L3,_,_,_,_,_,rfl,ah.off (e1.trans e2) (fun b hb=>qQ b (List.mem_cons_of_mem _ hb)) off,g3,ou,qQ,TQ,Tx,Fe.up l3 Ts,by omega,by omega⟩
   ·walk_at "rd"
    refine dR ?_
    refine ⟨_,rfl,_,_,rfl,.inl ⟨_,aD.of me,rfl⟩,(r.length:Int),by rw [List.length_map],by omega,by omega,?_⟩
    rw [Int.toNat_natCast]
    intro qa vT
    refine gs (fun i σ' ys H4=>∃ (cs:List Nat) (v:Option V),σ' = [v,some (.int num)]∧ys = (cs.map fun c:Nat=>(c:Int)).map V.int∧ah H2 H4∧H4 qa = some (.lst ys)∧cs.Pairwise (· < ·)∧(∀ c∈cs,c < i)∧cs.length≤i)
     ⟨[],none,rfl,rfl,ah.upd vT,ae,.nil,by simp,Nat.le_refl _⟩ ?_ ?_
    ·rintro i σ' ys H4 hi ⟨cs,v,rfl,rfl,e4,q4,c1,c2,c4⟩
     simp only [Int.zero_add]
     walk_at "rd"
     refine yy (Sz.GW (m:=20) (n:=40) (by unfold Sz; omega) (by unfold Sz; omega)) ?_
     walk_at "rd"
     refine gB (fun h3=>?_) (fun h3=>?_)
     ·walk_at "rd"
      refine ⟨q4,by rw [List.length_map,List.length_map]; exact aB (by omega),dN hi ⟨cs ++ [i],_,rfl,by simp,ah.fresh e4 vT,ae,?_,fun c hc=>?_,by rw [List.length_append,List.length_singleton]; omega⟩⟩
      ·rw [List.pairwise_append]
       refine ⟨c1,by simp,fun x hx y hy=>?_⟩
       rw [List.mem_singleton.mp hy]
       exact c2 x hx
      ·rcases List.mem_append.mp hc with z | z
       ·have:=c2 c z; omega
       ·rw [List.mem_singleton.mp z]; omega
     ·exact dN hi ⟨cs,_,rfl,rfl,e4,q4,c1,fun c hc=>by have:=c2 c hc; omega,by omega⟩
    ·rintro σ' ys H4 ⟨cs,v,rfl,rfl,e4,q4,c1,c2,c4⟩
     have GB:=g2.iA vT
     refine r_gname ?_
     try dsimp only
     refine DF (fun σ' H5=>∃ (q2:Addr) (cs:List Nat),σ' = [some (.ref a),some (.int st),some (.int (n:Int)),some (.ref p),some (.int (k:Int)),some (.int num),some (.ref t),some (.ref rc),some (.ref q2)]∧ah H2 H5∧q2∉p :: as∧H5 q2 = some (.lst ((cs.map fun c:Nat=>(c:Int)).map V.int))∧cs.Pairwise (· < ·)∧(∀ c∈cs,c < r.length)∧cs.length≤r.length∧3≤cs.length) ?_ ?_
     ·clear q4 c1 c2 c4 e4 GB vT
      rintro σ' H5 ⟨q2,cs,rfl,e6,CK,q5,c1,c2,c4,c5⟩
      walk_at "rd"
      refine ⟨p,rc,q2,as,L,r,cs,rfl,g2.same e6,ou,e6 _ _ me,Gn,q5,fun w=>CK (List.mem_cons_of_mem _ w),T5,fun w=>CK (by rw [w]; exact List.mem_cons_self),nY,Fh,gd,LA,by omega,c1,c2,by omega,by omega,fun H7 L7 nw off U2 g7 M6 QN Tw l7 Tr Y2=>?_⟩
      have xT:=(e1.trans e2).trans e6
      refine ⟨_,L7,_,_,_,_,_,rfl,ah.off xT qQ off,g7,M6,fun b hb=>?_,QN,Tw,Fe.more QN.map l7 Tr (by omega),by omega,by omega⟩
      rcases List.mem_cons.mp hb with w | w
      ·rw [w]; exact qQ p List.mem_cons_self
      ·rcases List.mem_append.mp w with w | w
       ·exact qQ b (List.mem_cons_of_mem _ w)
       ·rw [List.mem_singleton.mp w]; exact xT.free U2
     ·intro T1 hT
      walk_at "rd"
      refine ⟨_,_,rfl,.inl ⟨_,aD.of q4,rfl⟩,?_⟩
      rw [List.length_map,List.length_map]
      walk_at "rd"
      refine if2 (fun eG=>?_) (fun Hn=>?_)
      ·walk_at "rd"
       refine oi ?_
       walk_at "rd"
       refine ⟨_,_,rfl,.inl ⟨_,aD.of (e4 _ _ me),rfl⟩,r.length,by rw [List.length_map],by omega,fun q2 Ez=>?_⟩
       have e5:ah H4 (upd H4 q2 (.lst ((aT r.length).map V.int))):=ah.upd Ez
       have q5:upd H4 q2 (.lst ((aT r.length).map V.int)) q2 = some (.lst (((List.range r.length).map fun c:Nat=>(c:Int)).map V.int)):=ae
       generalize upd H4 q2 (.lst ((aT r.length).map V.int)) = H5 at e5 q5 ⊢
       walk_at "rd"
       exact hT _ _ ⟨q2,List.range r.length,rfl,e4.trans e5,(g2.same e4).iA Ez,q5,List.pairwise_lt_range,fun c hc=>List.mem_range.mp hc,by simp,by simp; omega⟩
      ·exact hT _ _ ⟨qa,cs,rfl,e4,GB,q4,c1,c2,c4,by omega⟩
  ·rintro σ H1 ⟨as,L,v4,v5,v6,v7,v8,rfl,e1,g1,ou,qQ,nY,Fh,Fe,l4,hlen⟩
   walk_at "rd"
   exact q p as L H1 e1 g1 (qQ p List.mem_cons_self) nY Fh Fe l4 hlen
theorem dX:aR ["_law_script", "_law_start", "_law_orders", "_law_found", "_law_k", "_law_at"] ["_law_script", "_law_start", "_law_orders"] (ak b7):=⟨rfl,rfl,rfl,by decide +kernel,rfl,by decide +kernel,by decide +kernel⟩
theorem nh (D:Def K mg "_law_begun" b7 ["_law_script", "_law_start", "_law_orders"]) (T:Txt K mg Z) (dM:du P w K mg base (cM P w) "_law_mixed" 2 ["_law_script", "_law_k"] (fO K)):du P w K mg base (cM P w) "_law_begun" 3 ["_law_script", "_law_start", "_law_orders"] (rK K):=by
 refine D.eI dX (fun vs H Q E h=>?_) (fun f dH A outer s H vs Q E hr h=>?_)
 ·obtain ⟨a,p,ns,st,as,A,rfl,_⟩:=h; rfl
 ·obtain ⟨a,p,ns,st,as,A,rfl,hS,s0,s1,g,hn,Ew,q⟩:=h
  refine ⟨_,(ag (aG (i:=3) dX.nd rfl (by first | exact Or.inl rfl | exact Or.inr rfl) (cL af))
   (ag (cg PassesOwn.never rfl (cQ rfl T.range (aa (av az (by rfl) T.len aK (aa (pv 2) af)) af)) (aJ (i:=4) dX.nd rfl (by first | exact Or.inl rfl | exact Or.inr rfl))
   (ag (aG (i:=5) dX.nd rfl (by first | exact Or.inl rfl | exact Or.inr rfl) (aU dr (aC dM hr bg (aa (pv 0) (aa (aU fK (pv 1) (pv 4)) af))) (av (xE rfl) (by rfl) T.max EZ (aa ay (aa (av az (by rfl) T.len aK (aa (bp aO (pv 2) (pv 4) (fun _ _=>rfl)) af)) af)))))
   (ao (b9 (di PySem.F.plainAttrs_list PySem.F.slot_list_append PySem.F.type_list_append bT (pv 3) (aa (aU pI (d7 fY (bp aO (pv 2) (pv 4) (fun _ _=>rfl)) (fv (pv 5)) fz) (d7 fY (bp aO (pv 2) (pv 4) (fun _ _=>rfl)) fz (fv (pv 5)))) af))))))
   (ao (aS (pv 3))))),?_⟩
  dsimp only [dO]
  walk_at "rd"
  refine ⟨Nat.zero_le _,fun fd FC=>?_⟩
  have e1:ah H (upd H fd (.lst [])):=ah.upd FC
  refine dh ?_
  refine ⟨_,rfl,_,_,rfl,.inl ⟨_,aD.of (e1 _ _ g.top),rfl⟩,(A.length:Int),by rw [List.length_map,g.len],by omega,by omega,?_⟩
  rw [Int.toNat_natCast]
  refine dU (fun i σ H1=>∃ (cs:List Addr) (R:List (List Int)) (v4 v5:Option V),σ = [some (.ref a),some (.int st),some (.ref p),some (.ref fd),v4,v5]∧ah H H1∧aQ H1 fd cs R∧fd∉cs∧R.length = i∧∀ (j:Nat) (r l:List Int),R[j]? = some r→A[j]? = some l→aW r l)
   ⟨[],[],none,none,rfl,e1,⟨ae,rfl,fun i b l z=>by simp at z⟩,by simp,rfl,fun j r l z=>by simp at z⟩ ?_ ?_
  ·rintro i σ H1 hi ⟨cs,R,v4,v5,rfl,e2,g2,na,rl,rows⟩
   simp only [Int.zero_add]
   obtain ⟨b,r,ha,j7,bO⟩:=g.at hi
   have rs:=Ew r (List.mem_of_getElem? j7)
   have iD:=e2 _ _ bO
   walk_at "rd"
   refine ⟨a,ns,_,rfl,e2.seq hS,by omega,by omega,fun nb b0 b1=>?_⟩
   walk_at "rd"
   refine bj (aD.of (e2 _ _ g.top)) (g.ix ha) ?_
   walk_at "rd"
   refine ⟨_,_,rfl,.inl ⟨_,aD.of iD,rfl⟩,?_⟩
   rw [List.length_map]
   walk_at "rd"
   refine ⟨_,_,rfl,?_⟩
   obtain ⟨mx,Wu,Wx,N2⟩:∃ mx:Int,(if (r.length:Int) > 1 then (r.length:Int) else 1) = mx∧0 < mx∧(mx = r.length∨(mx = 1∧r.length = 0)):=by
    by_cases z:(r.length:Int) > 1
    ·exact ⟨_,if_pos z,by omega,by omega⟩
    ·exact ⟨_,if_neg z,by omega,by omega⟩
   rw [Wu]
   walk_at "rd"
   have d0:=Int.emod_nonneg nb (show mx≠0 by omega)
   have d1:=Int.emod_lt_of_pos nb Wx
   obtain ⟨k,hk⟩:∃ k:Nat,nb % mx = (k:Int):=⟨_,(Int.toNat_of_nonneg d0).symm⟩
   rw [hk] at d1 ⊢
   have kl:k≤r.length:=by omega
   refine ⟨.inl ⟨rfl,_,aD.of g2.top⟩,?_⟩
   walk_at "rd"
   refine vc ?_
   walk_at "rd"
   refine bj (aD.of (e2 _ _ g.top)) (g.ix ha) ?_
   refine ⟨_,rfl,⟨_,rfl,⟨b,_,rfl,aD.of iD,fun p1 BO=>?_⟩⟩⟩
   rw [mJ kl]
   have e3:ah H1 (upd H1 p1 (.lst ((r.drop k).map V.int))):=ah.upd BO
   refine vc ?_
   walk_at "rd"
   refine bj (aD.of (e3 _ _ (e2 _ _ g.top))) (g.ix ha) ?_
   refine ⟨_,rfl,⟨_,rfl,⟨b,_,rfl,aD.of (e3 _ _ iD),fun p2 xj=>?_⟩⟩⟩
   rw [mH kl]
   have e4:=e3.trans (ah.upd (o:=.lst ((r.take k).map V.int)) xj)
   have x1:upd (upd H1 p1 (.lst ((r.drop k).map V.int))) p2 (.lst ((r.take k).map V.int)) p1 = some (.lst ((r.drop k).map V.int)):=by rw [ax (aA ae xj)]; exact ae
   refine ⟨p1,p2,_,_,rfl,rfl,x1,ae,by rw [List.length_map,List.length_map,List.length_drop,List.length_take,PySem.sizeLine_eq]; omega,fun d hd=>?_⟩
   generalize upd (upd H1 p1 (.lst ((r.drop k).map V.int))) p2 (.lst ((r.take k).map V.int)) = H3 at e4 x1 hd ⊢
   have er:(r.drop k).map V.int ++ (r.take k).map V.int = (bM r k).map V.int:=by unfold bM; rw [List.map_append]
   rw [er]
   have e5:=e4.trans (ah.upd (o:=.lst ((bM r k).map V.int)) hd)
   have d5:upd H3 d (.lst ((bM r k).map V.int)) d = some (.lst ((bM r k).map V.int)):=ae
   have nd:d≠fd:=fun z=>by rw [z] at hd; exact absurd (e4 _ _ g2.top) (by rw [hd]; simp)
   generalize upd H3 d (.lst ((bM r k).map V.int)) = H5 at e5 d5 ⊢
   have g5:=g2.same e5
   walk_at "rd"
   refine cY g5.top (by rw [List.length_map,g5.len]; exact aB (by omega)) ?_
   refine ⟨cs ++ [d],R ++ [bM r k],_,_,rfl,ah.fresh (e2.trans e5) FC,g5.snoc na nd d5,?_,by rw [List.length_append,rl]; rfl,fun j r' l' h1 h2=>?_⟩
   ·intro z
    rcases List.mem_append.mp z with z | z
    ·exact na z
    ·exact nd (List.mem_singleton.mp z).symm
   ·by_cases z:j < R.length
    ·rw [List.getElem?_append_left z] at h1
     exact rows j r' l' h1 h2
    ·have jl:=(List.getElem?_eq_some_iff.mp h1).1
     rw [List.length_append,List.length_singleton] at jl
     have ej:j = i:=by omega
     subst ej
     rw [List.getElem?_append_right (by omega),rl,Nat.sub_self] at h1
     rw [j7] at h2
     cases h2
     have e':bM r k = r':=by simpa using h1
     rw [← e']
     rcases N2 with N2 | ⟨N2,z0⟩
     ·exact .inr ⟨k,by omega,rfl⟩
     ·have:r = []:=List.length_eq_zero_iff.mp z0
      subst this
      exact .inl (by unfold bM; simp)
  ·rintro σ H1 ⟨cs,R,v4,v5,rfl,e2,g2,na,rl,rows⟩
   walk_at "rd"
   exact q fd cs R H1 e2 g2 FC rl rows
theorem cA:aR ["_law_orders", "_law_found", "_law_rings_here", "_law_place"] ["_law_orders"] (ak aY):=⟨rfl,rfl,rfl,by decide +kernel,rfl,by decide +kernel,by decide +kernel⟩
theorem iw (D:Def K mg "_law_lands_round" aY ["_law_orders"]) (T:Txt K mg Z) (eT:du P w K mg base (cM P w) "lands" 3 ["orders"] gI):du P w K mg base (cM P w) "_law_lands_round" 4 ["_law_orders"] rC:=by
 refine D.eI cA (fun vs H Q E h=>?_) (fun f dH A outer s H vs Q E hr h=>?_)
 ·obtain ⟨p,as,L,rfl,_⟩:=h; rfl
 ·obtain ⟨p,as,L,rfl,g,im,hn,hd,q⟩:=h
  refine ⟨_,(ag (aG (i:=1) cA.nd rfl (by first | exact Or.inl rfl | exact Or.inr rfl) (cL af))
   (ag (aG (i:=2) cA.nd rfl (by first | exact Or.inl rfl | exact Or.inr rfl) (aC eT hr bg (aa (pv 0) af)))
   (ag (cg PassesOwn.never rfl (cQ rfl T.range (aa (av az (by rfl) T.len aK (aa (pv 0) af)) af)) (aJ (i:=3) cA.nd rfl (by first | exact Or.inl rfl | exact Or.inr rfl))
   (ao (b9 (di PySem.F.plainAttrs_list PySem.F.slot_list_append PySem.F.type_list_append bT (pv 1) (aa (fB (tg:=["_law_number"]) (fr:=[("_law_place",3),("_law_rings_here",2)]) (by walk_at "blk_ok") rfl (cQ rfl T.range (aa (av az (by rfl) T.len aK (aa (pv 2) af)) af)) (fun _ _ _ _ _=>(aJ (i:=0) (show [("_law_number" : Str),("_law_place" : Str),("_law_rings_here" : Str)].Nodup by decide +kernel) rfl (by first | exact Or.inl rfl | exact Or.inr rfl))) (fun _ _ _ _ _=>(fR (aM (ug (K:=K) rfl) (pv 1) (bp (jt (K:=K) rfl) (pv 2) (pv 0) (fun _ _=>rfl)) (by with_unfolding_all rfl)))) (fun _ _ _ _ _=>(pv 0))) af)))))
   (ao (aS (pv 1)))))),?_⟩
  dsimp only [dO]
  walk_at "rd"
  refine ⟨Nat.zero_le _,fun fd FC=>?_⟩
  have e1:ah H (upd H fd (.lst [])):=ah.upd FC
  have x1:upd H fd (.lst []) fd = some (.lst []):=ae
  generalize upd H fd (.lst []) = H1 at e1 x1 ⊢
  walk_at "rd"
  refine ⟨p,as,L,rfl,g.same e1,im,by omega,hd,fun t ts R H2 e2 t2 CN Xe lR=>?_⟩
  have gF:=e1.trans e2
  have xS:=ow lR
  walk_at "rd"
  refine dh ?_
  refine ⟨_,rfl,_,_,rfl,.inl ⟨_,aD.of (gF _ _ g.top),rfl⟩,(L.length:Int),by rw [List.length_map,g.len],by omega,by omega,?_⟩
  rw [Int.toNat_natCast]
  refine dU (fun i σ H3=>∃ (cs:List Addr) (v:Option V),σ = [some (.ref p),some (.ref fd),some (.ref t),v]∧ah H H3∧aQ H3 t ts R∧fd∉t :: ts∧aQ H3 fd cs ((aT i).map (iT R))∧fd∉cs)
   ⟨[],none,rfl,gF,t2,(fun z=>by have:=Xe fd z; rw [x1] at this; cases this),⟨e2 _ _ x1,rfl,fun i b l z=>by simp at z⟩,by simp⟩ ?_ ?_
  ·rintro i σ H3 hi ⟨cs,v,rfl,e3,t3,JD,g3,na⟩
   simp only [Int.zero_add]
   walk_at "rd"
   refine ⟨.inl ⟨rfl,_,aD.of g3.top⟩,?_⟩
   walk_at "rd"
   refine dR ?_
   refine ⟨_,rfl,_,_,rfl,.inl ⟨_,aD.of t3.top,rfl⟩,(R.length:Int),by rw [List.length_map,t3.len],by omega,by omega,fun acc bI=>?_⟩
   rw [Int.toNat_natCast]
   refine gs (fun j σ' ys H4=>∃ v:Option V,σ' = [v,some (.int (i:Int)),some (.ref t)]∧ys = (((aT j).filter fun z=>decide ((i:Int)∈rowOf R z))).map V.int∧ah H3 H4∧H4 acc = some (.lst ys)∧ys.length≤j)
    ⟨none,rfl,rfl,ah.upd bI,ae,Nat.le_refl _⟩ ?_ ?_
   ·rintro j σ' ys H4 hj ⟨v,rfl,ey,e4,a4,yl⟩
    simp only [Int.zero_add]
    obtain ⟨b,r,hb,j7,bO⟩:=(t3.same e4).at (i:=j) hj
    have er:=cP j7
    walk_at "rd"
    refine bj (aD.of (t3.same e4).top) ((t3.same e4).ix hb) ?_
    refine wL (aD.of bO) ?_
    rw [if_neg (by decide)]
    walk_at "rd"
    refine if2 (fun Fz=>?_) (fun zx=>?_)
    ·walk_at "rd"
     refine ⟨a4,aB (by omega),dN hj ⟨_,rfl,?_,ah.fresh e4 bI,ae,by rw [List.length_append,List.length_singleton]; omega⟩⟩
     rw [h9,List.filter_append,List.map_append,ey,List.filter_cons,er,decide_eq_true Fz,List.filter_nil]
     rfl
    ·refine dN hj ⟨_,rfl,?_,e4,a4,by omega⟩
     rw [h9,List.filter_append,List.map_append,ey,List.filter_cons,er,decide_eq_false zx,List.filter_nil]
     simp
   ·rintro σ' ys H4 ⟨v,rfl,rfl,e4,a4,yl⟩
    have g4:=g3.same e4
    have GS:acc≠fd:=fun z=>by rw [z,g3.top] at bI; cases bI
    refine oh ?_
    refine cY g4.top (by rw [List.length_map,g4.len,List.length_map,bh]; exact aB (by omega)) ?_
    refine ⟨cs ++ [acc],_,rfl,ah.fresh (e3.trans e4) FC,?_,JD,?_,?_⟩
    ·have t4:=t3.same e4
     refine ⟨by rw [ax (show t≠fd from fun z=>JD (by rw [z]; exact List.mem_cons_self))]; exact t4.top,t4.len,fun k b l h1 h2=>?_⟩
     rw [ax (show b≠fd from fun z=>JD (List.mem_cons_of_mem _ (by rw [← z]; exact List.mem_of_getElem? h1)))]
     exact t4.row k b l h1 h2
    ·rw [h9,List.map_append]
     exact g4.snoc na GS a4
    ·intro z
     rcases List.mem_append.mp z with z | z
     ·exact na z
     ·exact GS (List.mem_singleton.mp z).symm
  ·rintro σ H3 ⟨cs,v,rfl,e3,t3,JD,g3,na⟩
   walk_at "rd"
   exact q R fd cs H3 lR e3 g3
theorem gL:aR ["_law_script", "_law_orders", "_law_other", "_law_home", "_law_places", "_law_names", "_law_ring", "_law_found"] ["_law_script"] (ak i6):=⟨rfl,rfl,rfl,by decide +kernel,rfl,by decide +kernel,by decide +kernel⟩
theorem DX {fa:Addr} {fd:FuncData} (F:E9 K "law" "law" i6 fa fd) (T:Txt K mg Z)
  (zJ:du P w K mg base (cM P w) "looked" 2 ["orders"] nV) (qj:du P w K mg base (cM P w) "ties" 1 ["orders"] oV) (BV:du P w K mg base (cM P w) "hangs" 2 ["orders"] rG) (eT:du P w K mg base (cM P w) "lands" 3 ["orders"] gI) (BW:du P w K mg base (cM P w) "count" 4 ["orders"] rJ) (j8:du P w K mg base (cM P w) "other_map" 4 ["orders"] rE) (oA:du P w K mg base (cM P w) "renamed" 1 ["orders", "names"] (jX Z.kW)) (zI:du P w K mg base (cM P w) "same" 3 ["one", "other"] rB) (BX:du P w K mg base (cM P w) "alike" 3 ["one", "other"] rL) (dM:du P w K mg base (cM P w) "_law_mixed" 2 ["_law_script", "_law_k"] (fO K)) (qo:du P w K mg base (cM P w) "_law_tight" 3 ["_law_script", "_law_start", "_law_steps"] (rz K)) (qu:du P w K mg base (cM P w) "_law_begun" 3 ["_law_script", "_law_start", "_law_orders"] (rK K)) (iL:du P w K mg base (cM P w) "_law_lands_round" 4 ["_law_orders"] rC):nK P w K mg base (cM P w) 10 fa fd ["_law_script"] (oW K):=by
 refine F.okN gL (fun vs H Q E h=>?_) (fun dH A0 outer s H vs Q E hr h=>?_)
 ·obtain ⟨a,ns,rfl,_⟩:=h; rfl
 ·obtain ⟨a,ns,rfl,hS,hlen,kq⟩:=h
  refine ⟨_,(ag (aG (i:=1) gL.nd rfl (by first | exact Or.inl rfl | exact Or.inr rfl) (aC qu hr bg (aa (pv 0) (aa ay (aa (aC qo hr bg (aa (pv 0) (aa ay (aa (aU dr (aC dM hr bg (aa (pv 0) (aa ay af))) ay) af)))) af)))))
   (ag (aG (i:=2) gL.nd rfl (by first | exact Or.inl rfl | exact Or.inr rfl) (aC j8 hr bg (aa (pv 1) af)))
   (ag (b8 (PW.pt (pw_or (iK (pH (aC zJ hr bg (aa (pv 2) af)))) (pw_or (yI (tW (aC BV hr bg (aa (pv 2) af)))) (pw_or1 (aM gw (aC BW hr bg (aa (pv 2) af)) ay (aZ _)))))) (ao (aS fe)) aX)
   (ag (b8 (PW.pt (pw_or (aM gw (av az (by rfl) T.len aK (aa (pv 2) af)) (av az (by rfl) T.len aK (aa (aC eT hr bg (aa (pv 1) af)) af)) (aZ _)) (pw_or1 (aM gw (av az (by rfl) T.len aK (aa (aC eT hr bg (aa (pv 2) af)) af)) (av az (by rfl) T.len aK (aa (pv 1) af)) (aZ _))))) (ao (aS fe)) aX)
   (ag (b8 (aM gw (av az (by rfl) T.len aK (aa (aC qj hr bg (aa (pv 2) af)) af)) (av az (by rfl) T.len aK (aa (aC qj hr bg (aa (pv 1) af)) af)) (aZ _)) (ao (aS fe)) aX)
   (ag (aG (i:=3) gL.nd rfl (by first | exact Or.inl rfl | exact Or.inr rfl) (aC j8 hr bg (aa (pv 2) af)))
   (ag (aG (i:=4) gL.nd rfl (by first | exact Or.inl rfl | exact Or.inr rfl) (aC iL hr bg (aa (pv 1) af)))
   (ag (aG (i:=5) gL.nd rfl (by first | exact Or.inl rfl | exact Or.inr rfl) (cL af))
   (ag (cg PassesOwn.never rfl (cD (aC eT hr bg (aa (pv 2) af))) (aJ (i:=6) gL.nd rfl (by first | exact Or.inl rfl | exact Or.inr rfl))
   (ag (b8 (aM (wQ hr.units) (av fG (by rfl) T.sorted fX (aa (pv 6) af)) (pv 4) (by with_unfolding_all rfl)) (ao (aS fe)) aX)
   (ao (b9 (di PySem.F.plainAttrs_list PySem.F.slot_list_append PySem.F.type_list_append bT (pv 5) (aa (di PySem.F.plainAttrs_list PySem.F.slot_list_index PySem.F.type_list_index (wZ hr.units) (pv 4) (aa (av fG (by rfl) T.sorted fX (aa (pv 6) af)) af)) af))))))
   (ag (b8 (yI (tW (aC zI hr bg (aa (aC oA hr bg (aa (pv 3) (aa (pv 5) af))) (aa (pv 1) af))))) (ao (aS fe)) aX)
   (ag (aG (i:=7) gL.nd rfl (by first | exact Or.inl rfl | exact Or.inr rfl) (aC BX hr bg (aa (pv 3) (aa (pv 1) af))))
   (ao (aS (pG (DR (pH (pv 7))) (pG (jg (DU (qS hr)) (pv 7) (pv 5) (aZ _)) (tY (aC zI hr bg (aa (aC oA hr bg (aa (pv 3) (aa (pv 7) af))) (aa (pv 1) af))))))))))))))))))),?_⟩
  dsimp only [dO]
  walk_at "rd"
  refine ⟨a,ns,0,rfl,hS,by decide,by decide,fun n0 Zi Zh=>?_⟩
  walk_at "rd"
  have m0:=Int.emod_nonneg n0 (show (7:Int)≠0 by decide)
  have m1:=Int.emod_lt_of_pos n0 (show (0:Int) < 7 by decide)
  obtain ⟨m,hm⟩:=Int.eq_ofNat_of_zero_le m0
  rw [hm]
  refine ⟨a,ns,3,m,rfl,hS,by decide,by decide,by omega,fun p0 X0 B H1 e1 g1 f1 Jl QM FT B4 Bn=>?_⟩
  walk_at "rd"
  have BB:∀ {M:List (List Int)} (_:aw M) (_:M.length≤60),∀ l∈M,l.Nodup∧l.length≤60:=fun im hM r hr=>by
   obtain ⟨i,hi⟩:=List.mem_iff_getElem?.mp hr
   have:=bC (im.nd _ _ hi) fun y hy=>⟨(im.rg _ _ hi y hy).1,(im.rg _ _ hi y hy).2.1⟩
   exact ⟨im.nd _ _ hi,by omega⟩
  refine ⟨a,p0,ns,70,X0,B,rfl,e1.seq hS,by decide,by decide,g1,by omega,fun l hl=>(BB Jl.map (by omega) l hl).2,fun p as A H2 e2 gA fp lA Gj=>?_⟩
  have rm:bJ A B:=⟨lA,Gj⟩
  have xN:=rm.jZ Jl
  have Ds:=rm.Fh Jl.map QM
  have FU:=rm.Fe FT
  have A4:4≤A.length:=by omega
  have Z1:A.length≤10:=by omega
  have BH:=xN.map
  clear rm Gj lA Jl QM FT B4 Bn g1
  have gF:=e1.trans e2
  have B2:=xN.xS (by omega)
  walk_at "rd"
  refine ⟨p,as,A,rfl,gA,BH,by omega,B2,fun R ld=>FU.eU xN Ds A4 ld,fun R o os H3 ld e3 gO=>?_⟩
  have eU:=FU.eU xN Ds A4 ld
  have Ar:=mE ld BH eU
  have lR:=xN.lands A4 ld
  have lO:(Du R).length = R.length:=dD
  have R0:0 < R.length:=by have:=xN.pos ld.dec; rw [List.length_map] at this; exact this
  have ET:=FU.ET xN Ds A4 ld
  have hO:=ET.zH xN.zH (by omega)
  have B1:(cT (Du R) (Du R).length).length < 128:=by rw [ET.cT]; exact B2
  have W3:=gA.same e3
  have ER:=gF.trans e3
  walk_at "rd"
  refine ⟨o,os,Du R,rfl,gO,Ar,by omega,fun H4 e4=>?_⟩
  walk_at "rd"
  rw [decide_eq_true rfl]
  walk_at "rd"
  refine ⟨o,os,Du R,rfl,gO.same e4,by omega,by omega,Ar,fun ks H5 e5 nd al=>?_⟩
  have kl:(ks.length:Int) = (Du R).length:=by
   have h1:=Fl.len Ar ⟨Int.le_refl 0,by omega⟩ nd fun x hx=>(al x).mp hx
   have h2:=bN (l:=aT (Du R).length) (r:=ks) (eK _) fun x hx=>by
    have:=aV.mp hx
    exact (al _).mpr (hO x this.1 this.2)
   rw [bh] at h2
   omega
  rw [decide_eq_true kl]
  walk_at "rd"
  refine ⟨o,os,Du R,rfl,(gO.same e4).same e5,Ar,by omega,B1,fun S H6 e6 ls=>?_⟩
  have D:=FU.OS xN Ds A4 ld ls
  rw [show ((Du R).length:Int) + S.length - (eh (Du R) (Du R).length).length + iso (Du R) = 2 from D.EU xN A4]
  have Sf:=(e4.trans e5).trans e6
  have R4:=W3.same Sf
  have JZ:=gO.same Sf
  have lS:=D.len
  walk_at "rd"
  rw [decide_eq_true rfl]
  walk_at "rd"
  refine ⟨_,_,rfl,.inl ⟨_,aD.of JZ.top,rfl⟩,?_⟩
  rw [List.length_map,JZ.len]
  walk_at "rd"
  refine ⟨p,as,A,rfl,R4,BH,by omega,B2,fun t ts R2 H7 e7 g7 _ _ VF=>?_⟩
  obtain rfl:R = R2:=ld.unique VF
  walk_at "rd"
  refine ⟨_,_,rfl,.inl ⟨_,aD.of g7.top,rfl⟩,?_⟩
  rw [lO,List.length_map,g7.len]
  walk_at "rd"
  rw [decide_eq_true rfl]
  walk_at "rd"
  refine ⟨o,os,Du R,rfl,JZ.same e7,Ar,by omega,B1,fun t2 YS S2 H8 e8 g8 _ _ Vt=>?_⟩
  obtain rfl:S = S2:=ls.unique Vt
  have Se:=e7.trans e8
  have J1:=R4.same Se
  have RZ:=JZ.same Se
  walk_at "rd"
  refine ⟨_,_,rfl,.inl ⟨_,aD.of g8.top,rfl⟩,?_⟩
  rw [List.length_map,g8.len]
  walk_at "rd"
  refine ⟨_,_,rfl,.inl ⟨_,aD.of J1.top,rfl⟩,?_⟩
  rw [List.length_map,J1.len,lS]
  walk_at "rd"
  rw [decide_eq_true rfl]
  walk_at "rd"
  refine ⟨o,os,Du R,rfl,RZ,by omega,Ar,fun u1 YR H9 e9 _ u9 Uo=>?_⟩
  walk_at "rd"
  refine ⟨_,_,rfl,.inl ⟨_,aD.of u9,rfl⟩,?_⟩
  rw [List.length_map,Uo.len]
  walk_at "rd"
  refine ⟨p,as,A,rfl,J1.same e9,by omega,BH,fun u2 YQ Cr B7 _ S0 LV=>?_⟩
  walk_at "rd"
  refine ⟨_,_,rfl,.inl ⟨_,aD.of S0,rfl⟩,?_⟩
  rw [D.FI,List.length_map,LV.len]
  have HR:=e9.trans B7
  have Oy:=J1.same HR
  have HE:=RZ.same HR
  walk_at "rd"
  rw [decide_eq_true rfl]
  walk_at "rd"
  refine ⟨o,os,Du R,rfl,HE,Ar,by omega,B1,fun S3 Na=>by obtain rfl:=ls.unique Na; exact D.C4,fun S3 x xs KN Na Sj gH=>?_⟩
  obtain rfl:S = S3:=ls.unique Na
  have HM:=Oy.same Sj
  have Ox:=HE.same Sj
  walk_at "rd"
  refine ⟨p,as,A,rfl,HM,BH,by omega,B2,fun R3 y ys I8 VE OQ gP=>?_⟩
  obtain rfl:R = R3:=ld.unique VE
  have HL:=HM.same OQ
  have Ow:=Ox.same OQ
  have HI:=gH.same OQ
  walk_at "rd"
  refine ⟨Nat.zero_le _,fun nm RF=>?_⟩
  have FG:ah I8 (upd I8 nm (.lst [])):=ah.upd RF
  have GV:upd I8 nm (.lst []) nm = some (.lst []):=ae
  generalize upd I8 nm (.lst []) = ZV at FG GV ⊢
  walk_at "rd"
  have W4:=HL.same FG
  have Ov:=Ow.same FG
  have W2:=HI.same FG
  have W0:=gP.same FG
  have VX:∀ k,k < S.length→∃ b:Int,0≤b∧b < A.length∧io A R S b = k:=fun k hk=>D.p9 hk
  have idx:∀ b:Int,0≤b→b < A.length→iT R b∈(aT A.length).map (iT R)∧((((aT A.length).map (iT R)).idxOf (iT R b):Nat):Int) = b:=fun b b0 b1=>by
   have hm:iT R b∈(aT A.length).map (iT R):=List.mem_map.mpr ⟨b,aV.mpr ⟨b0,b1⟩,rfl⟩
   refine ⟨hm,?_⟩
   have il:=List.idxOf_lt_length_of_mem hm
   have e:=List.getElem_idxOf il
   rw [List.length_map,bh] at il
   have eu:(aT A.length)[((aT A.length).map (iT R)).idxOf (iT R b)]'(by rw [bh]; exact il) = ((((aT A.length).map (iT R)).idxOf (iT R b):Nat):Int):=(List.getElem?_eq_some_iff.mp (uS il)).2
   rw [List.getElem_map,eu] at e
   exact Cd FU xN Ds A4 ld (by omega) (by omega) e
  refine dh (Bd (lC (lB (r_var rfl (oh ?_)))))
  refine ⟨o,os,Du R,rfl,Ov,Ar,by omega,B1,fun t3 KS S4 ZU Si OB _ OC Vs=>?_⟩
  obtain rfl:S = S4:=ls.unique Vs
  have nn:nm∉t3 :: KS:=fun z=>by have:=OC nm z; rw [GV] at this; cases this
  have HU:=FG.trans Si
  refine ⟨t3,rfl,⟨_,aD.of OB.top⟩,eg (K:=K) (a:=t3) (xs:=KS.map V.ref) (fun k σ AK=>∃ (nl:List Int) (v:Option V),σ = [some (.ref a),some (.ref p),some (.ref o),some (.ref x),some (.ref y),some (.ref nm),v,none]∧ah I8 AK∧aQ AK t3 KS S∧AK nm = some (.lst (nl.map V.int))∧nl.length = k∧∀ j:Nat,j < k→(0≤fD nl (j:Int)∧fD nl (j:Int) < A.length)∧io A R S (fD nl (j:Int)) = j)
   ⟨[],none,rfl,HU,OB,Si _ _ GV,rfl,fun j hj=>by omega⟩ (fun k σ AK _ ⟨_,_,_,_,g,_⟩=>aD.of g.top) ?_ ?_⟩
  ·rintro k z σ AK hz ⟨nl,v,rfl,HS,OA,GU,nk,all⟩
   have hk:k < S.length:=by
    have:=(List.getElem?_eq_some_iff.mp hz).1
    rw [List.length_map,OA.len] at this
    exact this
   obtain ⟨b,q,hb,hq,bO⟩:=OA.at hk
   obtain rfl:z = V.ref b:=by
    rw [List.getElem?_map,hb] at hz
    exact (Option.some.inj hz).symm
   obtain ⟨c,c0,c1,ec⟩:=VX k hk
   obtain ⟨k2,q2,Ez,ZE,Zk,_⟩:=D.ring c0 c1
   have Xi:k2 = k:=by omega
   subst Xi
   rw [hq] at Ez
   cases Ez
   have Vu:(rowOf A c).length≤60:=(BB BH (by omega) _ (List.mem_of_getElem? (aq c0 c1))).2
   have EM:=gP.same HS
   obtain ⟨hm,WD⟩:=idx c c0 c1
   walk_at "rd"
   refine ⟨b,q,rfl,aD.of bO,by omega,fun q' pq pm so CV=>?_⟩
   have Xg:=D.sorted Ds c0 c1 hq ec pm so
   subst Xg
   have xT:ah AK (upd AK pq (.lst ((iT R c).map V.int))):=ah.upd CV
   have Q0:upd AK pq (.lst ((iT R c).map V.int)) pq = some (.lst ((iT R c).map V.int)):=ae
   generalize upd AK pq (.lst ((iT R c).map V.int)) = I0 at xT Q0 ⊢
   walk_at "rd"
   refine ⟨pq,y,ys,_,iT R c,rfl,rfl,Q0,EM.same xT,?_⟩
   rw [if_pos rfl,decide_eq_true hm]
   walk_at "rd"
   have Vm:=xT _ _ GU
   refine ⟨.inl ⟨rfl,_,aD.of Vm⟩,?_⟩
   walk_at "rd"
   refine ⟨.inl ⟨rfl,_,aD.of (EM.same xT).top⟩,?_⟩
   walk_at "rd"
   refine ⟨b,q,rfl,aD.of (xT _ _ bO),by omega,fun Y8 GF L5 Tv NT=>?_⟩
   have eq2:=D.sorted Ds c0 c1 hq ec L5 Tv
   subst eq2
   have Kv:ah I0 (upd I0 GF (.lst ((iT R c).map V.int))):=ah.upd NT
   have QZ:upd I0 GF (.lst ((iT R c).map V.int)) GF = some (.lst ((iT R c).map V.int)):=ae
   generalize upd I0 GF (.lst ((iT R c).map V.int)) = Yq at Kv QZ ⊢
   have j9:=xT.trans Kv
   walk_at "rd"
   refine ⟨GF,y,ys,_,iT R c,rfl,rfl,QZ,EM.same j9,hm,?_⟩
   rw [WD]
   walk_at "rd"
   refine cY (j9 _ _ GU) (by rw [List.length_map]; exact aB (by omega)) ?_
   refine ⟨nl ++ [c],_,rfl,ah.fresh (HS.trans j9) RF,?_,by rw [ae,List.map_append]; rfl,by rw [List.length_append,List.length_singleton]; omega,fun j hj=>?_⟩
   ·have Oz:=OA.same j9
    refine ⟨by rw [ax (show t3≠nm from fun z=>nn (by rw [z]; exact List.mem_cons_self))]; exact Oz.top,Oz.len,fun i b l h1 h2=>?_⟩
    rw [ax (show b≠nm from fun z=>nn (List.mem_cons_of_mem _ (by rw [← z]; exact List.mem_of_getElem? h1)))]
    exact Oz.row i b l h1 h2
   ·by_cases zj:j = nl.length
    ·have:fD (nl ++ [c]) (j:Int) = c:=gg (by rw [zj,List.getElem?_append_right (Nat.le_refl _),Nat.sub_self]; rfl)
     rw [this]
     exact ⟨⟨c0,c1⟩,by rw [ec]; omega⟩
    ·have jl:j < nl.length:=by omega
     have:fD (nl ++ [c]) (j:Int) = fD nl (j:Int):=by
      rw [gg (x:=nl[j]) (by rw [List.getElem?_append_left jl]; exact List.getElem?_eq_getElem jl),gg (x:=nl[j]) (List.getElem?_eq_getElem jl)]
     rw [this]
     exact all j (by omega)
  ·rintro σ AK ⟨nl,v,rfl,HS,_,GU,nk,all⟩
   rw [List.length_map,OB.len] at nk all
   obtain ⟨ly,tj⟩:=D.lay all nk
   have Zs:(Du S).length = S.length:=dD
   have fS:=D.C4
   have Ep:=mE ls Ar fS
   have hH:mP (Du S):=Ak.zH ⟨Ar,ls,fS,fun z z0 z1=>by
    obtain ⟨k,rfl⟩:=Int.eq_ofNat_of_zero_le z0
    rw [lO] at z1
    have hr:=List.getElem?_eq_getElem (l:=R) (i:=k) (by omega)
    rw [jQ hr,df]
    exact (ld.good _ (List.mem_of_getElem? hr)).two⟩ hO (by omega)
   have HK:=HL.same HS
   have HH:=HI.same HS
   have rA:∀ m∈A,m.Nodup∧m.length≤1000:=fun m hm=>by have:=BB BH (by omega) m hm; exact ⟨this.1,by omega⟩
   have rR:∀ {M:List (List Int)},aw M→M.length = A.length→∀ m∈M,m.length≤1000:=fun iM lM m hm=>by have:=BB iM (by omega) m hm; omega
   walk_at "rd"
   refine ⟨x,nm,xs,Du S,nl,rfl,HH,GU,Ep,by omega,by omega,fun _ q cs R' I0 xT W7 _ rn=>?_,fun no=>absurd tj no⟩
   have Zr:=rn.len
   walk_at "rd"
   refine ⟨q,p,cs,as,R',A,rfl,W7,HK.same xT,rR (rn.eJ tj Ep) (by omega),rA,by omega,by omega,fun _ Yq Kv=>?_,fun no=>absurd ⟨by omega,(rn.lay tj (by omega)).mpr ly⟩ no⟩
   have j9:=xT.trans Kv
   have HJ:=HK.same j9
   have HG:=HH.same j9
   have Vl:=j9 _ _ GU
   walk_at "rd"
   refine ⟨x,p,xs,as,Du S,A,rfl,HG,HJ,Ep,BH,by omega,by omega,by omega,hH,fun no=>absurd ⟨_,ly⟩ no,fun f Rl le t ZT OP tf Lc=>?_⟩
   have yZ:=Rl.tj Ep BH (by omega) xN.zH
   have Rm:Lay (Du S) A (fD ((aT (Du S).length).map f)):=Rl.congr Ep fun i i0 i1=>(pR i0 i1).symm
   have Ng:=le _ ly
   have eN:(aT (Du S).length).map (fD nl) = nl:=by
    refine List.ext_getElem (by rw [List.length_map,bh]; omega) fun i h1 h2=>?_
    rw [List.length_map,bh] at h1
    rw [List.getElem_map,(List.getElem?_eq_some_iff.mp (uS h1)).2,gg (List.getElem?_eq_getElem h2)]
   rw [eN] at Ng
   generalize (aT (Du S).length).map f = fl at Lc yZ Rm Ng
   walk_at "rd"
   rw [decide_eq_false (show ¬ V.ref t = V.cV by simp)]
   walk_at "rd"
   refine ⟨t,nm,fl,nl,rfl,rfl,aD.of Lc,aD.of (OP _ _ Vl),?_⟩
   rw [show HT.lexLt nl fl = false from Ng]
   walk_at "rd"
   refine ⟨x,t,xs,Du S,fl,rfl,HG.same OP,Lc,Ep,by rw [yZ.len]; omega,by omega,fun _ q2 AG R2 ZS Xl W6 _ LF=>?_,fun no=>absurd yZ no⟩
   have Zq:=LF.len
   walk_at "rd"
   refine ⟨q2,p,AG,as,R2,A,rfl,W6,(HJ.same OP).same Xl,rR (LF.eJ yZ Ep) (by omega),rA,by omega,by omega,fun _ ZR ZG=>?_,fun no=>absurd ⟨by omega,(LF.lay yZ (by omega)).mpr Rm⟩ no⟩
   exact kq _
end
end Cj
end
namespace Cj
open PySem L2 Fr Gm
local macro_rules | `(tactic| walk_at "rd1")=>`(tactic| first
 | with_reducible refine r_seq ?_ | with_reducible refine r_asg ?_ | with_reducible refine r_gname ?_ | with_reducible refine r_op ?_ | with_reducible refine r_c ?_
 | ((with_reducible refine' r_var ?hv ?_); case' hv=>exact rfl)
 | with_reducible refine ve ?_ | with_reducible refine DE ?_ | with_reducible refine DG ?_ | with_reducible refine vm ?_ | with_reducible refine vh ?_
 | with_reducible refine vd ?_ | with_reducible refine tS ?_ | with_reducible refine pz ?_ | with_reducible refine vk ?_ | with_reducible refine pd ?_ | with_reducible refine Jq ?_ | with_reducible refine Bg ?_
 | with_reducible refine vg ?_ | with_reducible refine vt ?_ | with_reducible refine Bc ?_ | with_reducible refine pA ?_ | with_reducible refine yB ?_ | with_reducible refine tT ?_ | with_reducible refine yD ?_
 | with_reducible refine oh ?_ | with_reducible refine lB ?_ | with_reducible refine lC ?_ | with_reducible refine Be ?_ | with_reducible refine vb ?_ | with_reducible refine vi ?_ | with_reducible refine ph ?_
 | with_reducible refine kJ ?_ | with_reducible refine pj ?_ | with_reducible refine vf ?_ | with_reducible refine JM ?_ | with_reducible refine JN ?_ | with_reducible refine BI ?_ | with_reducible refine BJ ?_
 | ((with_reducible refine yy ?hc ?_); case' hc=>walk_at "side")
 | ((with_reducible refine' vj ?hp ?hi ?_); (case' hp=>walk_at "seq"); (case' hi=>exact rfl))
 | ((with_reducible refine' bj ?hp ?hi ?_); (case' hp=>walk_at "seq"); (case' hi=>exact rfl))
 | ((with_reducible refine' dQ ?hp ?hi ?_); (case' hp=>walk_at "seq"); (case' hi=>exact rfl))
 | ((with_reducible refine And.intro ?hl ?_); case' hl=>(first | exact A3 | exact Fj))
 | with_reducible refine Bf ?_ | with_reducible refine vo ?_ | with_reducible refine o9 ?_ | with_reducible refine yC ?_ | with_reducible refine pf ?_ | with_reducible refine kH ?_ | with_reducible refine o8 ?_ | with_reducible refine lz ?_ | with_reducible refine CI ?_ | with_reducible refine tU ?_
 | dsimp only)
local macro_rules | `(tactic| walk_at "rd")=>`(tactic| repeat walk_at "rd1")
local macro_rules | `(tactic| walk_at "blk_vis")=>`(tactic| first | exact Or.inl rfl | exact Or.inr (Or.inl rfl) | exact Or.inr (Or.inr rfl))
local macro_rules | `(tactic| walk_at "blk_ok")=>`(tactic| exact ⟨rfl,by decide +kernel,by decide +kernel,rfl,by (first | exact trivial | exact ⟨rfl,trivial⟩ | exact ⟨rfl,rfl,trivial⟩ | exact ⟨rfl,rfl,rfl,trivial⟩ | exact ⟨rfl,rfl,rfl,rfl,trivial⟩),rfl,
 by (first | exact aE | exact ai ⟨rfl,by walk_at "blk_vis",rfl,rfl⟩ aE | exact ai ⟨rfl,by walk_at "blk_vis",rfl,rfl⟩ (ai ⟨rfl,by walk_at "blk_vis",rfl,rfl⟩ aE) | exact ai ⟨rfl,by walk_at "blk_vis",rfl,rfl⟩ (ai ⟨rfl,by walk_at "blk_vis",rfl,rfl⟩ (ai ⟨rfl,by walk_at "blk_vis",rfl,rfl⟩ aE))),
 by (first | exact aE | exact ai rfl aE | exact ai rfl (ai rfl aE) | exact ai rfl (ai rfl (ai rfl aE)))⟩)
local macro_rules | `(tactic| walk_at "blk_ok1")=>`(tactic| exact ⟨rfl,fun _=>rfl,fun _=>rfl,by decide +kernel,rfl,by (first | exact trivial | exact ⟨rfl,trivial⟩ | exact ⟨rfl,rfl,trivial⟩ | exact ⟨rfl,rfl,rfl,trivial⟩ | exact ⟨rfl,rfl,rfl,rfl,trivial⟩),rfl,
 by (first | exact aE | exact ai ⟨rfl,by walk_at "blk_vis",⟨rfl,rfl⟩,rfl⟩ aE | exact ai ⟨rfl,by walk_at "blk_vis",⟨rfl,rfl⟩,rfl⟩ (ai ⟨rfl,by walk_at "blk_vis",⟨rfl,rfl⟩,rfl⟩ aE) | exact ai ⟨rfl,by walk_at "blk_vis",⟨rfl,rfl⟩,rfl⟩ (ai ⟨rfl,by walk_at "blk_vis",⟨rfl,rfl⟩,rfl⟩ (ai ⟨rfl,by walk_at "blk_vis",⟨rfl,rfl⟩,rfl⟩ aE))),
 by (first | exact aE | exact ai rfl aE | exact ai rfl (ai rfl aE) | exact ai rfl (ai rfl (ai rfl aE)))⟩)
local macro_rules | `(tactic| walk_at "side")=>`(tactic| first | assumption | exact (show (0:Int) < _ by decide) | exact kS (by decide) (by decide) | exact kT (by decide) (by decide) | exact mulL (by decide) (by decide))
local macro_rules | `(tactic| walk_at "seq")=>`(tactic| first | assumption | exact SqT.of (by assumption))
theorem all_mk {l:PySem.W.OpenLaw} {w:World} {K:PySem.W.Frag} {h:Heap} {mg:Str→Option Value} {fa:Addr} (X:K.In h) (G:h.Ns mainGlobals mg) (WH:mg "law" = some (.ref fa))
  {iQ iR sT:Addr}
  (e_NoOther:PySem.W.nsIn K mainGlobals "NoOther" = some (some (.ref iQ)))
  (e_NoNames:PySem.W.nsIn K mainGlobals "NoNames" = some (some (.ref iR)))
  (e_NoMap:PySem.W.nsIn K mainGlobals "NoMap" = some (some (.ref sT)))
  {f0:Addr} {UQ Ya:Option Addr} {Jk:Array (Option Value)} {U1 VU Xy Uz SE XM:Value}
  (a0:PySem.W.nsIn K mainGlobals "ties" = some (some (.ref f0))) (l0:K.lookup f0 = some ⟨U1,UQ,.func (PySem.W.fnOf "ties" "ties" (aP gQ) (aN gQ) (ak gQ) .none VU Xy Uz Ya SE XM),Jk⟩) (c0:PySem.W.codeIn K SE "ties" = true) (k0:PySem.W.keepIn K (.ref f0) = true)
  {f1:Addr} {UP X9:Option Addr} {TL:Array (Option Value)} {U0 VT Xx Uy SD XJ:Value}
  (a1:PySem.W.nsIn K mainGlobals "come_to" = some (some (.ref f1))) (l1:K.lookup f1 = some ⟨U0,UP,.func (PySem.W.fnOf "come_to" "come_to" (aP dF) (aN dF) (ak dF) .none VT Xx Uy X9 SD XJ),TL⟩) (c1:PySem.W.codeIn K SD "come_to" = true) (k1:PySem.W.keepIn K (.ref f1) = true)
  {f2:Addr} {UO X8:Option Addr} {A3:Array (Option Value)} {UZ VS Xw L5 SA XI:Value}
  (a2:PySem.W.nsIn K mainGlobals "hangs" = some (some (.ref f2))) (l2:K.lookup f2 = some ⟨UZ,UO,.func (PySem.W.fnOf "hangs" "hangs" (aP fm) (aN fm) (ak fm) .none VS Xw L5 X8 SA XI),A3⟩) (c2:PySem.W.codeIn K SA "hangs" = true) (k2:PySem.W.keepIn K (.ref f2) = true)
  {f3:Addr} {UN X7:Option Addr} {Fj:Array (Option Value)} {UY VR Xv Ux Sy XH:Value}
  (a3:PySem.W.nsIn K mainGlobals "onward" = some (some (.ref f3))) (l3:K.lookup f3 = some ⟨UY,UN,.func (PySem.W.fnOf "onward" "onward" (aP d4) (aN d4) (ak d4) .none VR Xv Ux X7 Sy XH),Fj⟩) (c3:PySem.W.codeIn K Sy "onward" = true) (k3:PySem.W.keepIn K (.ref f3) = true)
  {f4:Addr} {UM X6:Option Addr} {TK:Array (Option Value)} {UX VQ Xu Uw Sx XG:Value}
  (a4:PySem.W.nsIn K mainGlobals "ring_from" = some (some (.ref f4))) (l4:K.lookup f4 = some ⟨UX,UM,.func (PySem.W.fnOf "ring_from" "ring_from" (aP cH) (aN cH) (ak cH) .none VQ Xu Uw X6 Sx XG),TK⟩) (c4:PySem.W.codeIn K Sx "ring_from" = true) (k4:PySem.W.keepIn K (.ref f4) = true)
  {f5:Addr} {UL X5:Option Addr} {TJ:Array (Option Value)} {UW VP Xt Uv Sw XF:Value}
  (a5:PySem.W.nsIn K mainGlobals "least_begun" = some (some (.ref f5))) (l5:K.lookup f5 = some ⟨UW,UL,.func (PySem.W.fnOf "least_begun" "least_begun" (aP bL) (aN bL) (ak bL) .none VP Xt Uv X5 Sw XF),TJ⟩) (c5:PySem.W.codeIn K Sw "least_begun" = true) (k5:PySem.W.keepIn K (.ref f5) = true)
  {f6:Addr} {UK X4:Option Addr} {TH:Array (Option Value)} {UU VO Xs Uu Sv XE:Value}
  (a6:PySem.W.nsIn K mainGlobals "steps" = some (some (.ref f6))) (l6:K.lookup f6 = some ⟨UU,UK,.func (PySem.W.fnOf "steps" "steps" (aP fj) (aN fj) (ak fj) .none VO Xs Uu X4 Sv XE),TH⟩) (c6:PySem.W.codeIn K Sv "steps" = true) (k6:PySem.W.keepIn K (.ref f6) = true)
  {f7:Addr} {UJ X3:Option Addr} {TF:Array (Option Value)} {UT VN Xr Ut Su XD:Value}
  (a7:PySem.W.nsIn K mainGlobals "lands" = some (some (.ref f7))) (l7:K.lookup f7 = some ⟨UT,UJ,.func (PySem.W.fnOf "lands" "lands" (aP fk) (aN fk) (ak fk) .none VN Xr Ut X3 Su XD),TF⟩) (c7:PySem.W.codeIn K Su "lands" = true) (k7:PySem.W.keepIn K (.ref f7) = true)
  {f8:Addr} {UI X2:Option Addr} {TC:Array (Option Value)} {US VM Xq Us Ss XC:Value}
  (a8:PySem.W.nsIn K mainGlobals "left_lands" = some (some (.ref f8))) (l8:K.lookup f8 = some ⟨US,UI,.func (PySem.W.fnOf "left_lands" "left_lands" (aP bV) (aN bV) (ak bV) .none VM Xq Us X2 Ss XC),TC⟩) (c8:PySem.W.codeIn K Ss "left_lands" = true) (k8:PySem.W.keepIn K (.ref f8) = true)
  {f9:Addr} {UH X1:Option Addr} {TB:Array (Option Value)} {UR VL Xp Ur Sr XB:Value}
  (a9:PySem.W.nsIn K mainGlobals "count" = some (some (.ref f9))) (l9:K.lookup f9 = some ⟨UR,UH,.func (PySem.W.fnOf "count" "count" (aP fo) (aN fo) (ak fo) .none VL Xp Ur X1 Sr XB),TB⟩) (c9:PySem.W.codeIn K Sr "count" = true) (k9:PySem.W.keepIn K (.ref f9) = true)
  {Kr:Addr} {MC Qa:Option Addr} {Lz:Array (Option Value)} {MU ND O9 Mg IG Px:Value}
  (a10:PySem.W.nsIn K mainGlobals "is_wrong" = some (some (.ref Kr))) (l10:K.lookup Kr = some ⟨MU,MC,.func (PySem.W.fnOf "is_wrong" "is_wrong" (aP cW) (aN cW) (ak cW) .none ND O9 Mg Qa IG Px),Lz⟩) (c10:PySem.W.codeIn K IG "is_wrong" = true) (k10:PySem.W.keepIn K (.ref Kr) = true)
  {Kq:Addr} {MB P9:Option Addr} {Ly:Array (Option Value)} {MT NC O8 Mf IF Pw:Value}
  (a11:PySem.W.nsIn K mainGlobals "looked" = some (some (.ref Kq))) (l11:K.lookup Kq = some ⟨MT,MB,.func (PySem.W.fnOf "looked" "looked" (aP d6) (aN d6) (ak d6) .none NC O8 Mf P9 IF Pw),Ly⟩) (c11:PySem.W.codeIn K IF "looked" = true) (k11:PySem.W.keepIn K (.ref Kq) = true)
  {Ko:Addr} {MA P8:Option Addr} {Lx:Array (Option Value)} {MS NB O7 Me IE Pu:Value}
  (a12:PySem.W.nsIn K mainGlobals "other_map" = some (some (.ref Ko))) (l12:K.lookup Ko = some ⟨MS,MA,.func (PySem.W.fnOf "other_map" "other_map" (aP cI) (aN cI) (ak cI) .none NB O7 Me P8 IE Pu),Lx⟩) (c12:PySem.W.codeIn K IE "other_map" = true) (k12:PySem.W.keepIn K (.ref Ko) = true)
  {Kn:Addr} {Mz P7:Option Addr} {Lw:Array (Option Value)} {MR NA O6 Md ID Pt:Value}
  (a13:PySem.W.nsIn K mainGlobals "renamed" = some (some (.ref Kn))) (l13:K.lookup Kn = some ⟨MR,Mz,.func (PySem.W.fnOf "renamed" "renamed" (aP dE) (aN dE) (ak dE) .none NA O6 Md P7 ID Pt),Lw⟩) (c13:PySem.W.codeIn K ID "renamed" = true) (k13:PySem.W.keepIn K (.ref Kn) = true)
  {Km:Addr} {My P6:Option Addr} {Lv:Array (Option Value)} {MQ Nz O5 Mc IC Pr:Value}
  (a14:PySem.W.nsIn K mainGlobals "begun_at" = some (some (.ref Km))) (l14:K.lookup Km = some ⟨MQ,My,.func (PySem.W.fnOf "begun_at" "begun_at" (aP cX) (aN cX) (ak cX) .none Nz O5 Mc P6 IC Pr),Lv⟩) (c14:PySem.W.codeIn K IC "begun_at" = true) (k14:PySem.W.keepIn K (.ref Km) = true)
  {Kl:Addr} {Mx P5:Option Addr} {Lu:Array (Option Value)} {MP Ny O4 Mb IB Pq:Value}
  (a15:PySem.W.nsIn K mainGlobals "orders_alike" = some (some (.ref Kl))) (l15:K.lookup Kl = some ⟨MP,Mx,.func (PySem.W.fnOf "orders_alike" "orders_alike" (aP bG) (aN bG) (ak bG) .none Ny O4 Mb P5 IB Pq),Lu⟩) (c15:PySem.W.codeIn K IB "orders_alike" = true) (k15:PySem.W.keepIn K (.ref Kl) = true)
  {Kk:Addr} {Mw P4:Option Addr} {Ls:Array (Option Value)} {MO Nx O3 Ma IA Pp:Value}
  (a16:PySem.W.nsIn K mainGlobals "same" = some (some (.ref Kk))) (l16:K.lookup Kk = some ⟨MO,Mw,.func (PySem.W.fnOf "same" "same" (aP s_same) (aN s_same) (ak s_same) .none Nx O3 Ma P4 IA Pp),Ls⟩) (c16:PySem.W.codeIn K IA "same" = true) (k16:PySem.W.keepIn K (.ref Kk) = true)
  {Kj:Addr} {Mv P2:Option Addr} {Lr:Array (Option Value)} {MN Nw O2 L9 Iz Po:Value}
  (a17:PySem.W.nsIn K mainGlobals "names_from" = some (some (.ref Kj))) (l17:K.lookup Kj = some ⟨MN,Mv,.func (PySem.W.fnOf "names_from" "names_from" (aP bU) (aN bU) (ak bU) .none Nw O2 L9 P2 Iz Po),Lr⟩) (c17:PySem.W.codeIn K Iz "names_from" = true) (k17:PySem.W.keepIn K (.ref Kj) = true)
  {Ki:Addr} {Mu P1:Option Addr} {Lq:Array (Option Value)} {MM Nv O1 L8 Iy Pn:Value}
  (a18:PySem.W.nsIn K mainGlobals "alike" = some (some (.ref Ki))) (l18:K.lookup Ki = some ⟨MM,Mu,.func (PySem.W.fnOf "alike" "alike" (aP fq) (aN fq) (ak fq) .none Nv O1 L8 P1 Iy Pn),Lq⟩) (c18:PySem.W.codeIn K Iy "alike" = true) (k18:PySem.W.keepIn K (.ref Ki) = true)
  {Kh:Addr} {Mt P0:Option Addr} {Lo:Array (Option Value)} {ML Nu O0 L6 Iw Pm:Value}
  (a19:PySem.W.nsIn K mainGlobals "_law_block" = some (some (.ref Kh))) (l19:K.lookup Kh = some ⟨ML,Mt,.func (PySem.W.fnOf "_law_block" "_law_block" (aP bZ) (aN bZ) (ak bZ) .none Nu O0 L6 P0 Iw Pm),Lo⟩) (c19:PySem.W.codeIn K Iw "_law_block" = true) (k19:PySem.W.keepIn K (.ref Kh) = true)
  {Kf:Addr} {Ms PZ:Option Addr} {Ln:Array (Option Value)} {MK Nt OZ L4 Iv Pk:Value}
  (a20:PySem.W.nsIn K mainGlobals "_law_mixed" = some (some (.ref Kf))) (l20:K.lookup Kf = some ⟨MK,Ms,.func (PySem.W.fnOf "_law_mixed" "_law_mixed" (aP bY) (aN bY) (ak bY) .none Nt OZ L4 PZ Iv Pk),Ln⟩) (c20:PySem.W.codeIn K Iv "_law_mixed" = true) (k20:PySem.W.keepIn K (.ref Kf) = true)
  {Ke:Addr} {Mr PY:Option Addr} {Lm:Array (Option Value)} {MJ Nr OY L1 Iu Pj:Value}
  (a21:PySem.W.nsIn K mainGlobals "_law_rings" = some (some (.ref Ke))) (l21:K.lookup Ke = some ⟨MJ,Mr,.func (PySem.W.fnOf "_law_rings" "_law_rings" (aP bX) (aN bX) (ak bX) .none Nr OY L1 PY Iu Pj),Lm⟩) (c21:PySem.W.codeIn K Iu "_law_rings" = true) (k21:PySem.W.keepIn K (.ref Ke) = true)
  {Kd:Addr} {Mq PX:Option Addr} {Ll:Array (Option Value)} {MI Nq OX L0 Ir Ph:Value}
  (a22:PySem.W.nsIn K mainGlobals "_law_put_tie" = some (some (.ref Kd))) (l22:K.lookup Kd = some ⟨MI,Mq,.func (PySem.W.fnOf "_law_put_tie" "_law_put_tie" (aP bH) (aN bH) (ak bH) .none Nq OX L0 PX Ir Ph),Ll⟩) (c22:PySem.W.codeIn K Ir "_law_put_tie" = true) (k22:PySem.W.keepIn K (.ref Kd) = true)
  {Kc:Addr} {Mp PV:Option Addr} {Lk:Array (Option Value)} {MH Np OW LZ Iq Pg:Value}
  (a23:PySem.W.nsIn K mainGlobals "_law_put_place" = some (some (.ref Kc))) (l23:K.lookup Kc = some ⟨MH,Mp,.func (PySem.W.fnOf "_law_put_place" "_law_put_place" (aP bo) (aN bo) (ak bo) .none Np OW LZ PV Iq Pg),Lk⟩) (c23:PySem.W.codeIn K Iq "_law_put_place" = true) (k23:PySem.W.keepIn K (.ref Kc) = true)
  {Kb:Addr} {Mo PU:Option Addr} {Lj:Array (Option Value)} {MG Nn OV LY Ip Pf:Value}
  (a24:PySem.W.nsIn K mainGlobals "_law_tight" = some (some (.ref Kb))) (l24:K.lookup Kb = some ⟨MG,Mo,.func (PySem.W.fnOf "_law_tight" "_law_tight" (aP bW) (aN bW) (ak bW) .none Nn OV LY PU Ip Pf),Lj⟩) (c24:PySem.W.codeIn K Ip "_law_tight" = true) (k24:PySem.W.keepIn K (.ref Kb) = true)
  {Ka:Addr} {Mn PQ:Option Addr} {Li:Array (Option Value)} {MF Nm OU LX Io Pe:Value}
  (a25:PySem.W.nsIn K mainGlobals "_law_begun" = some (some (.ref Ka))) (l25:K.lookup Ka = some ⟨MF,Mn,.func (PySem.W.fnOf "_law_begun" "_law_begun" (aP b7) (aN b7) (ak b7) .none Nm OU LX PQ Io Pe),Li⟩) (c25:PySem.W.codeIn K Io "_law_begun" = true) (k25:PySem.W.keepIn K (.ref Ka) = true)
  {J4:Addr} {Mm PN:Option Addr} {Lh:Array (Option Value)} {ME Nk OT LW Im Pc:Value}
  (a26:PySem.W.nsIn K mainGlobals "_law_lands_round" = some (some (.ref J4))) (l26:K.lookup J4 = some ⟨ME,Mm,.func (PySem.W.fnOf "_law_lands_round" "_law_lands_round" (aP aY) (aN aY) (ak aY) .none Nk OT LW PN Im Pc),Lh⟩) (c26:PySem.W.codeIn K Im "_law_lands_round" = true) (k26:PySem.W.keepIn K (.ref J4) = true)
  {OG:Addr} {Mj IM:Option Addr} {Lg:Array (Option Value)} {MD GZ Ib GG EY Ih:Value}
  (a27:PySem.W.nsIn K mainGlobals "law" = some (some (.ref OG))) (l27:K.lookup OG = some ⟨MD,Mj,.func (PySem.W.fnOf "law" "law" (aP i6) (aN i6) (ak i6) .none GZ Ib GG IM EY Ih),Lg⟩) (c27:PySem.W.codeIn K EY "law" = true) (k27:PySem.W.keepIn K (.ref OG) = true)
  (z0:PySem.W.nsIn K mainGlobals "len" = some none)
  (z1:PySem.W.nsIn K mainGlobals "isinstance" = some none)
  (z2:PySem.W.nsIn K mainGlobals "int" = some none)
  (z3:PySem.W.nsIn K mainGlobals "bool" = some none)
  (z4:PySem.W.nsIn K mainGlobals "enumerate" = some none)
  (z5:PySem.W.nsIn K mainGlobals "range" = some none)
  (z6:PySem.W.nsIn K mainGlobals "min" = some none)
  (z7:PySem.W.nsIn K mainGlobals "max" = some none)
  (z8:PySem.W.nsIn K mainGlobals "sorted" = some none)
  (z9:PySem.W.nsIn K mainGlobals "list" = some none)
  (z10:PySem.W.nsIn K mainGlobals "zip" = some none)
  (z11:PySem.W.nsIn K mainGlobals "all" = some none)
  (z12:PySem.W.nsIn K mainGlobals "set" = some none)
  (z13:PySem.W.nsIn K mainGlobals "sum" = some none)
  (x_NoOther:PySem.W.excIn K iQ [.type "ValueError",.type "Exception",.type "BaseException",.type "object"] "ValueError.__new__" = true)
  (x_NoNames:PySem.W.excIn K iR [.type "ValueError",.type "Exception",.type "BaseException",.type "object"] "ValueError.__new__" = true)
  : ∃ fd:FuncData,(∀ (s:Shared) (v:Value),BindsTo s fd ⟨[v],[]⟩ [("_law_script",v)])∧∀ base:Heap,K.In base→base.Ns mainGlobals mg→nK l.prog w K mg base (cM l.prog w) 10 fa fd ["_law_script"] (oW K):=by
 have e:=WH.symm.trans (PySem.W.mg_of X G a27)
 cases e
 have T:Txt K mg ⟨iQ,iR,sT⟩:=⟨PySem.W.mg_none_of X G z0,PySem.W.mg_none_of X G z1,PySem.W.mg_none_of X G z2,PySem.W.mg_none_of X G z3,PySem.W.mg_none_of X G z4,PySem.W.mg_none_of X G z5,PySem.W.mg_none_of X G z6,PySem.W.mg_none_of X G z7,PySem.W.mg_none_of X G z8,PySem.W.mg_none_of X G z9,PySem.W.mg_none_of X G z10,PySem.W.mg_none_of X G z11,PySem.W.mg_none_of X G z12,PySem.W.mg_none_of X G z13,PySem.W.mg_of X G e_NoOther,PySem.W.mg_of X G e_NoNames,PySem.W.mg_of X G e_NoMap,x_NoOther,x_NoNames⟩
 have D0:Def K mg "ties" gQ ["orders"]:=⟨⟨f0,_,aH (st:=gQ) l0 c0 k0,PySem.W.mg_of X G a0,(aH (st:=gQ) l0 c0 k0).binds (ps:=["orders"]) fun _ _ _ _ _ _ us hl=>match us,hl with | [_],_=>rfl⟩⟩
 have D1:Def K mg "come_to" dF ["orders", "start", "shut"]:=⟨⟨f1,_,aH (st:=dF) l1 c1 k1,PySem.W.mg_of X G a1,(aH (st:=dF) l1 c1 k1).binds (ps:=["orders", "start", "shut"]) fun _ _ _ _ _ _ us hl=>match us,hl with | [_,_,_],_=>rfl⟩⟩
 have D2:Def K mg "hangs" fm ["orders"]:=⟨⟨f2,_,aH (st:=fm) l2 c2 k2,PySem.W.mg_of X G a2,(aH (st:=fm) l2 c2 k2).binds (ps:=["orders"]) fun _ _ _ _ _ _ us hl=>match us,hl with | [_],_=>rfl⟩⟩
 have D3:Def K mg "onward" d4 ["orders", "one", "other"]:=⟨⟨f3,_,aH (st:=d4) l3 c3 k3,PySem.W.mg_of X G a3,(aH (st:=d4) l3 c3 k3).binds (ps:=["orders", "one", "other"]) fun _ _ _ _ _ _ us hl=>match us,hl with | [_,_,_],_=>rfl⟩⟩
 have D4:Def K mg "ring_from" cH ["orders", "one", "other"]:=⟨⟨f4,_,aH (st:=cH) l4 c4 k4,PySem.W.mg_of X G a4,(aH (st:=cH) l4 c4 k4).binds (ps:=["orders", "one", "other"]) fun _ _ _ _ _ _ us hl=>match us,hl with | [_,_,_],_=>rfl⟩⟩
 have D5:Def K mg "least_begun" bL ["ring"]:=⟨⟨f5,_,aH (st:=bL) l5 c5 k5,PySem.W.mg_of X G a5,(aH (st:=bL) l5 c5 k5).binds (ps:=["ring"]) fun _ _ _ _ _ _ us hl=>match us,hl with | [_],_=>rfl⟩⟩
 have D6:Def K mg "steps" fj ["ring"]:=⟨⟨f6,_,aH (st:=fj) l6 c6 k6,PySem.W.mg_of X G a6,(aH (st:=fj) l6 c6 k6).binds (ps:=["ring"]) fun _ _ _ _ _ _ us hl=>match us,hl with | [_],_=>rfl⟩⟩
 have D7:Def K mg "lands" fk ["orders"]:=⟨⟨f7,_,aH (st:=fk) l7 c7 k7,PySem.W.mg_of X G a7,(aH (st:=fk) l7 c7 k7).binds (ps:=["orders"]) fun _ _ _ _ _ _ us hl=>match us,hl with | [_],_=>rfl⟩⟩
 have D8:Def K mg "left_lands" bV ["rings"]:=⟨⟨f8,_,aH (st:=bV) l8 c8 k8,PySem.W.mg_of X G a8,(aH (st:=bV) l8 c8 k8).binds (ps:=["rings"]) fun _ _ _ _ _ _ us hl=>match us,hl with | [_],_=>rfl⟩⟩
 have D9:Def K mg "count" fo ["orders"]:=⟨⟨f9,_,aH (st:=fo) l9 c9 k9,PySem.W.mg_of X G a9,(aH (st:=fo) l9 c9 k9).binds (ps:=["orders"]) fun _ _ _ _ _ _ us hl=>match us,hl with | [_],_=>rfl⟩⟩
 have YI:Def K mg "is_wrong" cW ["orders", "place"]:=⟨⟨Kr,_,aH (st:=cW) l10 c10 k10,PySem.W.mg_of X G a10,(aH (st:=cW) l10 c10 k10).binds (ps:=["orders", "place"]) fun _ _ _ _ _ _ us hl=>match us,hl with | [_,_],_=>rfl⟩⟩
 have YH:Def K mg "looked" d6 ["orders"]:=⟨⟨Kq,_,aH (st:=d6) l11 c11 k11,PySem.W.mg_of X G a11,(aH (st:=d6) l11 c11 k11).binds (ps:=["orders"]) fun _ _ _ _ _ _ us hl=>match us,hl with | [_],_=>rfl⟩⟩
 have YG:Def K mg "other_map" cI ["orders"]:=⟨⟨Ko,_,aH (st:=cI) l12 c12 k12,PySem.W.mg_of X G a12,(aH (st:=cI) l12 c12 k12).binds (ps:=["orders"]) fun _ _ _ _ _ _ us hl=>match us,hl with | [_],_=>rfl⟩⟩
 have YF:Def K mg "renamed" dE ["orders", "names"]:=⟨⟨Kn,_,aH (st:=dE) l13 c13 k13,PySem.W.mg_of X G a13,(aH (st:=dE) l13 c13 k13).binds (ps:=["orders", "names"]) fun _ _ _ _ _ _ us hl=>match us,hl with | [_,_],_=>rfl⟩⟩
 have YE:Def K mg "begun_at" cX ["order", "first"]:=⟨⟨Km,_,aH (st:=cX) l14 c14 k14,PySem.W.mg_of X G a14,(aH (st:=cX) l14 c14 k14).binds (ps:=["order", "first"]) fun _ _ _ _ _ _ us hl=>match us,hl with | [_,_],_=>rfl⟩⟩
 have YD:Def K mg "orders_alike" bG ["one", "other"]:=⟨⟨Kl,_,aH (st:=bG) l15 c15 k15,PySem.W.mg_of X G a15,(aH (st:=bG) l15 c15 k15).binds (ps:=["one", "other"]) fun _ _ _ _ _ _ us hl=>match us,hl with | [_,_],_=>rfl⟩⟩
 have YC:Def K mg "same" s_same ["one", "other"]:=⟨⟨Kk,_,aH (st:=s_same) l16 c16 k16,PySem.W.mg_of X G a16,(aH (st:=s_same) l16 c16 k16).binds (ps:=["one", "other"]) fun _ _ _ _ _ _ us hl=>match us,hl with | [_,_],_=>rfl⟩⟩
 have YB:Def K mg "names_from" bU ["one", "other", "first", "second"]:=⟨⟨Kj,_,aH (st:=bU) l17 c17 k17,PySem.W.mg_of X G a17,(aH (st:=bU) l17 c17 k17).binds (ps:=["one", "other", "first", "second"]) fun _ _ _ _ _ _ us hl=>match us,hl with | [_,_,_,_],_=>rfl⟩⟩
 have YA:Def K mg "alike" fq ["one", "other"]:=⟨⟨Ki,_,aH (st:=fq) l18 c18 k18,PySem.W.mg_of X G a18,(aH (st:=fq) l18 c18 k18).binds (ps:=["one", "other"]) fun _ _ _ _ _ _ us hl=>match us,hl with | [_,_],_=>rfl⟩⟩
 have Yz:Def K mg "_law_block" bZ ["_law_script", "_law_k"]:=⟨⟨Kh,_,aH (st:=bZ) l19 c19 k19,PySem.W.mg_of X G a19,(aH (st:=bZ) l19 c19 k19).binds (ps:=["_law_script", "_law_k"]) fun _ _ _ _ _ _ us hl=>match us,hl with | [_,_],_=>rfl⟩⟩
 have Yy:Def K mg "_law_mixed" bY ["_law_script", "_law_k"]:=⟨⟨Kf,_,aH (st:=bY) l20 c20 k20,PySem.W.mg_of X G a20,(aH (st:=bY) l20 c20 k20).binds (ps:=["_law_script", "_law_k"]) fun _ _ _ _ _ _ us hl=>match us,hl with | [_,_],_=>rfl⟩⟩
 have Yx:Def K mg "_law_rings" bX ["_law_orders"]:=⟨⟨Ke,_,aH (st:=bX) l21 c21 k21,PySem.W.mg_of X G a21,(aH (st:=bX) l21 c21 k21).binds (ps:=["_law_orders"]) fun _ _ _ _ _ _ us hl=>match us,hl with | [_],_=>rfl⟩⟩
 have Yw:Def K mg "_law_put_tie" bH ["_law_orders", "_law_ring", "_law_one", "_law_other"]:=⟨⟨Kd,_,aH (st:=bH) l22 c22 k22,PySem.W.mg_of X G a22,(aH (st:=bH) l22 c22 k22).binds (ps:=["_law_orders", "_law_ring", "_law_one", "_law_other"]) fun _ _ _ _ _ _ us hl=>match us,hl with | [_,_,_,_],_=>rfl⟩⟩
 have Yv:Def K mg "_law_put_place" bo ["_law_orders", "_law_ring", "_law_corners"]:=⟨⟨Kc,_,aH (st:=bo) l23 c23 k23,PySem.W.mg_of X G a23,(aH (st:=bo) l23 c23 k23).binds (ps:=["_law_orders", "_law_ring", "_law_corners"]) fun _ _ _ _ _ _ us hl=>match us,hl with | [_,_,_],_=>rfl⟩⟩
 have Yu:Def K mg "_law_tight" bW ["_law_script", "_law_start", "_law_steps"]:=⟨⟨Kb,_,aH (st:=bW) l24 c24 k24,PySem.W.mg_of X G a24,(aH (st:=bW) l24 c24 k24).binds (ps:=["_law_script", "_law_start", "_law_steps"]) fun _ _ _ _ _ _ us hl=>match us,hl with | [_,_,_],_=>rfl⟩⟩
 have Yt:Def K mg "_law_begun" b7 ["_law_script", "_law_start", "_law_orders"]:=⟨⟨Ka,_,aH (st:=b7) l25 c25 k25,PySem.W.mg_of X G a25,(aH (st:=b7) l25 c25 k25).binds (ps:=["_law_script", "_law_start", "_law_orders"]) fun _ _ _ _ _ _ us hl=>match us,hl with | [_,_,_],_=>rfl⟩⟩
 have Ys:Def K mg "_law_lands_round" aY ["_law_orders"]:=⟨⟨J4,_,aH (st:=aY) l26 c26 k26,PySem.W.mg_of X G a26,(aH (st:=aY) l26 c26 k26).binds (ps:=["_law_orders"]) fun _ _ _ _ _ _ us hl=>match us,hl with | [_],_=>rfl⟩⟩
 refine ⟨PySem.W.fnOf "law" "law" (aP i6) (aN i6) (ak i6) .none GZ Ib GG IM EY Ih,fun s v=>.of_eq rfl,fun base hK hG=>?_⟩
 have Ah:=Bp (P:=l.prog) (w:=w) (base:=base) D0 T
 have xK:=ui (P:=l.prog) (w:=w) (base:=base) D1 T
 have Co:=yS (P:=l.prog) (w:=w) (base:=base) D2 T xK
 have Ai:=wR (P:=l.prog) (w:=w) (base:=base) D3 T
 have sX:=pJ (P:=l.prog) (w:=w) (base:=base) D4 T Ai
 have nJ:=lJ (P:=l.prog) (w:=w) (base:=base) D5 T
 have qG:=yQ (P:=l.prog) (w:=w) (base:=base) D6 T
 have kX:=yR (P:=l.prog) (w:=w) (base:=base) D7 T sX nJ qG
 have qI:=mZ (P:=l.prog) (w:=w) (base:=base) D8 T qG
 have Cp:=yT (P:=l.prog) (w:=w) (base:=base) D9 T Ah kX
 have uO:=se (P:=l.prog) (w:=w) (base:=base) YI T
 have Aj:=wU (P:=l.prog) (w:=w) (base:=base) YH T uO
 have sY:=pK (P:=l.prog) (w:=w) (base:=base) YG T qG kX qI
 have xJ:=uh (P:=l.prog) (w:=w) (base:=base) YF T
 have mR:=sf (P:=l.prog) (w:=w) (base:=base) YE T
 have mQ:=kg (P:=l.prog) (w:=w) (base:=base) YD T mR
 have E8:=Bq (P:=l.prog) (w:=w) (base:=base) YC T mQ
 have qH:=mY (P:=l.prog) (w:=w) (base:=base) YB T mR
 have Cq:=yU (P:=l.prog) (w:=w) (base:=base) YA T qH
 have qL:=ng (P:=l.prog) (w:=w) (base:=base) Yz T
 have gv:=m9 (P:=l.prog) (w:=w) (base:=base) Yy T qL
 have qK:=m8 (P:=l.prog) (w:=w) (base:=base) Yx T
 have mS:=kh (P:=l.prog) (w:=w) (base:=base) Yw T
 have jU:=jj (P:=l.prog) (w:=w) (base:=base) Yv T
 have qJ:=m7 (P:=l.prog) (w:=w) (base:=base) Yu T gv qK mS jU
 have qM:=nh (P:=l.prog) (w:=w) (base:=base) Yt T gv
 have iS:=iw (P:=l.prog) (w:=w) (base:=base) Ys T kX
 exact DX (aH (st:=i6) l27 c27 k27) T Aj Ah Co kX Cp sY xJ E8 Cq gv qJ qM iS
theorem walk {l:PySem.W.OpenLaw} {q:Program} {loose:List Str} {XP:(Str→Option Value)→Heap→Prop} {YP:World→Heap→Prop} {d:DefRec} {K:Params→PySem.W.Frag} (hn:l.most = some 63) (Hq:d.params.defaults = [])
  (hY:∀ (w:World) (h:Heap),YP w h→(K w.params).In h)
  (F:∀ (w:World) (mg:Str→Option Value) (fa:Addr) (h:Heap),(K w.params).In h→h.Ns mainGlobals mg→mg d.name = some (.ref fa)→
   ∃ fd:FuncData,(∀ (s:Shared) (u:Value),BindsTo s fd ⟨[u],[]⟩ [("_law_script",u)])∧∀ base:Heap,(K w.params).In base→base.Ns mainGlobals mg→nK l.prog w (K w.params) mg base (cM l.prog w) 10 fa fd ["_law_script"] (oW (K w.params))) :
  PySem.W.WalkO q loose XP YP l.row.toRowW d [] (fun f vs=>PySem.call f vs):=
 L2.AQ (n:=63) (k:=10) (x:= "_law_script") (CX:=fun w=>cM l.prog w) (sp:=fun w=>oW (K w.params)) hn (by decide) Hq ⟨rfl,by decide,by decide⟩ hY F (fun _ _ a ns hl _ hS=>⟨a,ns,rfl,hS,hl,fun _=>rfl⟩) fun _ _ _ _ _ z=>xx z
end Cj
theorem PySem.W.Fast.tw13800415321970014236:True:=trivial
theorem PySem.W.Fast.tw3007516616543949743:True:=trivial
theorem PySem.W.Fast.tw112844278220866714:True:=trivial
theorem PySem.W.Fast.tw13932534725017141174:True:=trivial
theorem PySem.W.Fast.tw10392738445513517496:True:=trivial
theorem PySem.W.Fast.tw16710818899731723576:True:=trivial
theorem PySem.W.Fast.tw9442904819841666307:True:=trivial
theorem PySem.W.Fast.tw7674542830721341406:True:=trivial
theorem PySem.W.Fast.tw13983612444921659570:True:=trivial
theorem PySem.W.Fast.tw7867376439762392271:True:=trivial
theorem PySem.W.Fast.tw18036823460848893811:True:=trivial
theorem PySem.W.Fast.tw9073747966055350386:True:=trivial
theorem PySem.W.Fast.tw1559736022764357023:True:=trivial
theorem PySem.W.Fast.tw8048490056761881361:True:=trivial
theorem PySem.W.Fast.tw12620662933495190816:True:=trivial
theorem PySem.W.Fast.tw17902868275553798875:True:=trivial
theorem PySem.W.Fast.tw1045943719867011949:True:=trivial
theorem PySem.W.Fast.tw7437462631394348955:True:=trivial
theorem PySem.W.Fast.tw8373467661329628299:True:=trivial
theorem PySem.W.Fast.tw17707051790846559856:True:=trivial
theorem PySem.W.Fast.tw15832950131481638357:True:=trivial
open PySem PySem.W PyProof.Rows
set_option maxRecDepth 100000 in
set_option maxHeartbeats 0 in
theorem PySem.Challenge.cw_standup_k25_whole_others_of_others_holds : PySem.Challenge.rw_standup_k25_whole_others_of_others.Holds := by
 w_on; o_law; k_head; (case hw=>w_witness2)
 k_fill
 refine Cj.walk (l:=PySem.Challenge.rw_standup_k25_whole_others_of_others) rfl rfl (fun w h Y=>PySem.W.kIn_of Y) ?F
 case F=>
  intro w mg fa h KX G Hf
  refine' Cj.all_mk KX G Hf ?e_NoOther ?e_NoNames ?e_NoMap ?a0 ?l0 ?c0 ?k0 ?a1 ?l1 ?c1 ?k1 ?a2 ?l2 ?c2 ?k2 ?a3 ?l3 ?c3 ?k3 ?a4 ?l4 ?c4 ?k4 ?a5 ?l5 ?c5 ?k5 ?a6 ?l6 ?c6 ?k6 ?a7 ?l7 ?c7 ?k7 ?a8 ?l8 ?c8 ?k8 ?a9 ?l9 ?c9 ?k9 ?a10 ?l10 ?c10 ?k10 ?a11 ?l11 ?c11 ?k11 ?a12 ?l12 ?c12 ?k12 ?a13 ?l13 ?c13 ?k13 ?a14 ?l14 ?c14 ?k14 ?a15 ?l15 ?c15 ?k15 ?a16 ?l16 ?c16 ?k16 ?a17 ?l17 ?c17 ?k17 ?a18 ?l18 ?c18 ?k18 ?a19 ?l19 ?c19 ?k19 ?a20 ?l20 ?c20 ?k20 ?a21 ?l21 ?c21 ?k21 ?a22 ?l22 ?c22 ?k22 ?a23 ?l23 ?c23 ?k23 ?a24 ?l24 ?c24 ?k24 ?a25 ?l25 ?c25 ?k25 ?a26 ?l26 ?c26 ?k26 ?a27 ?l27 ?c27 ?k27 ?z0 ?z1 ?z2 ?z3 ?z4 ?z5 ?z6 ?z7 ?z8 ?z9 ?z10 ?z11 ?z12 ?z13 ?x_NoOther ?x_NoNames
  (case e_NoOther=>k_is)
  (case e_NoNames=>k_is)
  (case e_NoMap=>k_is)
  (case a0=>k_is)
  (case l0=>k_is)
  (case c0=>k_is)
  (case k0=>k_is)
  (case a1=>k_is)
  (case l1=>k_is)
  (case c1=>k_is)
  (case k1=>k_is)
  (case a2=>k_is)
  (case l2=>k_is)
  (case c2=>k_is)
  (case k2=>k_is)
  (case a3=>k_is)
  (case l3=>k_is)
  (case c3=>k_is)
  (case k3=>k_is)
  (case a4=>k_is)
  (case l4=>k_is)
  (case c4=>k_is)
  (case k4=>k_is)
  (case a5=>k_is)
  (case l5=>k_is)
  (case c5=>k_is)
  (case k5=>k_is)
  (case a6=>k_is)
  (case l6=>k_is)
  (case c6=>k_is)
  (case k6=>k_is)
  (case a7=>k_is)
  (case l7=>k_is)
  (case c7=>k_is)
  (case k7=>k_is)
  (case a8=>k_is)
  (case l8=>k_is)
  (case c8=>k_is)
  (case k8=>k_is)
  (case a9=>k_is)
  (case l9=>k_is)
  (case c9=>k_is)
  (case k9=>k_is)
  (case a10=>k_is)
  (case l10=>k_is)
  (case c10=>k_is)
  (case k10=>k_is)
  (case a11=>k_is)
  (case l11=>k_is)
  (case c11=>k_is)
  (case k11=>k_is)
  (case a12=>k_is)
  (case l12=>k_is)
  (case c12=>k_is)
  (case k12=>k_is)
  (case a13=>k_is)
  (case l13=>k_is)
  (case c13=>k_is)
  (case k13=>k_is)
  (case a14=>k_is)
  (case l14=>k_is)
  (case c14=>k_is)
  (case k14=>k_is)
  (case a15=>k_is)
  (case l15=>k_is)
  (case c15=>k_is)
  (case k15=>k_is)
  (case a16=>k_is)
  (case l16=>k_is)
  (case c16=>k_is)
  (case k16=>k_is)
  (case a17=>k_is)
  (case l17=>k_is)
  (case c17=>k_is)
  (case k17=>k_is)
  (case a18=>k_is)
  (case l18=>k_is)
  (case c18=>k_is)
  (case k18=>k_is)
  (case a19=>k_is)
  (case l19=>k_is)
  (case c19=>k_is)
  (case k19=>k_is)
  (case a20=>k_is)
  (case l20=>k_is)
  (case c20=>k_is)
  (case k20=>k_is)
  (case a21=>k_is)
  (case l21=>k_is)
  (case c21=>k_is)
  (case k21=>k_is)
  (case a22=>k_is)
  (case l22=>k_is)
  (case c22=>k_is)
  (case k22=>k_is)
  (case a23=>k_is)
  (case l23=>k_is)
  (case c23=>k_is)
  (case k23=>k_is)
  (case a24=>k_is)
  (case l24=>k_is)
  (case c24=>k_is)
  (case k24=>k_is)
  (case a25=>k_is)
  (case l25=>k_is)
  (case c25=>k_is)
  (case k25=>k_is)
  (case a26=>k_is)
  (case l26=>k_is)
  (case c26=>k_is)
  (case k26=>k_is)
  (case a27=>k_is)
  (case l27=>k_is)
  (case c27=>k_is)
  (case k27=>k_is)
  (case z0=>k_is)
  (case z1=>k_is)
  (case z2=>k_is)
  (case z3=>k_is)
  (case z4=>k_is)
  (case z5=>k_is)
  (case z6=>k_is)
  (case z7=>k_is)
  (case z8=>k_is)
  (case z9=>k_is)
  (case z10=>k_is)
  (case z11=>k_is)
  (case z12=>k_is)
  (case z13=>k_is)
  (case x_NoOther=>k_exc)
  (case x_NoNames=>k_exc)
