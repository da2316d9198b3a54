import PyProof.Rows.All
import Wide.All
import OpenK.AllK
import Wide.FinOn
import Lean
import PyProof.EqAt
import PyProof.EqKinds
import PyProof.TupleCall
import KE.KRevIter
import KE.KIntText
import KE.KDictList
import PyProof.Rows.TupDisplay
import PySem.Challenge.RW_standup_k33_whole_tight_maps_have_roads
set_option Elab.async false
set_option linter.all false
set_option maxRecDepth 100000
set_option maxHeartbeats 4000000
namespace L2
open PySem PySem.Spec PyProof.Rows
abbrev Key:=Sum Int Str
def ko:Key→Value→Bool
 | .inl k,v=>Value.isInt k v
 | .inr x,v=>Value.isStrOf x v
def EW (w:World):Key→Int
 | .inl k=>hashInt k
 | .inr x=>hashStr w x
theorem bD:∀ {k:Key} {v:Value},ko k v = true→(∃ i t,k = Sum.inl i∧v = Value.int i t)∨(∃ x t,k = Sum.inr x∧v = Value.str x t)
 | .inl i,v,h=>by
  obtain ⟨t,e⟩:=Value.isInt_shape (k:=i) (v:=v) h
  exact .inl ⟨i,t,rfl,e⟩
 | .inr x,v,h=>by
  obtain ⟨t,e⟩:=Value.isStrOf_shape (x:=x) (v:=v) h
  exact .inr ⟨x,t,rfl,e⟩
theorem qH (i:Int) (t:Tok):ko (.inl i) (.int i t) = true:=by simp [ko,Value.isInt]
theorem qG (x:Str) (t:Tok):ko (.inr x) (.str x t) = true:=by simp [ko,Value.isStrOf]
theorem yf (a b:Int):decide ((Sum.inl a:Key) = Sum.inl b) = (a == b):=by
 by_cases e:a = b
 ·subst e; simp
 ·have h:¬ (Sum.inl a:Key) = Sum.inl b:=fun q=>e (Sum.inl.inj q)
  rw [decide_eq_false h]
  exact (beq_eq_false_iff_ne.mpr e).symm
theorem yc (a b:Str):decide ((Sum.inr a:Key) = Sum.inr b) = decide (a = b):=by
 by_cases e:a = b
 ·subst e; simp
 ·have h:¬ (Sum.inr a:Key) = Sum.inr b:=fun q=>e (Sum.inr.inj q)
  rw [decide_eq_false h,decide_eq_false e]
theorem ye (a:Int) (b:Str):decide ((Sum.inl a:Key) = Sum.inr b) = false:=decide_eq_false (fun q=>nomatch q)
theorem yd (a:Str) (b:Int):decide ((Sum.inr a:Key) = Sum.inl b) = false:=decide_eq_false (fun q=>nomatch q)
def bp (prog:Program) (w:World):PySem.KeyKind prog w Key where
 is:=ko
 hash:=EW w
 inj:=fun v a b ha hb=>by
  rcases bD ha with ⟨i,t,rfl,rfl⟩ | ⟨x,t,rfl,rfl⟩
  ·rcases bD hb with ⟨j,u,rfl,e⟩ | ⟨y,u,rfl,e⟩
   ·injection e with e1 _; rw [e1]
   ·exact nomatch e
  ·rcases bD hb with ⟨j,u,rfl,e⟩ | ⟨y,u,rfl,e⟩
   ·exact nomatch e
   ·injection e with e1 _; rw [e1]
 byValue:=fun k v h=>by
  rcases bD h with ⟨i,t,rfl,rfl⟩ | ⟨x,t,rfl,rfl⟩ <;> rfl
 pyHash:=fun hv h=>by
  rcases bD hv with ⟨i,t,rfl,rfl⟩ | ⟨x,t,rfl,rfl⟩
  ·exact wpAny_pyHash_int h
  ·exact wpAny_pyHash_str h
 eqBool:=fun hu hv h=>by
  rcases bD hu with ⟨i,t,rfl,rfl⟩ | ⟨x,t,rfl,rfl⟩
  ·rcases bD hv with ⟨j,u,rfl,rfl⟩ | ⟨y,u,rfl,rfl⟩
   ·rw [yf] at h; exact wpAny_eqBool_int h
   ·rw [ye] at h; exact SeqAt.EqAt.int_str i t y u _ _ _ _ h
  ·rcases bD hv with ⟨j,u,rfl,rfl⟩ | ⟨y,u,rfl,rfl⟩
   ·rw [yd] at h; exact SeqAt.EqAt.str_int x t j u _ _ _ _ h
   ·rw [yc] at h; exact wpAny_eqBool_str h
 «strs»:=fun k x t v h=>by
  rcases bD h with ⟨i,u,rfl,e⟩ | ⟨y,u,rfl,e⟩
  ·exact nomatch e
  ·injection e with e1 _
   subst e1
   cases v <;> rfl
theorem m8 (prog:Program) (w:World) (i:Int) (t:Tok):(bp prog w).is (.inl i) (.int i t) = true:=qH i t
theorem m7 (prog:Program) (w:World) (x:Str) (t:Tok):(bp prog w).is (.inr x) (.str x t) = true:=qG x t
end L2
namespace L2
open PySem PySem.Spec PyProof.Rows
inductive V where
 | bK | bl (b:Bool) | int (i:Int) | str (x:Str) | nT (b:Array UInt8) | uk (b:UInt64) | ref (a:Addr) | ty (n:String)
 deriving DecidableEq
def RelV:V→Value→Prop
 | .bK,u=>u = Value.none
 | .bl b,u=>u = Value.bool b
 | .int i,u=>∃ t,u = Value.int i t
 | .str x,u=>∃ t,u = Value.str x t
 | .nT b,u=>∃ t,u = Value.bytes b t
 | .uk b,u=>∃ t,u = Value.float b t
 | .ref a,u=>u = Value.ref a
 | .ty n,u=>u = Value.type n
abbrev Vals:List V→List Value→Prop:=Paired RelV
theorem Vals.length {xs:List V} {us:List Value} (r:Vals xs us):xs.length = us.length:=Paired.length r
theorem Vals.get:∀ {xs:List V} {us:List Value} {i:Nat} {x:V},Vals xs us→xs[i]? = some x→∃ u,us[i]? = some u∧RelV x u
 | _,_,_,_,.nil,e=>by simp at e
 | _,_,0,_,.cons r _,e=>by simp at e; subst e; exact ⟨_,rfl,r⟩
 | _,_,i + 1,x,.cons _ t,e=>by
  obtain ⟨u,h1,h2⟩:=Vals.get (i:=i) (x:=x) t (by simpa using e)
  exact ⟨u,by simpa using h1,h2⟩
theorem Vals.set {x:V} {u:Value} (r:RelV x u):∀ {xs:List V} {us:List Value} (i:Nat),Vals xs us→Vals (xs.set i x) (us.set i u)
 | _,_,_,.nil=>.nil
 | _,_,0,.cons _ t=>.cons r t
 | _,_,i + 1,.cons q t=>.cons q (Vals.set r i t)
theorem Vals.append:∀ {xs ys:List V} {us ws:List Value},Vals xs us→Vals ys ws→Vals (xs ++ ys) (us ++ ws)
 | _,_,_,_,.nil,s=>s
 | _,_,_,_,.cons r t,s=>.cons r (Vals.append t s)
theorem Vals.take:∀ {xs:List V} {us:List Value} (n:Nat),Vals xs us→Vals (xs.take n) (us.take n)
 | _,_,0,_=>.nil
 | _,_,_ + 1,.nil=>.nil
 | _,_,n + 1,.cons r t=>.cons r (Vals.take n t)
theorem Vals.drop:∀ {xs:List V} {us:List Value} (n:Nat),Vals xs us→Vals (xs.drop n) (us.drop n)
 | _,_,0,r=>r
 | _,_,_ + 1,.nil=>.nil
 | _,_,n + 1,.cons _ t=>Vals.drop n t
def jQ:Option V→Option Value→Prop
 | some v,some u=>RelV v u
 | none,none=>True
 | _,_=>False
def KV {κ : Type}:List (κ×V)→List (κ×Value)→Prop:=Paired fun (p : κ×V) (q : κ×Value)=>p.1 = q.1∧RelV p.2 q.2
def kV:Key→V
 | .inl i=>.int i
 | .inr x=>.str x
inductive HO where
 /-- a list -/
 | lst (xs:List V)
 /-- a tuple (never changes) -/
 | tup (xs:List V)
 /-- a dict zw keys are ints and texts; one zw keys are tuples of ints and texts (rJ empty one is both) -/
 | dK (aj:List (Key×V)) | dT (aj:List (List Key×V))
 /-- a set of ints: aL members,aL size -/
 | set (S:Int→Bool) (n:Nat)
 /-- an instance of rJ class at C,aL dict at dx,aL attributes -/
 | ins (C dx:Addr) (fs:List (Str×V))
 /-- rJ dict of rJ instance at x -/
 | own (x:Addr)
 /-- rJ dict of an exception -/
 | xd (fs:List (Str×V))
 /-- a bound method,f of x -/
 | met (f x:Addr)
 /-- a range object lo,lo + 1,.. below hi -/
 | DF (lo hi:Int)
 /-- a zA Jq is known to rJ object (rJ rV; a dict while a loop walks it): read,never written while it is so -/
 | eG (o:Obj) (u:HO)
 /-- a code object's table -/
 | xi (ps:Array Value)
 /-- any other zA,by C2 is true of aL one object (a def of one's own: NW a S n:=HO.ext fun h=>..) -/
 | ext (φ : Heap→Prop)
abbrev Hp:=Addr→Option HO
def upd (H:Hp) (a:Addr) (o:HO):Hp:=fun b=>if b = a then some o else H b
theorem af {H:Hp} {a:Addr} {o:HO}:upd H a o a = some o:=by unfold upd; rw [if_pos rfl]
theorem ai {H:Hp} {a b:Addr} {o:HO} (h:b≠a):upd H a o b = H b:=by unfold upd; rw [if_neg h]
theorem sO {H:Hp} {a b:Addr} {o u:HO} (h:H a = some o) (h':H b = some u) (d:o≠u):a≠b:=by
 intro e; subst e; rw [h] at h'; exact d (Option.some.inj h')
theorem ay {H:Hp} {a b:Addr} {o:HO} (h:H a = some o) (h':H b = none):a≠b:=by
 intro e; subst e; rw [h] at h'; cases h'
section
variable (P:Program) (w:World)
def bF (H:Hp) (h:Heap) (a:Addr):HO→Prop
 | .lst xs=>xs.length≤sizeLine∧∃ (aL:List Value) (n:Nat),Vals xs aL∧h.get? a = some { cls:=.type "list",data:=.seq aL.toArray n }
 | .tup xs=>xs.length≤sizeLine∧∃ aL:List Value,Vals xs aL∧IsTup h a aL.toArray
 | .dK aj=>aj.length≤sizeLine∧(a == sysModules) = false∧∃ vs,KV aj vs∧h.DictOf (bp P w) a vs
 | .dT aj=>aj.length≤sizeLine∧(a == sysModules) = false∧∃ xs:List (List Key×Addr×Value),
   Paired (fun (p:List Key×V) (q:List Key×Addr×Value)=>p.1 = q.1∧H q.2.1 = some (.tup (p.1.map kV))∧RelV p.2 q.2.2) aj xs∧
   ∃ o es ep,h.get? a = some o∧o.ExactDict∧o.data = .dict es ep∧es.toList = xs.map (entryOfKey (tupleKind (bp P w)))∧(xs.map (·.1)).Nodup
 | .set S n=>h.SetOf (intKind P w) a S n
 | .ins C dx fs=>H dx = some (.own a)∧fs.length≤1000∧dx≠a∧h.get? a = some (PySem.W.instObj C dx)∧
   ∃ mA,h.Ns1 dx mA∧(∀ f,jQ (fs.lookup f) (mA f))∧PySem.Within mA (fs.map (·.1))
 | .own _=>∃ o,h.get? a = some o
 | .xd fs=>∃ mA,h.Ns1 a mA∧∀ f,jQ (fs.lookup f) (mA f)
 | .DF lo hi=>∃ t u v,h.get? a = some { cls:=.type "range",data:=.fields #[.int lo t,.int hi u,.int 1 v] }
 | .eG o u=>h.get? a = some o∧bF H h a u
 | .xi ps=>h.get? a = some { cls:=.none,data:=.fields ps }
 | .met f x=>h.get? a = some (PySem.W.methodObj (.ref f) (.ref x))
 | .ext φ=>φ h∧(∃ o,h.get? a = some o)∧∀ h1 h2:Heap,φ h1→(∀ o,h1.get? a = some o→h2.get? a = some o)→φ h2
def fI (H:Hp) (h:Heap):Prop:=∀ a o,H a = some o→bF P w H h a o
end
section
variable {P:Program} {w:World} {H H':Hp} {h h':Heap} {a:Addr} {o:HO}
theorem bF.lt (x:bF P w H h a o):a < h.objs.size:=by
 cases o with
 | lst xs=>obtain ⟨_,_,_,_,e⟩:=x; exact Heap.lt_size e
 | tup xs=>obtain ⟨_,_,_,p⟩:=x; exact p.lt
 | dK aj=>obtain ⟨_,_,_,_,o,_,_,e,_⟩:=x; exact Heap.lt_size e
 | dT aj=>obtain ⟨_,_,_,_,o,_,_,e,_⟩:=x; exact Heap.lt_size e
 | set S n=>obtain ⟨o,_,_,_,e,_⟩:=x; exact Heap.lt_size e
 | ins C dx fs=>obtain ⟨_,_,_,e,_⟩:=x; exact Heap.lt_size e
 | own y=>obtain ⟨_,e⟩:=x; exact Heap.lt_size e
 | xd fs=>obtain ⟨_,⟨_,_,_,e,_⟩,_⟩:=x; exact Heap.lt_size e
 | DF lo hi=>obtain ⟨_,_,_,e⟩:=x; exact Heap.lt_size e
 | eG ob u=>obtain ⟨e,_⟩:=x; exact Heap.lt_size e
 | xi ps=>exact Heap.lt_size (show h.get? a = some _ from x)
 | met f y=>exact Heap.lt_size (show h.get? a = some _ from x)
 | ext φ=>obtain ⟨_,⟨_,e⟩,_⟩:=x; exact Heap.lt_size e
theorem Paired.qF {α β : Type} {F G : α→β→Prop}:∀ {l₁ : List α} {l₂ : List β},Paired F l₁ l₂→(∀ a b,F a b→G a b)→Paired G l₁ l₂
 | _,_,.nil,_=>.nil
 | _,_,.cons r t,f=>.cons (f _ _ r) (Paired.qF t f)
theorem bF.kT (x:bF P w H h a o) (k:∀ b u,(b = a∨H b = some (.own a))→h.get? b = some u→h'.get? b = some u)
  (ho:∀ b,H b = some (.own a)→H' b = some (.own a)) (ht:∀ b xs,H b = some (.tup xs)→H' b = some (.tup xs)):bF P w H' h' a o:=by
 induction o with
 | lst xs=>obtain ⟨z,aL,n,r,e⟩:=x; exact ⟨z,aL,n,r,k _ _ (.inl rfl) e⟩
 | tup xs=>obtain ⟨z,aL,r,ob,e,c⟩:=x; exact ⟨z,aL,r,ob,k _ _ (.inl rfl) e,c⟩
 | dK aj=>obtain ⟨z,y,vs,r,ob,es,ep,e,c⟩:=x; exact ⟨z,y,vs,r,ob,es,ep,k _ _ (.inl rfl) e,c⟩
 | dT aj=>
  obtain ⟨z,y,xs,r,ob,es,ep,e,c⟩:=x
  exact ⟨z,y,xs,Paired.qF r fun p q z=>⟨z.1,ht _ _ z.2.1,z.2.2⟩,ob,es,ep,k _ _ (.inl rfl) e,c⟩
 | set S n=>obtain ⟨ob,es,ep,t,e,c⟩:=x; exact ⟨ob,es,ep,t,k _ _ (.inl rfl) e,c⟩
 | ins C dx fs=>
  obtain ⟨d,z,ne,e,mA,⟨od,es,ep,e2,c⟩,r⟩:=x
  exact ⟨ho _ d,z,ne,k _ _ (.inl rfl) e,mA,⟨od,es,ep,k _ _ (.inr d) e2,c⟩,r⟩
 | own y=>obtain ⟨ob,e⟩:=x; exact ⟨ob,k _ _ (.inl rfl) e⟩
 | xd fs=>obtain ⟨mA,⟨od,es,ep,e,c⟩,r⟩:=x; exact ⟨mA,⟨od,es,ep,k _ _ (.inl rfl) e,c⟩,r⟩
 | DF lo hi=>obtain ⟨t,u,v,e⟩:=x; exact ⟨t,u,v,k _ _ (.inl rfl) e⟩
 | eG ob u ih=>obtain ⟨e,q⟩:=x; exact ⟨k _ _ (.inl rfl) e,ih q⟩
 | xi ps=>
  have e:h.get? a = some { cls:=.none,data:=.fields ps }:=x
  show h'.get? a = some { cls:=.none,data:=.fields ps }
  exact k a _ (.inl rfl) e
 | met f y=>
  have e:h.get? a = some (PySem.W.methodObj (.ref f) (.ref y)):=x
  show h'.get? a = some (PySem.W.methodObj (.ref f) (.ref y))
  exact k a _ (.inl rfl) e
 | ext φ=>obtain ⟨p,⟨o,e⟩,st⟩:=x; exact ⟨st _ _ p fun o q=>k _ _ (.inl rfl) q,⟨o,k _ _ (.inl rfl) e⟩,st⟩
theorem fI.lt (x:fI P w H h) (e:H a = some o):a < h.objs.size:=(x a o e).lt
theorem fI.fresh (x:fI P w H h) (e:h.objs.size≤a):H a = none:=by
 cases q:H a with
 | none=>rfl
 | some u=>exact absurd (Nat.lt_of_lt_of_le (x.lt q) e) (Nat.lt_irrefl _)
theorem fI.kept (x:fI P w H h) (k:∀ b u,h.get? b = some u→h'.get? b = some u):fI P w H h':=fun a o e=>
 (x a o e).kT (fun b u _ q=>k b u q) (fun _ q=>q) fun _ _ q=>q
theorem fI.laid (x:fI P w H h) (k:∀ b u,h.get? b = some u→h'.get? b = some u) (hp:h.objs.size≤a) (new:bF P w (upd H a o) h' a o):fI P w (upd H a o) h':=fun b u e=>by
 have hn:=x.fresh hp
 by_cases hb:b = a
 ·subst hb; rw [af] at e; cases e; exact new
 ·rw [ai hb] at e
  exact (x b u e).kT (fun c v _ q=>k c v q) (fun c q=>by rw [ai (ay q hn)]; exact q) fun c xs q=>by rw [ai (ay q hn)]; exact q
end
def Rd (H:Hp) (a:Addr) (u:HO):Prop:=H a = some u∨∃ o,H a = some (.eG o u)
theorem Rd.ok {P:Program} {w:World} {H:Hp} {h:Heap} {a:Addr} {u:HO} (r:Rd H a u) (x:fI P w H h):bF P w H h a u:=by
 rcases r with r | ⟨o,r⟩
 ·exact x a u r
 ·obtain ⟨_,q⟩:=x a _ r
  exact q
def BL:Option HO→Prop
 | some (.lst _)=>True
 | some (.dK _)=>True
 | some (.dT _)=>True
 | some (.set _ _)=>True
 | some (.ins _ _ _)=>True
 | some (.ext _)=>True
 | _=>False
section
variable {P:Program} {w:World} {H:Hp} {h h':Heap} {x e:Addr} {o':HO}
theorem fI.write (ok:fI P w H h) (mu:BL (H x)) (he:e = x∨H e = some (.own x)) (k:∀ b u,b≠e→h.get? b = some u→h'.get? b = some u) (zi:∃ u,h'.get? e = some u)
  (new:bF P w (upd H x o') h' x o'):fI P w (upd H x o') h':=fun b u q=>by
 have Ai:∀ c y,H c = some (.own y)→c≠x:=fun c y r z=>by subst z; rw [r] at mu; exact mu
 have EG:∀ c xs,H c = some (.tup xs)→c≠x:=fun c xs r z=>by subst z; rw [r] at mu; exact mu
 by_cases hb:b = x
 ·subst hb; rw [af] at q; cases q; exact new
 ·rw [ai hb] at q
  by_cases yz:b = e
  ·have q':H b = some (.own x):=by
    rcases he with z | z
    ·exact absurd (yz.trans z) hb
    ·rw [yz]; exact z
   rw [q] at q'; cases q'
   obtain ⟨v,hv⟩:=zi
   exact ⟨v,by rw [yz]; exact hv⟩
  ·refine (ok b u q).kT (fun c v hc r=>k c v ?_ r) (fun c r=>by rw [ai (Ai c b r)]; exact r) fun c xs r=>by rw [ai (EG c xs r)]; exact r
   rcases hc with rfl | hc
   ·exact yz
   ·rintro rfl
    rcases he with z | z
    ·exact Ai c b hc z
    ·rw [hc] at z; cases z; exact hb rfl
end
structure Un (fs ex:List Addr) (H H':Hp) (h h':Heap):Prop where
 keep:∀ b o,h.get? b = some o→H b = none→b∉fs→b∉ex→h'.get? b = some o
 slot:∀ b o,h.get? b = some o→H b = none→b∈fs→b∉ex→∃ sl,h'.get? b = some { o with slots:=sl }
 free:∀ b o,h.get? b = some o→H b = none→b∉ex→H' b = none
 there:∀ b o,h.get? b = some o→b∉ex→∃ o',h'.get? b = some o'
 kP:∀ b xs,H b = some (.tup xs)→H' b = some (.tup xs)
 jO:∀ b o u,H b = some (.eG o u)→H' b = some (.eG o u)
 kQ:∀ b ps,H b = some (.xi ps)→∃ more,H' b = some (.xi (ps ++ more))
section
variable {fs Cy ex O9:List Addr} {H H1 H2:Hp} {h h1 h2 h':Heap} {a x e:Addr} {o:HO}
theorem Un.any (u:Un fs ex H H1 h h1) {b:Addr} {ob:Obj} (q:h.get? b = some ob) (n:H b = none) (hx:b∉ex):∃ sl,h1.get? b = some { ob with slots:=sl }:=by
 by_cases hb:b∈fs
 ·exact u.slot b ob q n hb hx
 ·exact ⟨ob.slots,u.keep b ob q n hb hx⟩
theorem Un.kept (k:∀ b u,h.get? b = some u→h'.get? b = some u):Un fs ex H H h h':=
 ⟨fun b ob q _ _ _=>k b ob q,fun b ob q _ _ _=>⟨ob.slots,k b ob q⟩,fun _ _ _ n _=>n,fun b ob q _=>⟨ob,k b ob q⟩,fun _ _ q=>q,fun _ _ _ q=>q,fun _ ps q=>⟨#[],by rw [q]; simp⟩⟩
theorem Un.refl:Un fs ex H H h h:=Un.kept fun _ _ q=>q
theorem Un.laid (k:∀ b u,h.get? b = some u→h'.get? b = some u) (hp:h.objs.size≤a) (hn:H a = none):Un fs ex H (upd H a o) h h' where
 keep:=fun b u q _ _ _=>k b u q
 slot:=fun b u q _ _ _=>⟨u.slots,k b u q⟩
 free:=fun b u q n _=>by rw [ai (Nat.ne_of_lt (Nat.lt_of_lt_of_le (Heap.lt_size q) hp))]; exact n
 there:=fun b u q _=>⟨u,k b u q⟩
 kP:=fun b xs q=>by rw [ai (ay q hn)]; exact q
 jO:=fun b u xs q=>by rw [ai (ay q hn)]; exact q
 kQ:=fun b ps q=>⟨#[],by rw [ai (ay q hn),q]; simp⟩
theorem Un.write (mu:BL (H x)) (he:e = x∨H e = some (.own x)) (k:∀ b u,b≠e→h.get? b = some u→h'.get? b = some u) (zi:∃ u,h'.get? e = some u):Un fs ex H (upd H x o) h h':=by
 have hx:∀ b,H b = none→b≠x:=fun b n z=>by subst z; rw [n] at mu; exact mu
 have hb:∀ b,H b = none→b≠e:=fun b n z=>by
  subst z
  rcases he with r | r
  ·exact hx b n r
  ·rw [n] at r; cases r
 have hm:∀ b u,H b = some u→¬ BL (some u)→b≠x:=fun b u q nm z=>by subst z; rw [q] at mu; exact nm mu
 refine ⟨fun b u q n _ _=>k b u (hb b n) q,fun b u q n _ _=>⟨u.slots,k b u (hb b n) q⟩,fun b u q n _=>by rw [ai (hx b n)]; exact n,fun b u q _=>?_,
  fun b xs q=>by rw [ai (hm b _ q fun z=>z)]; exact q,fun b u xs q=>by rw [ai (hm b _ q fun z=>z)]; exact q,fun b ps q=>⟨#[],by rw [ai (hm b _ q fun z=>z),q]; simp⟩⟩
 by_cases yz:b = e
 ·subst yz; exact zi
 ·exact ⟨u,k b u yz q⟩
end
def BV (h:Heap) (H:Hp):List Addr:=(List.range h.objs.size).filter fun a=>(H a).isSome
def lY (h:Heap) (H:Hp):Heap:=PySem.W.hideAll h (BV h H)
theorem qK (h:Heap) (H:Hp):(lY h H).objs.size = h.objs.size:=PySem.W.hideAll_size _ _
theorem tF {h:Heap} {H:Hp} {b:Addr} {o:Obj} (e:h.get? b = some o) (n:H b = none):(lY h H).get? b = some o:=
 PySem.W.hideAll_get _ e fun hm=>by
  have q:(H b).isSome = true:=(List.mem_filter.mp hm).2
  rw [n] at q; simp at q
theorem u6 {h:Heap} {H:Hp} {b:Addr} {o:Obj} (e:(lY h H).get? b = some o):h.get? b = some o∧H b = none:=by
 have e':h.get? b = some o:=PySem.W.of_hideAll (BV h H) e
 refine ⟨e',?_⟩
 cases q:H b with
 | none=>rfl
 | some x=>
  have hm:b∈BV h H:=List.mem_filter.mpr ⟨List.mem_range.mpr (Heap.lt_size e'),by simp [q]⟩
  have z:(lY h H).get? b = none:=PySem.W.hideAll_none (BV h H) hm
  rw [z] at e; cases e
def vD (g h:Heap) (L:Addr):List (Addr×Obj):=(List.range h.objs.size).filterMap fun a=>if a = L∨(g.get? a).isSome = true then none else (h.get? a).map fun o=>(a,o)
def rest (g h:Heap) (L d:Addr):List (Addr×Obj):=(vD g h L).filter fun p=>decide (p.1≠d)
end L2
namespace L2
open PySem PySem.Spec PyProof.Rows
structure Mod (K:PySem.W.Frag) (mg:Str→Option Value) (base:Heap):Prop where
 EV:K.In base
 glob:base.Ns mainGlobals mg
 blt:∃ mb,base.Ns builtinsNs mb∧∀ x:Str,x≠ "__name__"→mb x = bootBuiltins x
 nolimit:base.NoLimit
structure Cx where
 prog:Program
 w:World
 K:PySem.W.Frag
 mg:Str→Option Value
 base:Heap
 A:Around
 N:List Str
 s₀ : Shared
 H₀ : Hp
 env:Env
 outer:List Env
 stack:List Env
 ex:List Addr
 fn:Str→Bool
 calm:Bool
 pn:List (Addr×Obj)
 xe:Value→Shared→Prop
def nD (l:List Env):List Addr:=l.filterMap (·.frame)
abbrev Cx.fs (X:Cx):List Addr:=nD X.outer
def CS (sc:Scope) (x:Str):Prop:=sc.names.lookup x = some .local∨sc.names.lookup x = some .cell∨sc.names.lookup x = some .free
def Loc (sc:Scope) (x:Str):Prop:=sc.names.lookup x = some .local∨sc.names.lookup x = some .cell
def Look (env:Env) (h:Heap) (m:Str→Option Value) (x:Str) (u:Value):Prop:=
 (env.kindOf x = some .local∧m x = some u)∨((env.kindOf x = some .cell∨env.kindOf x = some .free)∧∃ c,env.cells.lookup x = some c∧h.IsCell c (some u))
structure Cx.Ok (X:Cx):Prop where
 mod:Mod X.K X.mg X.base
 kind:X.env.scope.kind = .function
 glob:X.env.globals = mainGlobals
 blt:X.env.builtins = builtinsNs
 above:X.s₀.heap.objs.size≤X.env.locals
 inj:∀ x y c,X.env.cells.lookup x = some c→X.env.cells.lookup y = some c→x = y
 has:∀ x,(X.env.kindOf x = some .cell∨X.env.kindOf x = some .free)→∃ c,X.env.cells.lookup x = some c
 BH:∀ x c,X.fn x = true→X.env.cells.lookup x = some c→X.s₀.heap.objs.size≤c
 hd:X.calm = true→X.A.handled = none
 frames:X.A.frames = some X.stack
 zO:X.stack = X.outer∨(X.stack = X.env :: X.outer∧X.env.frame = some X.env.locals)
 IF:∀ b∈X.ex,b≠X.env.locals∧∀ x c,X.env.cells.lookup x = some c→c≠b
 bs:∀ b o,X.base.get? b = some o→X.s₀.heap.get? b = some o∧X.H₀ b = none
 yP:X.base.objs.size≤X.s₀.heap.objs.size
 sJ:∀ b o,X.base.get? b = some o→b∉X.ex
 vx:∀ b∈X.ex,b∉X.fs
 jr:X.s₀.heap.FunFrames X.base X.outer
 zk:∀ b∈X.fs,X.H₀ b = none
structure Inv (X:Cx) (pins:List (Addr×Obj)) (σ : List (Option V)) (H:Hp) (s:Shared):Prop where
 ok:X.Ok
 os:s.os = X.s₀.os
 bare:AllBare s.gens
 base:Un X.fs X.ex X.H₀ H X.s₀.heap s.heap
 loc:∃ m,s.heap.Ns X.env.locals m∧∀ (i:Nat) (x:Str) (v:V),X.N[i]? = some x→σ[i]? = some (some v)→CS X.env.scope x→∃ u,RelV v u∧Look X.env s.heap m x u
 cell:∀ x c,X.env.cells.lookup x = some c→∃ v,s.heap.IsCell c v
 free:H X.env.locals = none
 eI:∀ x c,X.env.cells.lookup x = some c→H c = none
 pin:∀ p∈X.pn ++ pins,s.heap.get? p.1 = some p.2∧H p.1 = none∧p.1≠X.env.locals∧p.1∉X.fs∧∀ v,p.2.data≠.cell v
 bE:fI X.prog X.w H s.heap
 len : σ.length = X.N.length
section
variable {X:Cx} {pins:List (Addr×Obj)} {σ : List (Option V)} {H H':Hp} {s:Shared} {h':Heap}
theorem Cx.Ok.EI (ok:X.Ok) {b:Addr} {o:Obj} (e:X.base.get? b = some o):b∉X.fs:=fun hb=>by
 have:=(ok.jr.mem hb).1
 rw [e] at this; cases this
theorem Inv.bs (I:Inv X pins σ H s):∀ b o,X.base.get? b = some o→s.heap.get? b = some o∧H b = none:=fun b o e=>
 ⟨I.base.keep b o (I.ok.bs b o e).1 (I.ok.bs b o e).2 (I.ok.EI e) (I.ok.sJ b o e),I.base.free b o (I.ok.bs b o e).1 (I.ok.bs b o e).2 (I.ok.sJ b o e)⟩
theorem Inv.bk (I:Inv X pins σ H s):∀ b o,X.base.get? b = some o→s.heap.get? b = some o:=fun b o e=>(I.bs b o e).1
theorem Inv.mod (I:Inv X pins σ H s):Mod X.K X.mg X.base:=I.ok.mod
theorem Inv.zd (I:Inv X pins σ H s):X.K.In s.heap:=I.ok.mod.EV.keeps I.bk
theorem Inv.lt (I:Inv X pins σ H s):X.env.locals < s.heap.objs.size:=let ⟨_,hn,_⟩:=I.loc; hn.lt
theorem Inv.sz (I:Inv X pins σ H s):X.s₀.heap.objs.size≤s.heap.objs.size:=Nat.le_trans I.ok.above (Nat.le_of_lt I.lt)
theorem Inv.EH (I:Inv X pins σ H s) {a:Addr} (h:s.heap.objs.size≤a):a∉X.fs:=fun hb=>by
 obtain ⟨_,o,ho,_⟩:=I.ok.jr.mem hb
 exact absurd (Nat.lt_of_lt_of_le (Heap.lt_size ho) (Nat.le_trans I.sz h)) (Nat.lt_irrefl _)
theorem Inv.yL (I:Inv X pins σ H s):∀ x c,X.env.cells.lookup x = some c→c≠X.env.locals:=fun x c e z=>by
 obtain ⟨v,o,ho,hd⟩:=I.cell x c e
 obtain ⟨m,⟨o',es,ep,yv,vm,_⟩,_⟩:=I.loc
 rw [z,yv] at ho; cases ho; rw [vm] at hd; cases hd
theorem Inv.jr (I:Inv X pins σ H s):s.heap.FunFrames X.base X.outer:=by
 have all:∀ (l:List Env),(∀ b∈nD l,b∈X.fs)→X.s₀.heap.FunFrames X.base l→s.heap.FunFrames X.base l:=by
  intro l
  induction l with
  | nil=>intro _ _; trivial
  | cons env r ih=>
   intro hs hl
   obtain ⟨hk,⟨L,o,hf,hn,ho,hd⟩,hr⟩:=hl
   have hL:L∈X.fs:=hs L (by unfold nD; rw [List.filterMap_cons,hf]; exact List.mem_cons_self)
   obtain ⟨sl,e⟩:=I.base.slot L o ho (I.ok.zk L hL) hL fun z=>I.ok.vx L z hL
   exact ⟨hk,⟨L,_,hf,hn,e,hd⟩,ih (fun b hb=>hs b (by unfold nD; rw [List.filterMap_cons,hf]; exact List.mem_cons_of_mem _ hb)) hr⟩
 exact all X.outer (fun _ hb=>hb) I.ok.jr
theorem Inv.stack (I:Inv X pins σ H s):s.heap.FunFrames X.base X.stack:=by
 rcases I.ok.zO with e | ⟨e,hf⟩
 ·rw [e]; exact I.jr
 ·rw [e]
  obtain ⟨m,hn,_⟩:=I.loc
  refine .cons (by rw [I.ok.kind]; decide) hf hn ?_ I.jr
  exact Heap.get?_none_of_le (Nat.le_trans I.ok.yP I.ok.above)
theorem Inv.iO (I:Inv X pins σ H s):∀ b∈nD X.stack,b∈X.env.locals :: X.fs:=fun b hb=>by
 rcases I.ok.zO with e | ⟨e,hf⟩
 ·rw [e] at hb; exact List.mem_cons_of_mem _ hb
 ·rw [e] at hb
  unfold nD at hb
  rw [List.filterMap_cons,hf] at hb
  exact hb
theorem Inv.oM (I:Inv X pins σ H s):∀ b∈nD X.stack,H b = none:=fun b hb=>by
 rcases List.mem_cons.mp (I.iO b hb) with e | hb
 ·rw [e]; exact I.free
 ·obtain ⟨_,o,ho,_⟩:=I.ok.jr.mem hb
  exact I.base.free b o ho (I.ok.zk b hb) fun z=>I.ok.vx b z hb
theorem Inv.step {g':Array GenState} {t':Nat} {d':Drawn} {ch:List Addr} (I:Inv X pins σ H s)
  (uj:∀ b∈ch,(b∈X.ex∨X.s₀.heap.objs.size≤b)∧b≠X.env.locals∧(∀ x c,X.env.cells.lookup x = some c→c≠b)∧∀ p∈X.pn ++ pins,p.1≠b)
  (keep:∀ b o,b≠X.env.locals→b∉X.fs→b∉ch→s.heap.get? b = some o→H b = none→h'.get? b = some o)
  (slot:∀ b o,b≠X.env.locals→b∈X.fs→b∉ch→s.heap.get? b = some o→H b = none→∃ sl,h'.get? b = some { o with slots:=sl }) (free:∀ b o,b∉ch→s.heap.get? b = some o→H b = none→H' b = none)
  (there:∀ b o,b∉ch→s.heap.get? b = some o→∃ o',h'.get? b = some o')
  (kP:∀ b xs,H b = some (.tup xs)→H' b = some (.tup xs)) (jO:∀ b o u,H b = some (.eG o u)→H' b = some (.eG o u)) (kQ:∀ b ps,H b = some (.xi ps)→∃ more,H' b = some (.xi (ps ++ more)))
  (ns:∀ m,s.heap.Ns X.env.locals m→h'.Ns X.env.locals m) (bE:fI X.prog X.w H' h') (hg:AllBare g') :
  Inv X pins σ H' { s with heap:=h',gens:=g',drawn:=d',toks:=t' }:=by
 have HL:∀ b o,X.s₀.heap.get? b = some o→b≠X.env.locals:=fun b o e=>Nat.ne_of_lt (Nat.lt_of_lt_of_le (Heap.lt_size e) I.ok.above)
 have Cj:∀ b o,X.s₀.heap.get? b = some o→b∉X.ex→b∉ch:=fun b o e hx hb=>by
  rcases (uj b hb).1 with z | z
  ·exact hx z
  ·exact absurd (Nat.lt_of_lt_of_le (Heap.lt_size e) z) (Nat.lt_irrefl _)
 have cellK:∀ x c,X.env.cells.lookup x = some c→∀ v,s.heap.IsCell c v→h'.IsCell c v:=fun x c e v ⟨o,ho,hd⟩=>by
  have sP:c∉ch:=fun z=>(uj c z).2.2.1 x c e rfl
  by_cases hc:c∈X.fs
  ·obtain ⟨sl,q⟩:=slot c o (I.yL x c e) hc sP ho (I.eI x c e)
   exact ⟨_,q,hd⟩
  ·exact ⟨o,keep c o (I.yL x c e) hc sP ho (I.eI x c e),hd⟩
 refine ⟨I.ok,I.os,hg,⟨fun b o e n hb hx=>?_,fun b o e n hb hx=>?_,fun b o e n hx=>?_,fun b o e hx=>?_,fun b xs e=>kP b xs (I.base.kP b xs e),fun b o xs e=>jO b o xs (I.base.jO b o xs e),fun b ps e=>?_⟩,?_,fun x c e=>?_,?_,fun x c e=>?_,fun p hp=>?_,bE,I.len⟩
 ·exact keep b o (HL b o e) hb (Cj b o e hx) (I.base.keep b o e n hb hx) (I.base.free b o e n hx)
 ·obtain ⟨sl,e1⟩:=I.base.slot b o e n hb hx
  obtain ⟨JU,e2⟩:=slot b _ (HL b o e) hb (Cj b o e hx) e1 (I.base.free b o e n hx)
  exact ⟨JU,e2⟩
 ·obtain ⟨o',e1⟩:=I.base.there b o e hx
  exact free b o' (Cj b o e hx) e1 (I.base.free b o e n hx)
 ·obtain ⟨o',e1⟩:=I.base.there b o e hx
  exact there b o' (Cj b o e hx) e1
 ·obtain ⟨m1,e1⟩:=I.base.kQ b ps e
  obtain ⟨m2,e2⟩:=kQ b _ e1
  exact ⟨m1 ++ m2,by rw [e2,Array.append_assoc]⟩
 ·obtain ⟨m,hn,hl⟩:=I.loc
  refine ⟨m,ns m hn,fun i x v e1 e2 e3=>?_⟩
  obtain ⟨u,r,l⟩:=hl i x v e1 e2 e3
  refine ⟨u,r,?_⟩
  rcases l with l | ⟨k,c,e,z⟩
  ·exact .inl l
  ·exact .inr ⟨k,c,e,cellK x c e _ z⟩
 ·obtain ⟨v,z⟩:=I.cell x c e
  exact ⟨v,cellK x c e v z⟩
 ·obtain ⟨m,⟨o,_,_,ho,_⟩,_⟩:=I.loc
  exact free _ o (fun z=>(uj _ z).2.1 rfl) ho I.free
 ·obtain ⟨v,o,ho,hd⟩:=I.cell x c e
  exact free c o (fun z=>(uj c z).2.2.1 x c e rfl) ho (I.eI x c e)
 ·obtain ⟨e,n,ne,nf,d⟩:=I.pin p hp
  have sP:p.1∉ch:=fun z=>(uj p.1 z).2.2.2 p hp rfl
  exact ⟨keep p.1 p.2 ne nf sP e n,free p.1 p.2 sP e n,ne,nf,d⟩
theorem Inv.un {t':Nat} (I:Inv X pins σ H s) (u:Un X.fs [] H H' s.heap h') (bE:fI X.prog X.w H' h'):Inv X pins σ H' { s with heap:=h',toks:=t' }:=by
 obtain ⟨m,⟨o,es,ep,ho,r⟩,_⟩:=id I.loc
 obtain ⟨sl,hL⟩:=u.any ho I.free (by simp)
 exact I.step (g':=s.gens) (d':=s.drawn) (ch:=[]) (fun _ z=>nomatch z) (fun b o _ hb _ e n=>u.keep b o e n hb (by simp)) (fun b o _ hb _ e n=>u.slot b o e n hb (by simp)) (fun b o _ e n=>u.free b o e n (by simp)) (fun b o _ e=>u.there b o e (by simp)) u.kP u.jO u.kQ (fun m' hm=>by
  obtain ⟨o',FZ,F0,yv,r'⟩:=hm
  rw [ho] at yv; cases yv
  exact ⟨_,FZ,F0,hL,r'⟩) bE I.bare
theorem Inv.call {g':Array GenState} {t':Nat} {d':Drawn} {ch:List Addr} (I:Inv X pins σ H s) (u:Un (nD X.stack) ch H H' s.heap h') (bE:fI X.prog X.w H' h') (hg:AllBare g')
  (uj:∀ b∈ch,(b∈X.ex∨X.s₀.heap.objs.size≤b)∧b≠X.env.locals∧(∀ x c,X.env.cells.lookup x = some c→c≠b)∧∀ p∈X.pn ++ pins,p.1≠b) :
  Inv X pins σ H' { s with heap:=h',gens:=g',drawn:=d',toks:=t' }:=by
 obtain ⟨m,⟨o,es,ep,ho,r⟩,_⟩:=id I.loc
 obtain ⟨sl,hL⟩:=u.any ho I.free fun z=>(uj _ z).2.1 rfl
 exact I.step (ch:=ch) uj (fun b o hL hb hc e n=>u.keep b o e n (fun z=>(List.mem_cons.mp (I.iO b z)).elim hL hb) hc) (fun b o _ _ hc e n=>u.any e n hc) (fun b o hc e n=>u.free b o e n hc) (fun b o hc e=>u.there b o e hc) u.kP u.jO u.kQ (fun m' hm=>by
  obtain ⟨o',FZ,F0,yv,r'⟩:=hm
  rw [ho] at yv; cases yv
  exact ⟨_,FZ,F0,hL,r'⟩) bE hg
theorem Inv.turned {t':Nat} {it:Addr} (I:Inv X pins σ H s) (k:∀ b o,b≠it→s.heap.get? b = some o→h'.get? b = some o) (hn:H it = none) (hL:it≠X.env.locals)
  (h1:it∈X.ex∨X.s₀.heap.objs.size≤it) (h2:∀ x c,X.env.cells.lookup x = some c→c≠it) (h3:∀ p∈X.pn ++ pins,p.1≠it):Inv X pins σ H { s with heap:=h',toks:=t' }:=by
 have HK:∀ b u,H b = some u→b≠it:=fun b u e z=>by rw [z,hn] at e; cases e
 refine I.step (g':=s.gens) (d':=s.drawn) (ch:=[it]) (fun b hb=>?_) (fun b o _ _ hc e _=>k b o (fun z=>hc (by simp [z])) e) (fun b o _ _ hc e _=>⟨o.slots,k b o (fun z=>hc (by simp [z])) e⟩) (fun _ _ _ _ n=>n)
  (fun b o hc e=>⟨o,k b o (fun z=>hc (by simp [z])) e⟩) (fun _ _ e=>e) (fun _ _ _ e=>e) (fun b ps e=>⟨#[],by rw [e]; simp⟩) (fun m hm=>?_) (fun b u e=>?_) I.bare
 ·have e:b = it:=by simpa using hb
  subst e
  exact ⟨h1,hL,h2,h3⟩
 ·obtain ⟨o,es,ep,ho,r⟩:=hm
  exact ⟨o,es,ep,k _ o (Ne.symm hL) ho,r⟩
 ·refine (I.bE b u e).kT (fun c v hc q=>k c v ?_ q) (fun _ q=>q) fun _ _ q=>q
  rcases hc with z | z
  ·rw [z]; exact HK b u e
  ·exact HK c _ z
theorem Inv.tok (I:Inv X pins σ H s) (t:Nat):Inv X pins σ H { s with toks:=t }:=I.un (h':=s.heap) (t':=t) Un.refl I.bE
theorem Inv.kept {t':Nat} (I:Inv X pins σ H s) (k:∀ b u,s.heap.get? b = some u→h'.get? b = some u):Inv X pins σ H { s with heap:=h',toks:=t' }:=I.un (Un.kept k) (I.bE.kept k)
theorem Inv.laid {a:Addr} {o:HO} {t':Nat} (I:Inv X pins σ H s) (k:∀ b u,s.heap.get? b = some u→h'.get? b = some u) (hp:s.heap.objs.size≤a) (new:bF X.prog X.w (upd H a o) h' a o) :
  Inv X pins σ (upd H a o) { s with heap:=h',toks:=t' }:=I.un (Un.laid k hp (I.bE.fresh hp)) (I.bE.laid k hp new)
theorem Inv.write {x e:Addr} {o:HO} {t':Nat} (I:Inv X pins σ H s) (mu:BL (H x)) (he:e = x∨H e = some (.own x)) (k:∀ b u,b≠e→s.heap.get? b = some u→h'.get? b = some u) (zi:∃ u,h'.get? e = some u)
  (new:bF X.prog X.w (upd H x o) h' x o):Inv X pins σ (upd H x o) { s with heap:=h',toks:=t' }:=I.un (Un.write mu he k zi) (I.bE.write mu he k zi new)
theorem Inv.pK {wu:List (Addr×Obj)} (I:Inv X pins σ H s) (h:∀ p∈wu,s.heap.get? p.1 = some p.2∧H p.1 = none∧p.1≠X.env.locals∧p.1∉X.fs∧∀ v,p.2.data≠.cell v):Inv X wu σ H s:=
 ⟨I.ok,I.os,I.bare,I.base,I.loc,I.cell,I.free,I.eI,fun p hp=>(List.mem_append.mp hp).elim (fun z=>I.pin p (List.mem_append_left _ z)) (h p),I.bE,I.len⟩
theorem mZ {N:List Str} (hN:N.Nodup) {i j:Nat} {x:Str} (a:N[i]? = some x) (b:N[j]? = some x):i = j:=by
 obtain ⟨h1,e1⟩:=List.getElem?_eq_some_iff.mp a
 obtain ⟨h2,e2⟩:=List.getElem?_eq_some_iff.mp b
 exact (List.getElem_inj hN).mp (e1.trans e2.symm)
theorem jZ {M:Model} {A:Around} {E:Value→Shared→Prop} {i:Nat} {x:Str} {v:V} {u:Value} {Q:Unit→Shared→Prop} (I:Inv X pins σ H s) (hN:X.N.Nodup) (hi:X.N[i]? = some x) (hx:Loc X.env.scope x) (r:RelV v u)
  (h:∀ s',Inv X pins (σ.set i (some v)) H s'→(∃ a,Heap.SameBut a s.heap s'.heap∧(a = X.env.locals∨X.env.cells.lookup x = some a))→Q () s') (hf:X.fn x = true∨X.env.scope.names.lookup x = some .local:=by first | exact .inl rfl | exact .inr rfl | assumption):wpAny M A (storeName X.env x u) Q E s:=by
 obtain ⟨m,hn,hl⟩:=id I.loc
 have FN:(X.env.scope.kind == .class || (X.env.scope.kind == .module && X.env.locals != X.env.globals)) = false:=by rw [I.ok.kind]; rfl
 have hiσ : i < σ.length:=by rw [I.len]; exact (List.getElem?_eq_some_iff.mp hi).1
 have yL:=I.yL
 have tracked:∀ {a:Addr} {h':Heap},(∃ o,s.heap.get? a = some o∧H a = none)→Heap.SameBut a s.heap h'→fI X.prog X.w H h':=fun {a h'} ha hs b ob e=>by
  obtain ⟨_,_,pZ⟩:=ha
  refine (I.bE b ob e).kT (fun c w' hc q=>(hs.2 c ?_).trans q) (fun _ q=>q) fun _ _ q=>q
  rintro rfl
  rcases hc with rfl | hc
  ·rw [pZ] at e; cases e
  ·rw [pZ] at hc; cases hc
 rcases hx with hk | hk
 ·refine wpAny_storeName_local hk hn (fun h' yw hs=>?_) FN
  obtain ⟨oL,_,_,Mj,_⟩:=id hn
  refine h _ ⟨I.ok,I.os,I.bare,⟨fun b o e n hb hx=>?_,fun b o e n hb hx=>?_,I.base.free,fun b o e hx=>?_,I.base.kP,I.base.jO,I.base.kQ⟩,⟨_,yw,fun j y v' e1 e2 e3=>?_⟩,fun y c e=>?_,I.free,I.eI,fun p hp=>?_,tracked ⟨oL,Mj,I.free⟩ hs,by simpa using I.len⟩ ⟨_,hs,.inl rfl⟩
  ·exact (hs.2 b (Nat.ne_of_lt (Nat.lt_of_lt_of_le (Heap.lt_size e) I.ok.above))).trans (I.base.keep b o e n hb hx)
  ·obtain ⟨sl,e1⟩:=I.base.slot b o e n hb hx
   exact ⟨sl,(hs.2 b (Nat.ne_of_lt (Nat.lt_of_lt_of_le (Heap.lt_size e) I.ok.above))).trans e1⟩
  ·obtain ⟨o',e1⟩:=I.base.there b o e hx
   exact ⟨o',(hs.2 b (Nat.ne_of_lt (Nat.lt_of_lt_of_le (Heap.lt_size e) I.ok.above))).trans e1⟩
  ·by_cases hj:j = i
   ·subst hj
    rw [hi] at e1; cases e1
    rw [List.getElem?_set_self hiσ] at e2
    cases e2
    exact ⟨u,r,.inl ⟨hk,by simp⟩⟩
   ·rw [List.getElem?_set_ne (Ne.symm hj)] at e2
    obtain ⟨u',r',q⟩:=hl j y v' e1 e2 e3
    refine ⟨u',r',?_⟩
    rcases q with ⟨k,e⟩ | ⟨k,c,e,z⟩
    ·refine .inl ⟨k,?_⟩
     have:y≠x:=fun e=>hj (mZ hN e1 (e▸hi))
     simp [this,e]
    ·exact .inr ⟨k,c,e,z.sameBut hs (yL y c e)⟩
  ·obtain ⟨w',z⟩:=I.cell y c e
   exact ⟨w',z.sameBut hs (yL y c e)⟩
  ·obtain ⟨e,n,ne,nf,d⟩:=I.pin p hp
   exact ⟨(hs.2 p.1 ne).trans e,n,ne,nf,d⟩
 ·have FI:X.fn x = true:=by
   rcases hf with z | z
   ·exact z
   ·rw [z] at hk; cases hk
  obtain ⟨c,hc⟩:=I.ok.has x (.inl hk)
  obtain ⟨w',z⟩:=I.cell x c hc
  refine wpAny_storeName_cell I.ok.kind hk hc z (fun h' Cv hs=>?_)
  obtain ⟨oc,Ii,Ft⟩:=id z
  refine h { s with heap:=h' } ⟨I.ok,I.os,I.bare,⟨fun b o e n hb hx=>?_,fun b o e n hb hx=>?_,I.base.free,fun b o e hx=>?_,I.base.kP,I.base.jO,I.base.kQ⟩,⟨m,hn.sameBut hs (Ne.symm (yL x c hc)),fun j y v' e1 e2 e3=>?_⟩,fun y c' e=>?_,I.free,I.eI,fun p hp=>?_,tracked ⟨oc,Ii,I.eI x c hc⟩ hs,by simpa using I.len⟩ ⟨c,hs,.inr hc⟩
  ·exact (hs.2 b (Nat.ne_of_lt (Nat.lt_of_lt_of_le (Heap.lt_size e) (I.ok.BH x c FI hc)))).trans (I.base.keep b o e n hb hx)
  ·obtain ⟨sl,e1⟩:=I.base.slot b o e n hb hx
   exact ⟨sl,(hs.2 b (Nat.ne_of_lt (Nat.lt_of_lt_of_le (Heap.lt_size e) (I.ok.BH x c FI hc)))).trans e1⟩
  ·obtain ⟨o',e1⟩:=I.base.there b o e hx
   exact ⟨o',(hs.2 b (Nat.ne_of_lt (Nat.lt_of_lt_of_le (Heap.lt_size e) (I.ok.BH x c FI hc)))).trans e1⟩
  ·by_cases hj:j = i
   ·subst hj
    rw [hi] at e1; cases e1
    rw [List.getElem?_set_self hiσ] at e2
    cases e2
    exact ⟨u,r,.inr ⟨.inl hk,c,hc,Cv⟩⟩
   ·rw [List.getElem?_set_ne (Ne.symm hj)] at e2
    obtain ⟨u',r',q⟩:=hl j y v' e1 e2 e3
    refine ⟨u',r',?_⟩
    rcases q with q | ⟨k,c',e,z'⟩
    ·exact .inl q
    ·refine .inr ⟨k,c',e,z'.sameBut hs ?_⟩
     rintro rfl
     exact hj (mZ hN e1 (I.ok.inj _ _ _ e hc▸hi))
  ·by_cases Iu:c' = c
   ·subst Iu; exact ⟨_,Cv⟩
   ·obtain ⟨w2,z2⟩:=I.cell y c' e
    exact ⟨w2,z2.sameBut hs Iu⟩
  ·obtain ⟨e,n,ne,nf,d⟩:=I.pin p hp
   refine ⟨(hs.2 p.1 ?_).trans e,n,ne,nf,d⟩
   intro q
   rw [q,Ii] at e
   have q':oc = p.2:=Option.some.inj e
   exact d w' (by rw [← q']; exact Ft)
theorem gh {M:Model} {A:Around} {E:Value→Shared→Prop} {i:Nat} {x:Str} {v:V} {u:Value} {Q:Unit→Shared→Prop} (I:Inv X pins σ H s) (hN:X.N.Nodup) (hi:X.N[i]? = some x) (hx:Loc X.env.scope x) (r:RelV v u)
  (h:∀ s',Inv X pins (σ.set i (some v)) H s'→Q () s') (hf:X.fn x = true∨X.env.scope.names.lookup x = some .local:=by first | exact .inl rfl | exact .inr rfl | assumption):wpAny M A (storeName X.env x u) Q E s:=
 jZ I hN hi hx r (fun s' I' _=>h s' I') hf
theorem Inv.BG {s':Shared} {ch:List Addr} (I:Inv X pins σ H s) (ho:s'.os = s.os) (u:Un (nD X.stack) ch H H' s.heap s'.heap) (bE:fI X.prog X.w H' s'.heap) (hg:AllBare s'.gens)
  (uj:∀ b∈ch,(b∈X.ex∨X.s₀.heap.objs.size≤b)∧b≠X.env.locals∧(∀ x c,X.env.cells.lookup x = some c→c≠b)∧∀ p∈X.pn ++ pins,p.1≠b):Inv X pins σ H' s':=by
 obtain ⟨h',g',d',t',o'⟩:=s'
 have e:o' = s.os:=ho
 subst e
 exact I.call (g':=g') (t':=t') (d':=d') u bE hg uj
end
abbrev XK:=Value→Option Addr→Hp→Prop
abbrev St:=List (Option V)
abbrev VK:=V→Hp→Prop
abbrev TE:=St→Hp→VK→Prop
abbrev TT:=St→Hp→(Bool→Hp→Prop)→Prop
abbrev TA:=St→Hp→(List V→Hp→Prop)→Prop
structure Ends where
 nx:St→Hp→Prop
 rt:VK
 bk:St→Hp→Prop:=fun _ _=>False
 ct:St→Hp→Prop:=fun _ _=>False
abbrev TS:=Ends→St→Hp→Prop
def EP (X:Cx) (pins:List (Addr×Obj)) (σ : St) (Q:VK) (u:Value) (s':Shared):Prop:=∃ v H',Inv X pins σ H' s'∧RelV v u∧Q v H'
def TP (X:Cx) (pins:List (Addr×Obj)) (σ : St) (Q:Bool→Hp→Prop) (b:Bool) (s':Shared):Prop:=∃ H',Inv X pins σ H' s'∧Q b H'
def AP (X:Cx) (pins:List (Addr×Obj)) (σ : St) (Q:List V→Hp→Prop) (us:List Value) (s':Shared):Prop:=∃ vs H',Inv X pins σ H' s'∧Vals vs us∧Q vs H'
def SP (X:Cx) (pins:List (Addr×Obj)) (D:Ends) (f:Flow) (s':Shared):Prop:=
 match f with
 | .next=>∃ σ' H',Inv X pins σ' H' s'∧D.nx σ' H'
 | .brk=>∃ σ' H',Inv X pins σ' H' s'∧D.bk σ' H'
 | .cont=>∃ σ' H',Inv X pins σ' H' s'∧D.ct σ' H'
 | .ret u=>∃ v σ' H',Inv X pins σ' H' s'∧RelV v u∧D.rt v H'
def PE (X:Cx) (e:Expr) (t:TE):Prop:=
 ∀ (pins:List (Addr×Obj)) (s:Shared) (σ : St) (H:Hp) (Q:VK),Inv X pins σ H s→t σ H Q→wpAny (model X.prog X.w) X.A (eval e X.env) (EP X pins σ Q) X.xe s
def PT (X:Cx) (e:Expr) (t:TT):Prop:=
 ∀ (pins:List (Addr×Obj)) (s:Shared) (σ : St) (H:Hp) (Q:Bool→Hp→Prop),Inv X pins σ H s→t σ H Q→wpAny (model X.prog X.w) X.A (isTrue e X.env (eval e X.env)) (TP X pins σ Q) X.xe s
def PW (X:Cx) (e:Expr) (t:TT):Prop:=
 ∀ (whole:Sem Value) (pins:List (Addr×Obj)) (s:Shared) (σ : St) (H:Hp) (Q:Bool→Hp→Prop),Inv X pins σ H s→t σ H Q→wpAny (model X.prog X.w) X.A (isTrue e X.env whole) (TP X pins σ Q) X.xe s
theorem PW.pt {X:Cx} {e:Expr} {t:TT} (h:PW X e t):PT X e t:=h _
def PA (X:Cx) (es:List Expr) (t:TA):Prop:=
 ∀ (pos:Pos) (pins:List (Addr×Obj)) (s:Shared) (σ : St) (H:Hp) (Q:List V→Hp→Prop),Inv X pins σ H s→t σ H Q→wpAny (model X.prog X.w) X.A (spliced (backTo pos (starEach es X.env))) (AP X pins σ Q) X.xe s
def PS (X:Cx) (st:Stmt) (t:TS):Prop:=
 ∀ (pins:List (Addr×Obj)) (s:Shared) (σ : St) (H:Hp) (D:Ends),Inv X pins σ H s→t D σ H→wpAny (model X.prog X.w) X.A (exec st X.env) (SP X pins D) X.xe s
def qj (X:Cx) (st:List Stmt) (t:TS):Prop:=
 ∀ (pins:List (Addr×Obj)) (s:Shared) (σ : St) (H:Hp) (D:Ends),Inv X pins σ H s→t D σ H→wpAny (model X.prog X.w) X.A (execs st X.env) (SP X pins D) X.xe s
theorem bR {α : Type} {t:Sem α} {Q Q' : α→Shared→Prop} {M:Model} {A:Around} {E:Value→Shared→Prop} {s:Shared} (h:wpAny M A t Q E s) (hQ:∀ a s,Q a s→Q' a s):wpAny M A t Q' E s:=wpAny_mono h hQ fun _ _ x=>x
end L2
namespace L2
open PySem PySem.Spec PyProof.Rows
section
variable {X:Cx}
theorem bin {a b:Expr} {ta tb:TE} (ha:PE X a ta) (hb:PE X b tb) {pins:List (Addr×Obj)} {s:Shared} {σ : St} {H:Hp} {R:V→V→Hp→Prop} (I:Inv X pins σ H s) (h:ta σ H fun x H1=>tb σ H1 fun y H2=>R x y H2)
  {α : Type} {Q : α→Shared→Prop} {f:Value→Value→Sem α}
  (hf:∀ v u s2 x y H2,Inv X pins σ H2 s2→RelV x v→RelV y u→R x y H2→wpAny (model X.prog X.w) X.A (f v u) Q X.xe s2) :
  wpAny (model X.prog X.w) X.A (eval a X.env) (fun v s₁=>wpAny (model X.prog X.w) X.A (eval b X.env) (fun u s₂=>wpAny (model X.prog X.w) X.A (f v u) Q X.xe s₂) X.xe s₁) X.xe s:=by
 refine bR (ha pins s σ H _ I h) fun v s1 ⟨x,H1,I1,r1,q1⟩=>?_
 refine bR (hb pins s1 σ H1 _ I1 q1) fun u s2 ⟨y,H2,I2,r2,q2⟩=>?_
 exact hf v u s2 x y H2 I2 r1 r2 q2
def qu (i:Nat):TE:=fun σ H Q=>∃ v,σ[i]? = some (some v)∧Q v H
def tC (v:V):TE:=fun _ H Q=>Q v H
theorem xP {i:Nat} {x:Str} {pos:Pos} (hN:X.N[i]? = some x) (hv:CS X.env.scope x) (hd:(x == ("__debug__" : Str)) = false:=by decide) (qL:(x == ("__classdict__" : Str)) = false:=by decide):PE X (.Name x pos) (qu i):=by
 intro pins s σ H Q I h
 obtain ⟨v,e,h⟩:=h
 obtain ⟨m,hn,hl⟩:=I.loc
 obtain ⟨u,r,l⟩:=hl i x v hN e hv
 have fin:EP X pins σ Q u s:=⟨v,H,I,r,h⟩
 rcases l with ⟨hk,hm⟩ | ⟨hk,c,hc,wN⟩
 ·exact wpAny_Name (wpAny_loadName_local I.ok.kind hk hn hm fin) hd
 ·rcases hk with hk | hk
  ·exact wpAny_Name (wpAny_loadName_cell I.ok.kind hk hc wN fin) hd
  ·exact wpAny_Name (wpAny_loadName_free I.ok.kind hk hc wN fin qL) hd
theorem ao {i j pos}:PE X (.Constant (.int i) j pos) (tC (.int i)):=fun _ _ _ H _ I h=>wpAny_Constant_int ⟨.int i,H,I.tok _,⟨_,rfl⟩,h⟩
theorem gz {b j pos}:PE X (.Constant (.bool b) j pos) (tC (.bl b)):=fun _ _ _ H _ I h=>Constant_bool ⟨.bl b,H,I,rfl,h⟩
theorem sC {j pos}:PE X (.Constant .none j pos) (tC .bK):=fun _ _ _ H _ I h=>Constant_none ⟨.bK,H,I,rfl,h⟩
theorem oe {x j pos}:PE X (.Constant (.str x) j pos) (tC (.str x)):=fun _ _ _ H _ I h=>Calls.Constant_str ⟨.str x,H,I.tok _,⟨_,rfl⟩,h⟩
def Gl (X:Cx) (x:Str):Prop:=X.env.kindOf x = some .globalImplicit
theorem pP {E:Value→Shared→Prop} {pins:List (Addr×Obj)} {s:Shared} {σ : St} {H:Hp} {x:Str} {u:Value} {pos:Pos} {Q:Value→Shared→Prop} (I:Inv X pins σ H s) (hg:Gl X x) (hm:X.mg x = some u) (h:Q u s)
  (hd:(x == ("__debug__" : Str)) = false:=by decide):wpAny (model X.prog X.w) X.A (eval (.Name x pos) X.env) Q E s:=
 Calls.Name_function_global I.ok.kind hg (Calls.loadGlobal_global (by rw [I.ok.glob]; exact I.mod.glob.keeps I.bk) hm h) hd
theorem gT {E:Value→Shared→Prop} {pins:List (Addr×Obj)} {s:Shared} {σ : St} {H:Hp} {x:Str} {u:Value} {pos:Pos} {Q:Value→Shared→Prop} (I:Inv X pins σ H s) (hg:Gl X x) (hm:X.mg x = none) (hv:bootBuiltins x = some u) (h:Q u s)
  (hn:x≠ "__name__":=by decide) (hd:(x == ("__debug__" : Str)) = false:=by decide):wpAny (model X.prog X.w) X.A (eval (.Name x pos) X.env) Q E s:=by
 obtain ⟨mb,h1,h2⟩:=I.mod.blt
 exact Calls.Name_function_global I.ok.kind hg (Calls.loadGlobal_builtin (by rw [I.ok.glob]; exact I.mod.glob.keeps I.bk) hm (by rw [I.ok.blt]; exact h1.keeps I.bk) ((h2 x hn).trans hv) h) hd
theorem uV {x:Str} {v:V} {u:Value} {pos:Pos} (hg:Gl X x) (hm:X.mg x = some u) (r:RelV v u) (hd:(x == ("__debug__" : Str)) = false:=by decide):PE X (.Name x pos) (tC v):=
 fun _ _ _ H _ I h=>pP I hg hm ⟨v,H,I,r,h⟩ hd
def BY (ta tb:TE) (k:Int→Int→Hp→Prop):St→Hp→Prop:=fun σ H=>ta σ H fun x H1=>tb σ H1 fun y H2=>∃ i j,x = .int i∧y = .int j∧k i j H2
def JD (ta tb:TE):TE:=fun σ H Q=>BY ta tb (fun i j H2=>Q (.int (i + j)) H2) σ H
def Js (ta tb:TE):TE:=fun σ H Q=>BY ta tb (fun i j H2=>Q (.int (i - j)) H2) σ H
def Jx (ta tb:TE):TE:=fun σ H Q=>BY ta tb (fun i j H2=>(-(2 ^ 64) < i∧i < 2 ^ 64)∧Q (.int (i * j)) H2) σ H
variable {a b:Expr} {ta tb:TE} {pos:Pos}
def PC (X:Cx) (op:CmpOp) (a b:Expr) (t:TE):Prop:=
 ∀ (pins:List (Addr×Obj)) (s:Shared) (σ : St) (H:Hp) (Q:VK),Inv X pins σ H s→t σ H Q→
  wpAny (model X.prog X.w) X.A (eval a X.env) (fun v s₁=>wpAny (model X.prog X.w) X.A (eval b X.env) (fun u s₂=>wpAny (model X.prog X.w) X.A (compareOp op v u) (EP X pins σ Q) X.xe s₂) X.xe s₁) X.xe s
theorem sL (b:Expr) {op:CmpOp} (h:op≠.In) (h2:op≠.NotIn):behindInMarks op b = false:=by
 have e1:(op == CmpOp.In) = false:=by cases op <;> first | rfl | exact absurd rfl h
 have e2:(op == CmpOp.NotIn) = false:=by cases op <;> first | rfl | exact absurd rfl h2
 cases b <;> simp [behindInMarks,e1,e2]
def qv (p:Int→Int→Bool) (ta tb:TE):TE:=fun σ H Q=>BY ta tb (fun i j H2=>Q (.bl (p i j)) H2) σ H
abbrev OA:TE→TE→TE:=qv fun i j=>decide (i < j)
abbrev OB:TE→TE→TE:=qv fun i j=>decide (i≤j)
abbrev OD:TE→TE→TE:=qv fun i j=>decide (j < i)
abbrev OE:TE→TE→TE:=qv fun i j=>decide (j≤i)
abbrev JA:TE→TE→TE:=qv fun i j=>decide (i = j)
abbrev Jw:TE→TE→TE:=qv fun i j=>!decide (i = j)
def zH (ta:TE):TE:=fun σ H Q=>ta σ H fun x H1=>Q (.bl (decide (x = .bK))) H1
def vY (ta:TE):TE:=fun σ H Q=>ta σ H fun x H1=>Q (.bl (!decide (x = .bK))) H1
theorem RelV.mY {x:V} {v:Value} (r:RelV x v):(v == Value.none) = decide (x = .bK):=by
 cases x with
 | bK=>cases r; rfl
 | bl _=>cases r; rfl
 | int _=>obtain ⟨t,rfl⟩:=r; rfl
 | str _=>obtain ⟨t,rfl⟩:=r; rfl
 | nT _=>obtain ⟨t,rfl⟩:=r; rfl
 | uk _=>obtain ⟨t,rfl⟩:=r; rfl
 | ref _=>cases r; rfl
 | ty _=>cases r; rfl
theorem xS {j pos'} (ha:PE X a ta):PC X .Is a (.Constant .none j pos') (zH ta):=by
 intro pins s σ H Q I h
 refine bR (ha pins s σ H _ I h) fun v s1 ⟨x,H1,I1,r1,q1⟩=>?_
 exact Constant_none (is_none_gen ⟨.bl _,H1,I1,by rw [r1.mY]; rfl,q1⟩)
theorem uY {j pos'} (ha:PE X a ta):PC X .IsNot a (.Constant .none j pos') (vY ta):=by
 intro pins s σ H Q I h
 refine bR (ha pins s σ H _ I h) fun v s1 ⟨x,H1,I1,r1,q1⟩=>?_
 exact Constant_none (isnot_none_gen ⟨.bl _,H1,I1,by rw [r1.mY]; rfl,q1⟩)
def tB (t:TE):TT:=fun σ H Q=>t σ H fun x H1=>∃ c,x = .bl c∧Q c H1
theorem dP {op:CmpOp} {t:TE} (h:PC X op a b t) (h1:behindInMarks op b = false:=by first | exact sL _ (by decide) (by decide) | rfl):PT X (.Compare a [op] [b] pos) (tB t):=by
 intro pins s σ H Q I hw
 refine wpAny_isTrue_Compare1 (bR (h pins s σ H _ I hw) fun v s1 h1=>bR h1 fun u s2 h2=>bR h2 fun c s3 ⟨x,H1,I1,r1,q1⟩=>?_) h1
 obtain ⟨d,rfl,q⟩:=q1
 cases r1
 exact wpAny_truthy_bool ⟨H1,I1,q⟩
theorem xJ {e:Expr} {t:TE} (h:PE X e t) (he:∀ whole,isTrue e X.env whole = (do let v ← whole; standAt e.pos; holding [v] (truthy v)):=by intro _; rfl):PT X e (tB t):=by
 intro pins s σ H Q I hw
 refine isTrue_plain (bR (h pins s σ H _ I hw) fun v s1 ⟨x,H1,I1,r1,q1⟩=>?_) (he _)
 obtain ⟨d,rfl,q⟩:=q1
 cases r1
 exact wpAny_truthy_bool ⟨H1,I1,q⟩
variable {tA BX:TT} {rest:List Expr}
def zN (t u:TT):TT:=fun σ H Q=>t σ H fun c H1=>if c = true then u σ H1 Q else Q false H1
def Hm (t u:TT):TT:=fun σ H Q=>t σ H fun c H1=>if c = true then Q true H1 else u σ H1 Q
def Jv (t:TT):TT:=fun σ H Q=>t σ H fun c H1=>Q (!c) H1
theorem pw_and1 (ha:PT X a tA):PW X (.BoolOp .And [a] pos) tA:=by
 intro wh pins s σ H Q I h
 refine isTrue_and (bR (ha pins s σ H Q I h) fun c s1 e=>?_)
 cases c with
 | true=>exact isTrue_and_nil e
 | false=>exact e
theorem pw_or1 (ha:PT X a tA):PW X (.BoolOp .Or [a] pos) tA:=by
 intro wh pins s σ H Q I h
 refine isTrue_or (bR (ha pins s σ H Q I h) fun c s1 e=>?_)
 cases c with
 | false=>exact isTrue_or_nil e
 | true=>exact e
theorem pw_and (ha:PT X a tA) (hb:PW X (.BoolOp .And (b :: rest) pos) BX):PW X (.BoolOp .And (a :: b :: rest) pos) (zN tA BX):=by
 intro wh pins s σ H Q I h
 refine isTrue_and (bR (ha pins s σ H _ I h) fun c s1 ⟨H1,I1,q1⟩=>?_)
 cases c with
 | true=>exact hb wh pins s1 σ H1 Q I1 q1
 | false=>exact ⟨H1,I1,q1⟩
theorem pw_or (ha:PT X a tA) (hb:PW X (.BoolOp .Or (b :: rest) pos) BX):PW X (.BoolOp .Or (a :: b :: rest) pos) (Hm tA BX):=by
 intro wh pins s σ H Q I h
 refine isTrue_or (bR (ha pins s σ H _ I h) fun c s1 ⟨H1,I1,q1⟩=>?_)
 cases c with
 | true=>exact ⟨H1,I1,q1⟩
 | false=>exact hb wh pins s1 σ H1 Q I1 q1
def wa (ta tb:TE):TE:=fun σ H Q=>ta σ H fun x H1=>∃ c,x = .bl c∧if c = true then tb σ H1 Q else Q (.bl false) H1
def Ju (ta tb:TE):TE:=fun σ H Q=>ta σ H fun x H1=>∃ c,x = .bl c∧if c = true then Q (.bl true) H1 else tb σ H1 Q
def vX (ta:TE):TE:=fun σ H Q=>ta σ H fun x H1=>∃ c,x = .bl c∧Q (.bl (!c)) H1
theorem sA {op} {t:TE} (h:PE X a t):PE X (.BoolOp op [a] pos) t:=fun pins s σ H Q I hw=>BoolOp_one (h pins s σ H Q I hw)
theorem og (ha:PE X a ta) (hb:PE X (.BoolOp .And (b :: rest) pos) tb):PE X (.BoolOp .And (a :: b :: rest) pos) (wa ta tb):=by
 intro pins s σ H Q I h
 refine BoolOp_and (bR (ha pins s σ H _ I h) fun v s1 ⟨x,H1,I1,r1,q1⟩=>?_)
 obtain ⟨c,rfl,q1⟩:=q1
 cases r1
 refine wpAny_truthy_bool ?_
 cases c with
 | true=>exact hb pins s1 σ H1 Q I1 q1
 | false=>exact ⟨.bl false,H1,I1,rfl,q1⟩
theorem xQ (ha:PE X a ta):PE X (.UnaryOp .Not a pos) (vX ta):=by
 intro pins s σ H Q I h
 refine UnaryOp_ (bR (ha pins s σ H _ I h) fun v s1 ⟨x,H1,I1,r1,q1⟩=>?_)
 obtain ⟨c,rfl,q1⟩:=q1
 cases r1
 exact not_of (wpAny_truthy_bool ⟨.bl (!c),H1,I1,rfl,q1⟩)
def OC (t:TT) (ta tb:TE):TE:=fun σ H Q=>t σ H fun c H1=>if c = true then ta σ H1 Q else tb σ H1 Q
end
end L2
namespace L2
open PySem PySem.Spec PyProof.Rows
def aG (K:PySem.W.Frag) (H:Hp) (a:Addr) (xs:List V):Prop:=
 Rd H a (.lst xs)∨
  ∃ (o:Obj) (aL:Array Value) (n:Nat),K.lookup a = some o∧o.cls = .type "list"∧o.dict = none∧o.data = .seq aL n∧aL.size≤sizeLine∧Vals xs aL.toList
def SqT (K:PySem.W.Frag) (H:Hp) (a:Addr) (xs:List V):Prop:=
 Rd H a (.tup xs)∨
  ∃ (o:Obj) (aL:Array Value) (n:Nat),K.lookup a = some o∧o.cls = .type "tuple"∧o.data = .seq aL n∧aL.size≤sizeLine∧Vals xs aL.toList
def GV:Value→Option V
 | .none=>some .bK
 | .bool b=>some (.bl b)
 | .int i _=>some (.int i)
 | .str x _=>some (.str x)
 | .bytes b _=>some (.nT b)
 | .float b _=>some (.uk b)
 | .ref a=>some (.ref a)
 | .type n=>some (.ty n)
 | _=>none
theorem RelV.abs {x:V} {u:Value} (r:RelV x u):GV u = some x:=by
 cases x with
 | bK=>cases r; rfl
 | bl _=>cases r; rfl
 | int _=>obtain ⟨t,rfl⟩:=r; rfl
 | str _=>obtain ⟨t,rfl⟩:=r; rfl
 | nT _=>obtain ⟨t,rfl⟩:=r; rfl
 | uk _=>obtain ⟨t,rfl⟩:=r; rfl
 | ref _=>cases r; rfl
 | ty _=>cases r; rfl
theorem RelV.inj {x y:V} {u:Value} (r:RelV x u) (q:RelV y u):x = y:=Option.some.inj (r.abs.symm.trans q.abs)
theorem Vals.inj:∀ {xs ys:List V} {us:List Value},Vals xs us→Vals ys us→xs = ys
 | _,_,_,.nil,.nil=>rfl
 | _,_,_,.cons r t,.cons r' t'=>by rw [r.inj r',Vals.inj t t']
section
variable {X:Cx} {pins:List (Addr×Obj)} {σ : St} {H:Hp} {s:Shared} {a:Addr} {xs ys:List V}
theorem aG.of {K:PySem.W.Frag} (h:H a = some (.lst xs)):aG K H a xs:=.inl (.inl h)
theorem SqT.of {K:PySem.W.Frag} (h:H a = some (.tup xs)):SqT K H a xs:=.inl (.inl h)
theorem Inv.list (I:Inv X pins σ H s) (h:aG X.K H a xs):∃ aL:List Value,Vals xs aL∧PlainL s.heap a aL.toArray∧xs.length≤sizeLine:=by
 rcases h with h | ⟨o,aL,n,hk,hc,hd,hs,hz,r⟩
 ·obtain ⟨z,aL,n,r,e⟩:=h.ok I.bE
  exact ⟨aL,r,⟨_,n,e,rfl,rfl,rfl⟩,z⟩
 ·refine ⟨aL.toList,r,⟨o,n,I.zd a o hk,hc,hd,by simpa using hs⟩,?_⟩
  have e:=r.length
  simp only [Array.length_toList] at e
  omega
theorem Inv.tuple (I:Inv X pins σ H s) (h:SqT X.K H a xs):∃ aL:List Value,Vals xs aL∧IsTup s.heap a aL.toArray∧xs.length≤sizeLine:=by
 rcases h with h | ⟨o,aL,n,hk,hc,hs,hz,r⟩
 ·obtain ⟨z,aL,r,p⟩:=h.ok I.bE
  exact ⟨aL,r,p,z⟩
 ·refine ⟨aL.toList,r,⟨o,I.zd a o hk,hc,n,by simpa using hs⟩,?_⟩
  have e:=r.length
  simp only [Array.length_toList] at e
  omega
theorem Inv.ng (I:Inv X pins σ H s) (h:aG X.K H a xs) (h':aG X.K H a ys):xs = ys:=by
 obtain ⟨aL,r,⟨o,n,e,_,_,d⟩,_⟩:=I.list h
 obtain ⟨its',r',⟨o',n',e',_,_,d'⟩,_⟩:=I.list h'
 rw [e] at e'; cases e'
 rw [d] at d'
 injection d' with d1 _
 have:aL = its':=by simpa using congrArg Array.toList d1
 subst this
 exact r.inj r'
end
abbrev Cx.jF (X:Cx) (E:Value→Shared→Prop):Cx:={ X with xe:=E }
abbrev Cx.za (X:Cx):Cx:=X.jF fun _ _=>False
theorem Cx.Ok.jF {X:Cx} (ok:X.Ok) (E:Value→Shared→Prop):(X.jF E).Ok:=
 ⟨ok.mod,ok.kind,ok.glob,ok.blt,ok.above,ok.inj,ok.has,ok.BH,ok.hd,ok.frames,ok.zO,ok.IF,ok.bs,ok.yP,ok.sJ,ok.vx,ok.jr,ok.zk⟩
theorem Cx.Ok.eJ {X:Cx} {E:Value→Shared→Prop} (ok:(X.jF E).Ok):X.Ok:=
 ⟨ok.mod,ok.kind,ok.glob,ok.blt,ok.above,ok.inj,ok.has,ok.BH,ok.hd,ok.frames,ok.zO,ok.IF,ok.bs,ok.yP,ok.sJ,ok.vx,ok.jr,ok.zk⟩
section
variable {X:Cx} {pins:List (Addr×Obj)} {σ : St} {H:Hp} {s:Shared} {E:Value→Shared→Prop}
theorem Inv.jF (I:Inv X pins σ H s) (E:Value→Shared→Prop):Inv (X.jF E) pins σ H s:=⟨I.ok.jF E,I.os,I.bare,I.base,I.loc,I.cell,I.free,I.eI,I.pin,I.bE,I.len⟩
theorem Inv.eJ (I:Inv (X.jF E) pins σ H s):Inv X pins σ H s:=⟨I.ok.eJ,I.os,I.bare,I.base,I.loc,I.cell,I.free,I.eI,I.pin,I.bE,I.len⟩
theorem SP.eJ {D:Ends} {f:Flow} {s':Shared} (h:SP (X.jF E) pins D f s'):SP X pins D f s':=by
 cases f with
 | next=>obtain ⟨σ',H',I,q⟩:=h; exact ⟨σ',H',I.eJ,q⟩
 | brk=>obtain ⟨σ',H',I,q⟩:=h; exact ⟨σ',H',I.eJ,q⟩
 | cont=>obtain ⟨σ',H',I,q⟩:=h; exact ⟨σ',H',I.eJ,q⟩
 | ret u=>obtain ⟨v,σ',H',I,r,q⟩:=h; exact ⟨v,σ',H',I.eJ,r,q⟩
theorem qj.za {st:List Stmt} {t:TS} (h:qj X.za st t):qj X st t:=fun pins s σ H D I hw=>
 wpAny_mono (h pins s σ H D (I.jF _) hw) (fun _ _ q=>q.eJ) fun _ _ z=>False.elim z
end
section
variable {X:Cx} {st:Stmt} {rest:List Stmt} {t u:TS} {e:Expr} {te:TE} {pos:Pos}
def vZ:TS:=fun D σ H=>D.nx σ H
def xj (t u:TS):TS:=fun D σ H=>t { D with nx:=u D } σ H
theorem bh:qj X [] vZ:=fun _ _ σ H _ I h=>wpAny_execs_nil ⟨σ,H,I,h⟩
theorem ah (h1:PS X st t) (h2:qj X rest u):qj X (st :: rest) (xj t u):=by
 intro pins s σ H D I h
 refine wpAny_execs_cons (bR (h1 pins s σ H { D with nx:=u D } I h) fun f s1 q=>?_)
 cases f with
 | next=>
  obtain ⟨σ',H',I',q⟩:=q
  exact h2 pins s1 σ' H' D I' q
 | ret v=>exact q
 | brk=>exact q
 | cont=>exact q
theorem aq (h1:PS X st t):qj X [st] t:=by
 intro pins s σ H D I h
 refine wpAny_execs_cons (bR (h1 pins s σ H D I h) fun f s1 q=>?_)
 cases f with
 | next=>exact wpAny_execs_nil q
 | ret v=>exact q
 | brk=>exact q
 | cont=>exact q
def Dm:TS:=fun D σ H=>D.bk σ H
def Hq:TS:=fun D σ H=>D.ct σ H
theorem Inv.quiet {pins:List (Addr×Obj)} {σ : St} {H:Hp} {s:Shared} (I:Inv X pins σ H s):interactive X.env = false:=by simp [interactive,I.ok.kind]
def v9 (te:TE):TS:=fun D σ H=>te σ H fun _ H1=>D.nx σ H1
theorem bo (he:PE X e te) (hs:swapsWith e none pos.line X.env = pure false:=by rfl):PS X (.Expr e pos) (v9 te):=by
 intro pins s σ H D I h
 exact wpAny_Expr_any (bR (he pins s σ H _ I h) fun v s1 ⟨x,H1,I1,r1,q1⟩=>⟨σ,H1,I1,q1⟩) I.quiet hs
def zC (te:TE):TS:=fun D σ H=>te σ H D.rt
theorem bw (he:PE X e te):PS X (.Return (some e) pos) (zC te):=by
 intro pins s σ H D I h
 exact wpAny_Return_some (bR (he pins s σ H _ I h) fun v s1 ⟨x,H1,I1,r1,q1⟩=>⟨x,σ,H1,I1,r1,q1⟩)
def Hk:TS:=fun D _ H=>D.rt .bK H
def zI (c:TT) (t u:TS):TS:=fun D σ H=>c σ H fun b H1=>if b = true then t D σ H1 else u D σ H1
theorem bY {c:Expr} {a b:List Stmt} {tc:TT} (hc:PT X c tc) (ha:qj X a t) (hb:qj X b u):PS X (.If c a b pos) (zI tc t u):=by
 intro pins s σ H D I h
 refine wpAny_If (bR (hc pins s σ H _ I h) fun d s1 ⟨H1,I1,q1⟩=>?_)
 cases d with
 | true=>exact ha pins s1 σ H1 D I1 q1
 | false=>exact hb pins s1 σ H1 D I1 q1
def De:TS:=fun _ _ _=>False
end
abbrev TG:=V→St→Hp→(St→Hp→Prop)→Prop
abbrev vG:=List V→St→Hp→(St→Hp→Prop)→Prop
def PG (X:Cx) (target:Expr) (t:TG):Prop:=
 ∀ (pins:List (Addr×Obj)) (s:Shared) (σ : St) (H:Hp) (v:V) (u:Value) (Q:St→Hp→Prop),Inv X pins σ H s→RelV v u→t v σ H Q→
  wpAny (model X.prog X.w) X.A (assign target X.env u) (fun _ s'=>∃ σ' H',Inv X pins σ' H' s'∧Q σ' H') X.xe s
def CW (X:Cx) (ts:List Expr) (t:vG):Prop:=
 ∀ (pins:List (Addr×Obj)) (s:Shared) (σ : St) (H:Hp) (vs:List V) (us:List Value) (Q:St→Hp→Prop),Inv X pins σ H s→Vals vs us→t vs σ H Q→
  wpAny (model X.prog X.w) X.A (assignInOrder ((assignEach ts X.env).map (·.2)) us) (fun _ s'=>∃ σ' H',Inv X pins σ' H' s'∧Q σ' H') X.xe s
abbrev yV:=V→V→V→Hp→(Hp→Prop)→Prop
def NX (X:Cx) (t:yV):Prop:=
 ∀ (pins:List (Addr×Obj)) (s:Shared) (σ : St) (H:Hp) (o i v:V) (ov iv u:Value) (Q:Hp→Prop),Inv X pins σ H s→RelV o ov→RelV i iv→RelV v u→t o i v H Q→
  wpAny (model X.prog X.w) X.A (setItem ov iv u) (fun _ s'=>∃ H',Inv X pins σ H' s'∧Q H') X.xe s
abbrev CU:=V→V→Hp→VK→Prop
def Pq (X:Cx) (op:Operator) (t:CU):Prop:=
 ∀ (pins:List (Addr×Obj)) (s:Shared) (σ : St) (H:Hp) (x y:V) (v u:Value) (Q:VK),Inv X pins σ H s→RelV x v→RelV y u→t x y H Q→
  wpAny (model X.prog X.w) X.A (inplaceOp op v u) (EP X pins σ Q) X.xe s
section
variable {X:Cx} {pos:Pos}
def p8 (i:Nat):TG:=fun v σ H Q=>Q (σ.set i (some v)) H
theorem aJ {i:Nat} {x:Str} (hN:X.N.Nodup) (hi:X.N[i]? = some x) (hx:Loc X.env.scope x) (hf:X.fn x = true∨X.env.scope.names.lookup x = some .local:=by first | exact .inl rfl | exact .inr rfl | assumption):PG X (.Name x pos) (p8 i):=by
 intro pins s σ H v u Q I r h
 exact wpAny_assign_Name (gh I hN hi hx r (fun s' I'=>⟨_,H,I',h⟩) hf)
def Be:vG:=fun vs σ H Q=>vs = []∧Q σ H
def wO (t:TG) (u:vG):vG:=fun vs σ H Q=>∃ v r,vs = v :: r∧t v σ H fun σ' H'=>u r σ' H' Q
theorem pL:CW X [] Be:=by
 intro pins s σ H vs us Q I r h
 obtain ⟨e,h⟩:=h
 subst e
 cases r
 exact assignInOrder_nil ⟨σ,H,I,h⟩
theorem gu {e:Expr} {es:List Expr} {t:TG} {u:vG} (h1:PG X e t) (h2:CW X es u)
  (hs:(assignEach (e :: es) X.env).map (·.2) = assign e X.env :: (assignEach es X.env).map (·.2):=by rfl):CW X (e :: es) (wO t u):=by
 intro pins s σ H vs us Q I r h
 obtain ⟨v,vr,e1,h⟩:=h
 subst e1
 cases r with
 | cons r rr=>
  rw [hs]
  refine assignInOrder_cons (bR (h1 pins s σ H _ _ _ I r h) fun _ s1 ⟨σ1,H1,I1,q1⟩=>?_)
  exact h2 pins s1 σ1 H1 _ _ Q I1 rr q1
def Bd (K:PySem.W.Frag) (n:Nat) (t:vG):TG:=fun v σ H Q=>∃ a xs,v = .ref a∧SqT K H a xs∧xs.length = n∧t xs σ H Q
theorem sv {es:List Expr} {k:Nat} {t:vG} {n:Nat} (hc:X.calm = true) (h:CW X es t)
  (hn:(assignEach es X.env).length = n:=by rfl) (Ff:(assignEach es X.env).findIdx? (·.1) = none:=by rfl):PG X (.Tuple es k pos) (Bd X.K n t):=by
 intro pins s σ H v u Q I r hw
 obtain ⟨a,xs,e1,hq,hl,hw⟩:=hw
 subst e1
 cases r
 obtain ⟨aL,rv,ht,hz⟩:=I.tuple hq
 refine assign_Tuple_tuple (I.ok.hd hc) ht (by simp [hn,← hl,rv.length]) Ff fun h' hx=>?_
 have I1:Inv X pins σ H { s with heap:=h' }:=I.kept (t':=s.toks) fun b o e=>hx b o (Nat.ne_of_lt (Heap.lt_size e)) e
 exact h pins _ σ H xs _ Q I1 (by simpa using rv) hw
def MU (to ti:TE) (t:yV):TG:=fun v σ H Q=>to σ H fun o H1=>ti σ H1 fun i H2=>t o i v H2 fun H3=>Q σ H3
def uA (te:TE) (g:TG):TS:=fun D σ H=>te σ H fun x H1=>g x σ H1 D.nx
theorem xM {tg e:Expr} {te:TE} {g:TG} (he:PE X e te) (hg:PG X tg g) (hs:swapsWithSole [tg] e pos.line X.env = pure false:=by rfl) (hw:swappedStores [tg] e X.env = pure none:=by rfl)
  (h1:(assignEach [tg] X.env).map (·.2) = [assign tg X.env]:=by rfl):PS X (.Assign [tg] e pos) (uA te g):=by
 intro pins s σ H D I h
 refine wpAny_Assign_stores (bR (he pins s σ H _ I h) fun v s1 ⟨x,H1,I1,r1,q1⟩=>?_) hs hw
 rw [h1]
 exact bR (hg pins s1 σ H1 x v _ I1 r1 q1) fun _ s2 q=>q
theorem aC {i:Nat} {x:Str} {e:Expr} {te:TE} {pos':Pos} (hN:X.N.Nodup) (hi:X.N[i]? = some x) (hx:Loc X.env.scope x) (he:PE X e te) (hs:swapsWith e (some (.Name x pos')) pos.line X.env = pure false:=by rfl) (hf:X.fn x = true∨X.env.scope.names.lookup x = some .local:=by first | exact .inl rfl | exact .inr rfl | assumption) :
  PS X (.Assign [.Name x pos'] e pos) (uA te (p8 i)):=by
 intro pins s σ H D I h
 refine wpAny_Assign_Name (bR (he pins s σ H _ I h) fun v s1 ⟨y,H1,I1,r1,q1⟩=>?_) hs
 exact gh I1 hN hi hx r1 (fun s2 I2=>⟨_,H1,I2,q1⟩) hf
def zD (i j:Nat) (ta:TA):TS:=fun D σ H=>ta σ H fun vs H1=>∃ v w,vs = [v,w]∧D.nx ((σ.set i (some v)).set j (some w)) H1
theorem xK {i j:Nat} {x y:Str} {a b:Expr} {ta:TA} {px py pt:Pos} {kt k2 DS} (hc:X.calm = true) (hN:X.N.Nodup) (hi:X.N[i]? = some x) (hj:X.N[j]? = some y) (FF:i≠j)
  (hx:X.env.scope.names.lookup x = some .local) (hy:X.env.scope.names.lookup y = some .local) (ha:PA X [a,b] ta)
  (hw:swappedStores [.Tuple [.Name x px,.Name y py] kt pt] (.Tuple [a,b] k2 DS) X.env = pure (some [x,y]))
  (hs:swapsWithSole [.Tuple [.Name x px,.Name y py] kt pt] (.Tuple [a,b] k2 DS) pos.line X.env = pure false:=by rfl) :
  PS X (.Assign [.Tuple [.Name x px,.Name y py] kt pt] (.Tuple [a,b] k2 DS) pos) (zD i j ta):=by
 intro pins s σ H D I h
 rw [exec_Assign_arm]
 refine wpAny_bind (wpAny_standAt ?_)
 rw [hs]
 refine wpAny_bind (wpAny_pure ?_)
 rw [if_neg (by decide)]
 refine wpAny_bind (Tuple_ (bR (ha _ pins s σ H _ I h) fun us s1 ⟨vs,H1,I1,r1,q1⟩=>?_))
 obtain ⟨v,w,e1,q1⟩:=q1
 subst e1
 obtain ⟨u1,u2,rfl,rv,mO⟩:∃ u1 u2,us = [u1,u2]∧RelV v u1∧RelV w u2:=by
  cases r1 with
  | cons p q=>
   cases q with
   | cons p' q'=>
    cases q'
    exact ⟨_,_,rfl,p,p'⟩
 refine wpAny_newObj_type ?_ (by show 2≤sizeLine; decide)
 have I2:Inv X pins σ H1 { s1 with heap:=s1.heap.push { cls:=.type "tuple",data:=.seq [u1,u2].toArray } }:=I1.kept (t':=s1.toks) fun b o e=>Heap.get?_push_of_some _ e
 rw [hw]
 refine wpAny_bind (wpAny_pure ?_)
 show wpAny (model X.prog X.w) X.A (do rule "assign.swapped-stores"; let items ← unpackItems (.ref s1.heap.objs.size) 2 none; assignInOrder [fun v=>bindName X.env y v,fun v=>bindName X.env x v] items.reverse; pure Flow.next) _ _ _
 refine wpAny_bind (wpAny_rule (wpAny_bind (unpackItems_tuple (items:=#[u1,u2]) (I.ok.hd hc) (IsTup.new s1.heap _) fun h' pV=>?_)))
 have I3:=I2.kept (h':=h') (t':=s1.toks) fun b o e=>pV b o (Nat.ne_of_lt (Heap.lt_size e)) e
 show wpAny _ _ (assignInOrder [fun v=>bindName X.env y v,fun v=>bindName X.env x v] [u2,u1] >>= fun _=>pure Flow.next) _ _ _
 refine wpAny_bind (assignInOrder_cons (wpAny_bindName (gh I3 hN hj (.inl hy) mO (fun s2 I4=>?_) (.inr hy))))
 refine assignInOrder_cons (wpAny_bindName (gh I4 hN hi (.inl hx) rv (fun s3 I5=>assignInOrder_nil (wpAny_pure ?_)) (.inr hx)))
 rw [List.set_comm _ _ (Ne.symm FF)] at I5
 exact ⟨_,H1,I5,q1⟩
def JC (i:Nat) (te:TE) (ti:CU):TS:=fun D σ H=>∃ x,σ[i]? = some (some x)∧te σ H fun y H1=>ti x y H1 fun z H2=>D.nx (σ.set i (some z)) H2
def Ht (to ti te:TE) (C9:V→V→Hp→VK→Prop) (Jp:CU) (C3:yV):TS:=fun D σ H=>to σ H fun o H1=>ti σ H1 fun i H2=>C9 o i H2 fun x H3=>te σ H3 fun y H4=>Jp x y H4 fun z H5=>C3 o i z H5 fun H6=>D.nx σ H6
def NY (X:Cx) (t:V→V→Hp→VK→Prop):Prop:=
 ∀ (pins:List (Addr×Obj)) (s:Shared) (σ : St) (H:Hp) (o i:V) (ov iv:Value) (Q:VK),Inv X pins σ H s→RelV o ov→RelV i iv→t o i H Q→
  wpAny (model X.prog X.w) X.A (getItem ov iv) (EP X pins σ Q) X.xe s
def OW (f:Int→Int→Int):CU:=fun x y H Q=>∃ i j,x = .int i∧y = .int j∧Q (.int (f i j)) H
end
section
variable {X:Cx} {pos:Pos}
def rK (c:TT) (tb:TS):TS:=fun D σ H=>∃ W:Nat→St→Hp→Prop,(∃ m,W m σ H)∧∀ m σ H,W m σ H→
 c σ H fun b H1=>if b = true then ∃ N:St→Hp→Prop,(∀ σ' H',N σ' H'→∃ m',m' < m∧W m' σ' H')∧tb { D with nx:=N,ct:=N,bk:=D.nx } σ H1 else D.nx σ H1
theorem eP {c:Expr} {body:List Stmt} {tc:TT} {tb:TS} (hp:PassesOwn (model X.prog X.w) X.A X.env X.xe) (hc:PT X c tc) (hb:qj X body tb):PS X (.While c body [] pos) (rK tc tb):=by
 intro pins s σ H D I h
 obtain ⟨W,⟨m0,w0⟩,turn⟩:=h
 refine wpAny_While (codeAny_whileLoop (fun n s'=>∃ σ' H',Inv X pins σ' H' s'∧W n σ' H') ?_ m0 ⟨σ,H,I,w0⟩)
 rintro n s1 ⟨σ1,H1,I1,w1⟩
 refine wpAny_passesOwn hp (bR (hc pins s1 σ1 H1 _ I1 (turn n σ1 H1 w1)) fun b s2 ⟨H2,I2,q2⟩=>?_)
 cases b with
 | true=>
  obtain ⟨N,hN,q2⟩:=q2
  rw [if_pos rfl]
  refine wpAny_passesOwn hp (bR (hb pins s2 σ1 H2 _ I2 q2) fun f s3 q3=>?_)
  cases f with
  | next=>
   obtain ⟨σ3,H3,I3,n3⟩:=q3
   obtain ⟨m',hm,w3⟩:=hN σ3 H3 n3
   exact ⟨m',hm,σ3,H3,I3,w3⟩
  | cont=>
   obtain ⟨σ3,H3,I3,n3⟩:=q3
   obtain ⟨m',hm,w3⟩:=hN σ3 H3 n3
   exact ⟨m',hm,σ3,H3,I3,w3⟩
  | brk=>exact q3
  | ret v=>exact q3
 | false=>
  rw [if_neg Bool.false_ne_true]
  exact wpAny_execs_nil ⟨σ1,H2,I2,q2⟩
end
structure It where
 go:Nat→Hp→Prop
 rD:Nat→Hp→V→Hp→Prop
 stop:Nat→Hp→Prop
def jS (X:Cx) (pins:List (Addr×Obj)) (H:Hp) (b:Addr):Prop:=
 H b = none∧b≠X.env.locals∧b∉X.fs∧(b∈X.ex∨X.s₀.heap.objs.size≤b)∧(∀ x c,X.env.cells.lookup x = some c→c≠b)∧∀ p∈X.pn ++ pins,p.1≠b
theorem Inv.tK {X:Cx} {pins:List (Addr×Obj)} {σ : St} {H H':Hp} {s:Shared} {b:Addr} (I:Inv X pins σ H s) (hb:s.heap.objs.size≤b) (hn:H' b = none):jS X pins H' b:=by
 refine ⟨hn,Nat.ne_of_gt (Nat.lt_of_lt_of_le I.lt hb),I.EH hb,.inr (Nat.le_trans I.sz hb),fun x c e z=>?_,fun p hp z=>?_⟩
 ·obtain ⟨v,q⟩:=I.cell x c e
  exact absurd (Nat.lt_of_lt_of_le q.lt (by rw [z]; exact hb)) (Nat.lt_irrefl _)
 ·exact absurd (Nat.lt_of_lt_of_le (Heap.lt_size (I.pin p hp).1) (by rw [z]; exact hb)) (Nat.lt_irrefl _)
structure Turn (P:Program) (w:World) (K:PySem.W.Frag) (tg:Expr) (J:It) (fp:List Addr) (it:Addr) (tn:Nat→Heap→Prop):Prop where
 mem:it∈fp
 obj:∀ i h,tn i h→∀ b∈fp,∃ o,h.get? b = some o∧∀ v,o.data≠.cell v
 keep:∀ i h h',tn i h→(∀ b∈fp,∀ o,h.get? b = some o→h'.get? b = some o)→tn i h'
 item:∀ (X:Cx),X.prog = P→X.w = w→X.K = K→X.calm = true→∀ (i:Nat) (pins:List (Addr×Obj)) (s:Shared) (σ : St) (H:Hp) (E:Value→Shared→Prop),Inv X pins σ H s→(∀ b∈fp,jS X pins H b)→tn i s.heap→J.go i H→
  wpAny (model P w) X.A (pyNext (.ref it)) (fun r s1=>∃ u,r = some u∧
   wpAny (model P w) X.A (letOwnedTupleGo tg (.ref it) u) (fun _ s2=>∃ x H',Inv X pins σ H' s2∧RelV x u∧J.rD i H x H'∧tn (i + 1) s2.heap∧∀ b∈fp,H' b = none) E s1) E s
 done:∀ (X:Cx),X.prog = P→X.w = w→X.K = K→X.calm = true→∀ (i:Nat) (pins:List (Addr×Obj)) (s:Shared) (σ : St) (H:Hp) (E:Value→Shared→Prop),Inv X pins σ H s→(∀ b∈fp,jS X pins H b)→tn i s.heap→J.stop i H→
  wpAny (model P w) X.A (pyNext (.ref it)) (fun r s1=>r = none∧Inv X pins σ H s1) E s
 self:∀ (A:Around) (i:Nat) (s:Shared) (Q:Value→Shared→Prop) (E:Value→Shared→Prop),tn i s.heap→Q (.ref it) s→wpAny (model P w) A (pyIter (.ref it)) Q E s
abbrev TI:=St→Hp→(It→Hp→Prop)→Prop
def Jd (X:Cx) (pins:List (Addr×Obj)) (σ : St) (tg:Expr) (R:It→Hp→Prop) (E8:Value) (s2:Shared):Prop:=
 ∃ (it:Addr) (fp:List Addr) (tn:Nat→Heap→Prop) (J:It) (H':Hp),E8 = .ref it∧Inv X pins σ H' s2∧Turn X.prog X.w X.K tg J fp it tn∧tn 0 s2.heap∧(∀ b∈fp,jS X pins H' b)∧R J H'
def PI (X:Cx) (tg iter:Expr) (wi:TI):Prop:=
 ∀ (pins:List (Addr×Obj)) (s:Shared) (σ : St) (H:Hp) (R:It→Hp→Prop),Inv X pins σ H s→wi σ H R→
  wpAny (model X.prog X.w) X.A (eval iter X.env) (fun v s1=>wpAny (model X.prog X.w) X.A (pyIter v) (Jd X pins σ tg R) X.xe s1) X.xe s
theorem tJ {M:Model} {A:Around} {E:Value→Shared→Prop} {s:Shared} {tg:Expr} {it:Addr} {u:Value} {o:Obj} {n:String} {vs:Array Value} {Q:Unit→Shared→Prop} (ho:s.heap.get? it = some o) (hc:o.cls = .type n) (hd:o.data = .fields vs)
  (hn:["enumerate", "zip", "dict_itemiterator", "dict_reverseitemiterator", "odict_iterator", "itertools.zip_longest", "itertools.pairwise"].contains n = false) (hQ:Q () s):wpAny M A (letOwnedTupleGo tg (.ref it) u) Q E s:=by
 unfold letOwnedTupleGo
 cases tg <;> first
  | exact wpAny_pure hQ
  | (cases u <;> first
    | exact wpAny_pure hQ
    | (
       refine wpAny_bind (wpAny_load ho ?_)
       rw [hc,hd]
       show wpAny M A (if (["enumerate", "zip", "dict_itemiterator", "dict_reverseitemiterator", "odict_iterator", "itertools.zip_longest", "itertools.pairwise"].contains n && vs[0]? == some (rawInt _)) = true then _ else _) Q E s
       rw [if_neg (by intro h; rw [hn,Bool.false_and] at h; cases h)]
       exact wpAny_pure hQ))
def vL (K:PySem.W.Frag) (a:Addr):It:=
 ⟨fun i H=>∃ xs x,aG K H a xs∧xs[i]? = some x,fun i H x H'=>H' = H∧∀ xs,aG K H a xs→xs[i]? = some x,fun i H=>∃ xs,aG K H a xs∧xs.length≤i⟩
def N6 (K:PySem.W.Frag) (a:Addr):It:=
 ⟨fun i H=>∃ xs x,SqT K H a xs∧xs[i]? = some x,fun i H x H'=>H' = H∧∀ xs,SqT K H a xs→xs[i]? = some x,fun i H=>∃ xs,SqT K H a xs∧xs.length≤i⟩
def um (lo:Int) (n:Nat):It:=⟨fun i _=>i < n,fun i H x H'=>H' = H∧x = .int (lo + i),fun i _=>n≤i⟩
theorem ql {P:Program} {w:World} {K:PySem.W.Frag} {tg:Expr} (a it:Addr):Turn P w K tg (vL K a) [it] it (fun i h=>h.IsListIter it a i) where
 mem:=by simp
 obj:=fun i h st b hb=>by
  have e:b = it:=by simpa using hb
  subst e
  obtain ⟨o,e,c,d⟩:=st
  exact ⟨o,e,fun v z=>by rw [d] at z; cases z⟩
 keep:=fun i h h' st k=>st.at fun o e=>k it (by simp) o e
 item:=by
  intro X hP hw hK hc i pins s σ H E I hf st hg
  subst hP hw hK
  obtain ⟨xs,x,hq,hx⟩:=hg
  obtain ⟨aL,rv,p,hz⟩:=I.list hq
  obtain ⟨u,hu,ru⟩:=rv.get hx
  obtain ⟨f0,f1,f2,f3,f4,f5⟩:=hf it (by simp)
  refine wpAny_pyNext_list_item st p.isList (x:=u) (by simpa using hu) fun h' wb sb=>?_
  have I1:Inv X pins σ H { s with heap:=h' }:=I.turned (t':=s.toks) (fun b o hb e=>(sb.2 b hb).trans e) f0 f1 f3 f4 f5
  obtain ⟨o,e,c,d⟩:=id wb
  exact ⟨u,rfl,tJ (s:={ s with heap:=h' }) e c d (by decide) ⟨x,H,I1,ru,⟨rfl,fun ys hy=>by rw [I.ng hy hq]; exact hx⟩,wb,fun b hb=>(hf b hb).1⟩⟩
 done:=by
  intro X hP hw hK hc i pins s σ H E I hf st hg
  subst hP hw hK
  obtain ⟨xs,hq,hx⟩:=hg
  obtain ⟨aL,rv,p,hz⟩:=I.list hq
  obtain ⟨f0,f1,f2,f3,f4,f5⟩:=hf it (by simp)
  have hl:=rv.length
  exact wpAny_pyNext_list_end (I.ok.hd hc) st p.isList (by simp; omega) fun h' eb=>⟨rfl,I.turned (t':=s.toks) (fun b o hb e=>eb b o hb e) f0 f1 f3 f4 f5⟩
 self:=fun _ _ _ _ _ st h=>wpAny_pyIter_listiter st h
theorem nU {P:Program} {w:World} {K:PySem.W.Frag} {tg:Expr} (it:Addr) (lo:Int) (n:Nat):Turn P w K tg (um lo n) [it] it (fun i h=>IsRangeIter h it (lo + (i:Nat) * 1) ((n:Int) - (i:Nat)) 1) where
 mem:=by simp
 obj:=fun i h st b hb=>by
  have e:b = it:=by simpa using hb
  subst e
  exact ⟨_,st,fun v z=>by
   have z':Data.fields _ = Data.cell v:=z
   cases z'⟩
 keep:=fun i h h' st k=>k it (by simp) _ st
 item:=by
  intro X hP hw hK hc i pins s σ H E I hf st hg
  subst hP hw hK
  obtain ⟨f0,f1,f2,f3,f4,f5⟩:=hf it (by simp)
  have W:=Walks.range (prog:=X.prog) (w:=X.w) (I.ok.hd hc) it lo 1 n
  refine W.item i s _ _ hg st fun v h' tk hv wb kk=>?_
  obtain ⟨t,rfl⟩:=hv
  have I1:Inv X pins σ H { s with heap:=h',toks:=tk }:=I.turned (fun b o hb e=>kk b o (by simpa using hb) e) f0 f1 f3 f4 f5
  refine ⟨_,rfl,tJ (s:={ s with heap:=h',toks:=tk }) (n:= "range_iterator") wb rfl rfl (by decide) ⟨.int (lo + i),H,I1,⟨t,?_⟩,⟨rfl,rfl⟩,wb,fun b hb=>(hf b hb).1⟩⟩
  rw [Int.mul_one]
 done:=by
  intro X hP hw hK hc i pins s σ H E I hf st hg
  subst hP hw hK
  obtain ⟨f0,f1,f2,f3,f4,f5⟩:=hf it (by simp)
  exact wpAny_pyNext_range_end (I.ok.hd hc) st (by have:n≤i:=hg; omega) fun h' eb=>⟨rfl,I.turned (t':=s.toks) (fun b o hb e=>eb b o hb e) f0 f1 f3 f4 f5⟩
 self:=fun _ _ _ _ _ st h=>wpAny_pyIter_rangeiter st h
end L2
namespace L2
open PySem PySem.Spec PyProof.Rows
section
variable {X:Cx} {tg:Expr}
def wD (K:PySem.W.Frag) (tl:TE):TI:=fun σ H R=>tl σ H fun x H1=>∃ a,x = .ref a∧(∃ xs,aG K H1 a xs)∧R (vL K a) H1
def LU (K:PySem.W.Frag) (tl:TE):TI:=fun σ H R=>tl σ H fun x H1=>∃ a,x = .ref a∧(∃ xs,SqT K H1 a xs)∧R (N6 K a) H1
theorem de {l:Expr} {tl:TE} (hl:PE X l tl):PI X tg l (wD X.K tl):=by
 intro pins s σ H R I h
 refine bR (hl pins s σ H _ I h) fun v s1 ⟨x,H1,I1,r1,q1⟩=>?_
 obtain ⟨a,e,⟨xs,hq⟩,q⟩:=q1
 subst e
 cases r1
 obtain ⟨aL,rv,p,hz⟩:=I1.list hq
 refine wpAny_pyIter_list p.isList ?_
 refine ⟨s1.heap.objs.size,[s1.heap.objs.size],_,_,H1,rfl,I1.kept (t':=s1.toks) fun b o e=>Heap.get?_push_of_some _ e,ql a _,⟨_,Heap.get?_push_size _ rfl,rfl,rfl⟩,fun b hb=>?_,q⟩
 have e:b = s1.heap.objs.size:=by simpa using hb
 subst e
 exact I1.tK (Nat.le_refl _) (I1.bE.fresh (Nat.le_refl _))
theorem mQ {pins:List (Addr×Obj)} {σ : St} {H:Hp} {s:Shared} {R:It→Hp→Prop} {E:Value→Shared→Prop} {lo hi:Int} {t u v:Tok} {tk:Nat} (I:Inv X pins σ H s) (h1 : -(2 ^ 62)≤lo) (h2:lo < 2 ^ 62) (h3 : -(2 ^ 62)≤hi) (h4:hi < 2 ^ 62)
  (q:R (um lo (hi - lo).toNat) H):wpAny (model X.prog X.w) X.A (pyIter (.ref s.heap.objs.size)) (Jd X pins σ tg R) E { s with heap:=s.heap.push { cls:=.type "range",data:=.fields #[.int lo t,.int hi u,.int 1 v] },toks:=tk }:=by
 refine wpAny_pyIter_range (IsRange.new ..) (small_one h1 h2 h3 h4) ?_
 have I1:Inv X pins σ H { s with heap:=s.heap.push { cls:=.type "range",data:=.fields #[.int lo t,.int hi u,.int 1 v] },toks:=tk }:=I.kept fun b o e=>Heap.get?_push_of_some _ e
 refine ⟨(s.heap.push { cls:=.type "range",data:=.fields #[.int lo t,.int hi u,.int 1 v] }).objs.size,[(s.heap.push { cls:=.type "range",data:=.fields #[.int lo t,.int hi u,.int 1 v] }).objs.size],_,_,H,rfl,
  I1.kept (t':=tk) fun b o e=>Heap.get?_push_of_some _ e,nU _ lo (hi - lo).toNat,?_,fun b hb=>?_,q⟩
 ·have e1:lo + ((0:Nat):Int) * 1 = lo:=by simp
  have e2:(((hi - lo).toNat:Nat):Int) - ((0:Nat):Int) = Builtin.Range.rangeSize lo hi 1:=by rw [rangeSize_one]; split <;> omega
  show IsRangeIter _ _ (lo + ((0:Nat):Int) * 1) ((((hi - lo).toNat:Nat):Int) - ((0:Nat):Int)) 1
  rw [e1,e2]
  exact Heap.get?_push_size _ rfl
 ·have e:b = (s.heap.push { cls:=.type "range",data:=.fields #[.int lo t,.int hi u,.int 1 v] }).objs.size:=by simpa using hb
  subst e
  exact I1.tK (Nat.le_refl _) (I1.bE.fresh (Nat.le_refl _))
def AA (ta:TA):TI:=fun σ H R=>ta σ H fun vs H1=>∃ j:Int,vs = [.int j]∧-(2 ^ 62)≤j∧j < 2 ^ 62∧R (um 0 j.toNat) H1
def Az (ta:TA):TI:=fun σ H R=>ta σ H fun vs H1=>∃ i j:Int,vs = [.int i,.int j]∧(-(2 ^ 62)≤i∧i < 2 ^ 62∧-(2 ^ 62)≤j∧j < 2 ^ 62)∧R (um i (j - i).toNat) H1
theorem bj {a:Expr} {ta:TA} {p pos:Pos} (hg:Gl X "range") (hm:X.mg "range" = none) (ha:PA X [a] ta) (hs:starEach [a] X.env = [(false,eval a X.env)]:=by rfl):PI X tg (.Call (.Name "range" p) [a] [] pos) (AA ta):=by
 intro pins s σ H R I h
 refine Call_ (gT I hg hm boot_range (PyProof.Rows.callWith_type1 (bR (ha pos pins s σ H _ I h) fun us s1 ⟨vs,H1,I1,r1,q1⟩=>?_) hs rfl))
 obtain ⟨j,e,q1,q2,q⟩:=q1
 subst e
 cases r1 with
 | cons r rr=>
  cases rr
  obtain ⟨t,rfl⟩:=r
  exact call_range_1 (mQ I1 (by omega) (by omega) q1 q2 (by simpa using q))
theorem ka {a b:Expr} {ta:TA} {p pos:Pos} (hg:Gl X "range") (hm:X.mg "range" = none) (ha:PA X [a,b] ta) (hs:starEach [a,b] X.env = [(false,eval a X.env),(false,eval b X.env)]:=by rfl) (wF:starEach [b] X.env = [(false,eval b X.env)]:=by rfl) :
  PI X tg (.Call (.Name "range" p) [a,b] [] pos) (Az ta):=by
 intro pins s σ H R I h
 refine Call_ (gT I hg hm boot_range (PyProof.Rows.callWith_type1 (bR (ha pos pins s σ H _ I h) fun us s1 ⟨vs,H1,I1,r1,q1⟩=>?_) (by rw [hs,wF]) (by rw [wF]; rfl)))
 obtain ⟨i,j,e,⟨q1,q2,q3,q4⟩,q⟩:=q1
 subst e
 cases r1 with
 | cons r rr=>
  cases rr with
  | cons r' rr=>
   cases rr
   obtain ⟨t,rfl⟩:=r
   obtain ⟨t',rfl⟩:=r'
   exact call_range_2 (mQ I1 q1 q2 q3 q4 q)
def zJ (wi:TI) (g:TG) (tb:TS):TS:=fun D σ H=>wi σ H fun J H1=>∃ W:Nat→Nat→St→Hp→Prop,(∃ m,W 0 m σ H1)∧∀ i m σ H,W i m σ H→
 (J.stop i H∧D.nx σ H)∨(J.go i H∧∃ N:St→Hp→Prop,(∀ σ' H',N σ' H'→∃ m',m' < m∧W (i + 1) m' σ' H')∧∀ x H',J.rD i H x H'→g x σ H' fun σ2 H2=>tb { D with nx:=N,ct:=N,bk:=D.nx } σ2 H2)
def i6 (fp:List Addr) (h:Heap):List (Addr×Obj):=fp.filterMap fun b=>(h.get? b).map fun o=>(b,o)
theorem eu {fp:List Addr} {h:Heap} {b:Addr} {o:Obj} (hb:b∈fp) (e:h.get? b = some o):(b,o)∈i6 fp h:=List.mem_filterMap.mpr ⟨b,hb,by rw [e]; rfl⟩
theorem qD {fp:List Addr} {h:Heap} {p:Addr×Obj} (hp:p∈i6 fp h):p.1∈fp∧h.get? p.1 = some p.2:=by
 obtain ⟨b,hb,e⟩:=List.mem_filterMap.mp hp
 cases q:h.get? b with
 | none=>rw [q] at e; cases e
 | some o=>
  rw [q] at e
  have e':(b,o) = p:=Option.some.inj e
  subst e'
  exact ⟨hb,q⟩
theorem Inv.pinned {pins:List (Addr×Obj)} {σ : St} {H:Hp} {s:Shared} {fp:List Addr} (I:Inv X pins σ H s) (hf:∀ b∈fp,jS X pins H b) (ho:∀ b∈fp,∃ o,s.heap.get? b = some o∧∀ v,o.data≠.cell v):Inv X (pins ++ i6 fp s.heap) σ H s:=
 I.pK fun p hp=>(List.mem_append.mp hp).elim (fun z=>I.pin p (List.mem_append_right _ z)) fun z=>by
  obtain ⟨hb,e⟩:=qD z
  obtain ⟨f0,f1,f2,_⟩:=hf p.1 hb
  obtain ⟨o,e',d⟩:=ho p.1 hb
  rw [e] at e'; cases e'
  exact ⟨e,f0,f1,f2,d⟩
theorem Inv.gg {pins pl:List (Addr×Obj)} {σ : St} {H:Hp} {s:Shared} (I:Inv X (pins ++ pl) σ H s):Inv X pins σ H s:=I.pK fun p hp=>I.pin p (List.mem_append_right _ (List.mem_append_left _ hp))
theorem bU {iter:Expr} {body:List Stmt} {wi:TI} {g:TG} {tb:TS} {pos:Pos} (hp:PassesOwn (model X.prog X.w) X.A X.env X.xe) (hc:X.calm = true) (hi:PI X tg iter wi) (hg:PG X tg g) (hb:qj X body tb)
  (hs:∀ x,foldedSetIterable iter X.env x = pure x:=by intro _; rfl):PS X (.For tg iter body [] pos) (zJ wi g tb):=by
 intro pins s σ H D I h
 refine wpAny_For (bR (hi pins s σ H _ I h) fun v s1 h1=>bR h1 fun E8 s2 h2=>?_) hs
 obtain ⟨it,fp,tn,J,H2,e,I2,T,JI,f2,W,⟨m0,w0⟩,turn⟩:=h2
 subst e
 -- C2 stays true of rJ iterator's objects through rJ loop
 have xt:∀ {H':Hp},(∀ b∈fp,H' b = none)→∀ b∈fp,jS X pins H' b:=fun hn b hb=>⟨hn b hb,(f2 b hb).2⟩
 refine codeAny_forLoop_any (fun n s'=>∃ i σ' H',Inv X pins σ' H' s'∧tn i s'.heap∧(∀ b∈fp,H' b = none)∧W i n σ' H') ?_ m0 ⟨0,σ,H2,I2,JI,fun b hb=>(f2 b hb).1,w0⟩
 rintro n s3 ⟨i,σ3,H3,I3,Hu,rq,w3⟩
 rcases turn i n σ3 H3 w3 with ⟨stop,qn⟩ | ⟨go,N,hN,step⟩
 ·refine wpAny_passesOwn hp (bR (T.done X rfl rfl rfl hc i pins s3 σ3 H3 X.xe I3 (xt rq) Hu stop) fun r s4 ⟨hr,I4⟩=>?_)
  subst hr
  exact wpAny_execs_nil ⟨σ3,H3,I4,qn⟩
 ·refine wpAny_passesOwn hp (bR (T.item X rfl rfl rfl hc i pins s3 σ3 H3 X.xe I3 (xt rq) Hu go) fun r s4 ⟨u,hr,h4⟩=>?_)
  subst hr
  refine wpAny_passesOwn hp (bR h4 fun _ s5 ⟨x,H5,I5,r5,y5,Dq,yC⟩=>?_)
  have Ob:=I5.pinned (xt yC) (T.obj _ _ Dq)
  refine wpAny_passesOwn hp (bR (hg _ s5 σ3 H5 x u _ Ob r5 (step x H5 y5)) fun _ s6 ⟨σ6,H6,I6,q6⟩=>?_)
  refine wpAny_passesOwn hp (bR (hb _ s6 σ6 H6 _ I6 q6) fun f s7 q7=>?_)
  have again:∀ {σ7:St} {H7:Hp},Inv X (pins ++ i6 fp s5.heap) σ7 H7 s7→N σ7 H7→∃ m,m < n∧∃ i σ' H',Inv X pins σ' H' s7∧tn i s7.heap∧(∀ b∈fp,H' b = none)∧W i m σ' H':=fun {σ7 H7} I7 n7=>by
   obtain ⟨m',hm,w7⟩:=hN σ7 H7 n7
   refine ⟨m',hm,i + 1,σ7,H7,I7.gg,T.keep _ _ _ Dq fun b hb o e=>(I7.pin (b,o) (List.mem_append_right _ (List.mem_append_right _ (eu hb e)))).1,fun b hb=>?_,w7⟩
   obtain ⟨o,e,d⟩:=T.obj _ _ Dq b hb
   exact (I7.pin (b,o) (List.mem_append_right _ (List.mem_append_right _ (eu hb e)))).2.1
  cases f with
  | next=>obtain ⟨σ7,H7,I7,n7⟩:=q7; exact again I7 n7
  | cont=>obtain ⟨σ7,H7,I7,n7⟩:=q7; exact again I7 n7
  | brk=>obtain ⟨σ7,H7,I7,q7⟩:=q7; exact ⟨σ7,H7,I7.gg,q7⟩
  | ret v=>obtain ⟨x7,σ7,H7,I7,r7,q7⟩:=q7; exact ⟨x7,σ7,H7,I7.gg,r7,q7⟩
end
theorem fb {K:PySem.W.Frag} {a:Addr} {xs:List V} {g:TG} {tb:TS} {D:Ends} {σ : St} {H:Hp} (Pv:Nat→St→Hp→Prop) (h0:Pv 0 σ H) (hl:∀ i σ H,i≤xs.length→Pv i σ H→aG K H a xs)
  (hs:∀ i x σ H,xs[i]? = some x→Pv i σ H→g x σ H fun σ2 H2=>tb { D with nx:=Pv (i + 1),ct:=Pv (i + 1),bk:=D.nx } σ2 H2) (hd:∀ σ H,Pv xs.length σ H→D.nx σ H) :
  ∃ W:Nat→Nat→St→Hp→Prop,(∃ m,W 0 m σ H)∧∀ i m σ H,W i m σ H→
   ((vL K a).stop i H∧D.nx σ H)∨((vL K a).go i H∧∃ N:St→Hp→Prop,(∀ σ' H',N σ' H'→∃ m',m' < m∧W (i + 1) m' σ' H')∧∀ x H',(vL K a).rD i H x H'→g x σ H' fun σ2 H2=>tb { D with nx:=N,ct:=N,bk:=D.nx } σ2 H2):=by
 refine ⟨fun i m σ H=>m = xs.length - i∧i≤xs.length∧Pv i σ H,⟨xs.length,by simp,Nat.zero_le _,h0⟩,?_⟩
 rintro i m σ H ⟨rfl,hi,p⟩
 have q:=hl i σ H hi p
 by_cases dD:i < xs.length
 ·refine .inr ⟨⟨xs,xs[i],q,by simp [dD]⟩,Pv (i + 1),fun σ' H' p'=>⟨xs.length - (i + 1),by omega,rfl,dD,p'⟩,fun x H' y=>?_⟩
  obtain ⟨e,y⟩:=y
  subst e
  exact hs i x σ _ (y xs q) p
 ·have e:i = xs.length:=by omega
  subst e
  exact .inl ⟨⟨xs,q,Nat.le_refl _⟩,hd σ H p⟩
theorem bI {lo:Int} {n:Nat} {g:TG} {tb:TS} {D:Ends} {σ : St} {H:Hp} (Pv:Nat→St→Hp→Prop) (h0:Pv 0 σ H)
  (hs:∀ i σ H,i < n→Pv i σ H→g (.int (lo + i)) σ H fun σ2 H2=>tb { D with nx:=Pv (i + 1),ct:=Pv (i + 1),bk:=D.nx } σ2 H2) (hd:∀ σ H,Pv n σ H→D.nx σ H) :
  ∃ W:Nat→Nat→St→Hp→Prop,(∃ m,W 0 m σ H)∧∀ i m σ H,W i m σ H→
   ((um lo n).stop i H∧D.nx σ H)∨((um lo n).go i H∧∃ N:St→Hp→Prop,(∀ σ' H',N σ' H'→∃ m',m' < m∧W (i + 1) m' σ' H')∧∀ x H',(um lo n).rD i H x H'→g x σ H' fun σ2 H2=>tb { D with nx:=N,ct:=N,bk:=D.nx } σ2 H2):=by
 refine ⟨fun i m σ H=>m = n - i∧i≤n∧Pv i σ H,⟨n,by simp,Nat.zero_le _,h0⟩,?_⟩
 rintro i m σ H ⟨rfl,hi,p⟩
 by_cases dD:i < n
 ·refine .inr ⟨dD,Pv (i + 1),fun σ' H' p'=>⟨n - (i + 1),by omega,rfl,dD,p'⟩,fun x H' y=>?_⟩
  obtain ⟨e,y⟩:=y
  subst e y
  exact hs i σ _ dD p
 ·have e:i = n:=by omega
  subst e
  exact .inl ⟨Nat.le_refl _,hd σ H p⟩
end L2
namespace L2
open PySem PySem.Spec PyProof.Rows
abbrev R2:=V→V→Hp→VK→Prop
def jA (X:Cx) (f:Value→Value→Sem Value) (r:R2):Prop:=
 ∀ (pins:List (Addr×Obj)) (s:Shared) (σ : St) (H:Hp) (x y:V) (v u:Value) (Q:VK),Inv X pins σ H s→RelV x v→RelV y u→r x y H Q→
  wpAny (model X.prog X.w) X.A (f v u) (EP X pins σ Q) X.xe s
def G0 (X:Cx) (f:Value→Sem Value) (r:V→Hp→VK→Prop):Prop:=
 ∀ (pins:List (Addr×Obj)) (s:Shared) (σ : St) (H:Hp) (x:V) (v:Value) (Q:VK),Inv X pins σ H s→RelV x v→r x H Q→
  wpAny (model X.prog X.w) X.A (f v) (EP X pins σ Q) X.xe s
def kO (X:Cx) (f:Value) (r:List V→Hp→VK→Prop):Prop:=
 ∀ (pins:List (Addr×Obj)) (s:Shared) (σ : St) (H:Hp) (xs:List V) (us:List Value) (Q:VK),Inv X pins σ H s→Vals xs us→r xs H Q→
  wpAny (model X.prog X.w) X.A (call f us) (EP X pins σ Q) X.xe s
def G4 (X:Cx) (r:V→Hp→(Bool→Hp→Prop)→Prop):Prop:=
 ∀ (pins:List (Addr×Obj)) (s:Shared) (σ : St) (H:Hp) (x:V) (v:Value) (Q:Bool→Hp→Prop),Inv X pins σ H s→RelV x v→r x H Q→
  wpAny (model X.prog X.w) X.A (truthy v) (TP X pins σ Q) X.xe s
def zE (r:R2) (ta tb:TE):TE:=fun σ H Q=>ta σ H fun x H1=>tb σ H1 fun y H2=>r x y H2 Q
def Hj (r:V→Hp→VK→Prop) (ta:TE):TE:=fun σ H Q=>ta σ H fun x H1=>r x H1 Q
def rI (C:Int→Int→Prop) (g:Int→Int→V):R2:=fun x y H Q=>∃ i j,x = .int i∧y = .int j∧C i j∧Q (g i j) H
def wm (g:Int→Int→V):R2:=fun x y H Q=>∃ i j,x = .int i∧y = .int j∧Q (g i j) H
def rU (g:Int→V):V→Hp→VK→Prop:=fun x H Q=>∃ i,x = .int i∧Q (g i) H
section
variable {X:Cx} {a b c:Expr} {ta tb tc:TE} {pos:Pos}
theorem yQ (ha:PE X a ta) (hb:PE X b tb) {pins:List (Addr×Obj)} {s:Shared} {σ : St} {H:Hp} {R:V→V→Hp→Prop} (I:Inv X pins σ H s)
  (h:ta σ H fun x H1=>tb σ H1 fun y H2=>R x y H2) {Q:Value→Shared→Prop} {f:Value→Value→Sem Value}
  (hf:∀ v u s2 x y H2,Inv X pins σ H2 s2→RelV x v→RelV y u→R x y H2→wpAny (model X.prog X.w) X.A (f v u) Q X.xe s2) :
  wpAny (model X.prog X.w) X.A (eval a X.env) (fun v s₁=>wpAny (model X.prog X.w) X.A (eval b X.env) (fun u s₂=>wpAny (model X.prog X.w) X.A (f v u) Q X.xe s₂) X.xe s₁) X.xe s:=by
 refine bR (ha pins s σ H _ I h) fun v s1 ⟨x,H1,I1,r1,q1⟩=>?_
 refine bR (hb pins s1 σ H1 _ I1 q1) fun u s2 ⟨y,H2,I2,r2,q2⟩=>?_
 exact hf v u s2 x y H2 I2 r1 r2 q2
theorem aE {op:Operator} {r:R2} (ho:jA X (binaryOp op) r) (ha:PE X a ta) (hb:PE X b tb):PE X (.BinOp a op b pos) (zE r ta tb):=by
 intro pins s σ H Q I h
 exact wpAny_BinOp (yQ ha hb I h fun v u s2 x y H2 I2 rx ry q=>ho pins s2 σ H2 x y v u Q I2 rx ry q)
theorem wx {op:UnaryOp} {r:V→Hp→VK→Prop} (ho:G0 X (unaryOp op) r) (ha:PE X a ta):PE X (.UnaryOp op a pos) (Hj r ta):=by
 intro pins s σ H Q I h
 exact UnaryOp_ (bR (ha pins s σ H _ I h) fun v s1 ⟨x,H1,I1,r1,q1⟩=>ho pins s1 σ H1 x v Q I1 r1 q1)
theorem Cd {f:Value→Value→Sem Value} {C:Int→Int→Prop} {g:Int→Int→Int}
  (rule:∀ (i j:Int) (t u:Tok) (s:Shared) (Q:Value→Shared→Prop) (E:Value→Shared→Prop),C i j→Q (.int (g i j) s.toks) { s with toks:=s.toks + 1 }→wpAny (model X.prog X.w) X.A (f (.int i t) (.int j u)) Q E s) :
  jA X f (rI C fun i j=>.int (g i j)):=by
 intro pins s σ H x y v u Q I rx ry h
 obtain ⟨i,j,rfl,rfl,hc,q⟩:=h
 obtain ⟨t,rfl⟩:=rx
 obtain ⟨t',rfl⟩:=ry
 exact rule i j t t' s _ _ hc ⟨.int (g i j),H,I.tok _,⟨_,rfl⟩,q⟩
theorem Ag {f:Value→Value→Sem Value} {g:Int→Int→Int}
  (rule:∀ (i j:Int) (t u:Tok) (s:Shared) (Q:Value→Shared→Prop) (E:Value→Shared→Prop),Q (.int (g i j) s.toks) { s with toks:=s.toks + 1 }→wpAny (model X.prog X.w) X.A (f (.int i t) (.int j u)) Q E s) :
  jA X f (wm fun i j=>.int (g i j)):=by
 intro pins s σ H x y v u Q I rx ry h
 obtain ⟨i,j,rfl,rfl,q⟩:=h
 obtain ⟨t,rfl⟩:=rx
 obtain ⟨t',rfl⟩:=ry
 exact rule i j t t' s _ _ ⟨.int (g i j),H,I.tok _,⟨_,rfl⟩,q⟩
theorem xV {f:Value→Value→Sem Value} {g:Int→Int→Bool}
  (rule:∀ (i j:Int) (t u:Tok) (s:Shared) (Q:Value→Shared→Prop) (E:Value→Shared→Prop),Q (.bool (g i j)) s→wpAny (model X.prog X.w) X.A (f (.int i t) (.int j u)) Q E s) :
  jA X f (wm fun i j=>.bl (g i j)):=by
 intro pins s σ H x y v u Q I rx ry h
 obtain ⟨i,j,rfl,rfl,q⟩:=h
 obtain ⟨t,rfl⟩:=rx
 obtain ⟨t',rfl⟩:=ry
 exact rule i j t t' s _ _ ⟨.bl (g i j),H,I,rfl,q⟩
def Ow (i j:Int):Prop:=0 < j∧j < 1073741824
def Ji (i j:Int):Prop:=j≠0∧j.natAbs < 1073741824
def Ha (i j:Int):Prop:=0≤j∧j≤1000000∧i.natAbs < 2 ^ 64
def Ov (i j:Int):Prop:=(-(2 ^ 64) < i∧i < 2 ^ 64)∨(-(2 ^ 64) < j∧j < 2 ^ 64)
theorem ck:jA X (binaryOp .Add) (wm fun i j=>.int (i + j)):=Ag fun _ _ _ _ _ _ _ q=>add_int q
theorem lM:jA X (binaryOp .Sub) (wm fun i j=>.int (i - j)):=Ag fun _ _ _ _ _ _ _ q=>sub_int q
theorem bH:jA X (binaryOp .Mod) (rI (fun _ j=>0 < j) fun i j=>.int (i % j)):=Cd fun i j _ _ _ _ _ hc q=>by
 have h1:(0:Int) < j:=hc
 exact mod_int' (by omega) (by rw [Int.fmod_eq_emod_of_nonneg i (by omega)]; exact q)
theorem oh:jA X (binaryOp .Pow) (rI Ha fun i j=>.int (i ^ j.toNat)):=Cd fun _ _ _ _ _ _ _ hc q=>pow_int_small hc.1 hc.2.1 hc.2.2 q
theorem Jl {f:Value→Sem Value} {g:Int→Int}
  (rule:∀ (i:Int) (t:Tok) (s:Shared) (Q:Value→Shared→Prop) (E:Value→Shared→Prop),Q (.int (g i) s.toks) { s with toks:=s.toks + 1 }→wpAny (model X.prog X.w) X.A (f (.int i t)) Q E s) :
  G0 X f (rU fun i=>.int (g i)):=by
 intro pins s σ H x v Q I rx h
 obtain ⟨i,rfl,q⟩:=h
 obtain ⟨t,rfl⟩:=rx
 exact rule i t s _ _ ⟨.int (g i),H,I.tok _,⟨_,rfl⟩,q⟩
theorem rF:G0 X (unaryOp .USub) (rU fun i=>.int (-i)):=Jl fun _ _ _ _ _ q=>neg_int q
end
def zT:V→V→Bool
 | .bK,.bK=>true | .bK,.int _=>true | .int _,.bK=>true | .bK,.bl _=>true | .bl _,.bK=>true | .bK,.str _=>true | .str _,.bK=>true
 | .int _,.int _=>true | .bl _,.bl _=>true | .str _,.str _=>true | .nT _,.nT _=>true
 | .int _,.str _=>true | .str _,.int _=>true | .bl _,.str _=>true | .str _,.bl _=>true
 | _,_=>false
def DO:R2:=fun x y H Q=>zT x y = true∧Q (.bl (decide (x = y))) H
def HC:R2:=fun x y H Q=>zT x y = true∧Q (.bl (!decide (x = y))) H
theorem iG {i j:Int}:decide (V.int i = V.int j) = (i == j):=by
 rw [Bool.eq_iff_iff]
 simp
theorem oD {i j:Bool}:decide (V.bl i = V.bl j) = (i == j):=by
 rw [Bool.eq_iff_iff]
 simp
theorem qb {i j:Str}:decide (V.str i = V.str j) = (i == j):=by
 rw [Bool.eq_iff_iff]
 simp
theorem qc {i j:Array UInt8}:decide (V.nT i = V.nT j) = (i.toList == j.toList):=by
 rw [Bool.eq_iff_iff]
 cases i
 cases j
 simp
section
variable {X:Cx} {a b c:Expr} {ta tb tc:TE} {pos:Pos}
theorem aP {pins:List (Addr×Obj)} {σ : St} {H:Hp} {s:Shared} {Q:VK} {k k':Bool} (I:Inv X pins σ H s) (q:Q (.bl k) H) (e:k = k'):EP X pins σ Q (.bool k') s:=by
 subst e
 exact ⟨.bl k,H,I,rfl,q⟩
theorem ki:jA X (compareOp .Eq) DO:=by
 intro pins s σ H x y v u Q I rx ry h
 obtain ⟨hs,q⟩:=h
 cases x with
 | bK=>
  cases rx
  cases y with
  | bK=>cases ry; exact PySem.EqNone.eq_none_none (aP I q (by simp))
  | bl j=>cases ry; exact PySem.EqNone.eq_none_bool (aP I q (by simp))
  | int j=>obtain ⟨t',rfl⟩:=ry; exact PySem.EqNone.eq_none_int (aP I q (by simp))
  | str j=>obtain ⟨t',rfl⟩:=ry; exact PySem.EqNone.eq_none_str (aP I q (by simp))
  | _=>exact absurd (show false = true from hs) Bool.false_ne_true
 | bl i=>
  cases rx
  cases y with
  | bK=>cases ry; exact PySem.EqNone.eq_bool_none (aP I q (by simp))
  | bl j=>cases ry; exact eq_bool (aP I q oD)
  | str j=>obtain ⟨t',rfl⟩:=ry; exact PySem.EqMixed.eq_bool_str (aP I q (by simp))
  | _=>exact absurd (show false = true from hs) Bool.false_ne_true
 | int i=>
  obtain ⟨t,rfl⟩:=rx
  cases y with
  | bK=>cases ry; exact PySem.EqNone.eq_int_none (aP I q (by simp))
  | int j=>obtain ⟨t',rfl⟩:=ry; exact eq_int (aP I q iG)
  | str j=>obtain ⟨t',rfl⟩:=ry; exact PySem.EqMixed.eq_int_str (aP I q (by simp))
  | _=>exact absurd (show false = true from hs) Bool.false_ne_true
 | str i=>
  obtain ⟨t,rfl⟩:=rx
  cases y with
  | bK=>cases ry; exact PySem.EqNone.eq_str_none (aP I q (by simp))
  | bl j=>cases ry; exact PySem.EqMixed.eq_str_bool (aP I q (by simp))
  | int j=>obtain ⟨t',rfl⟩:=ry; exact PySem.EqMixed.eq_str_int (aP I q (by simp))
  | str j=>obtain ⟨t',rfl⟩:=ry; exact eq_str (aP I q qb)
  | _=>exact absurd (show false = true from hs) Bool.false_ne_true
 | nT i=>
  obtain ⟨t,rfl⟩:=rx
  cases y with
  | nT j=>obtain ⟨t',rfl⟩:=ry; exact PySem.W.eq_bytes (aP I q qc)
  | _=>exact absurd (show false = true from hs) Bool.false_ne_true
 | _=>cases y <;> exact absurd (show false = true from hs) Bool.false_ne_true
theorem kc:jA X (compareOp .NotEq) HC:=by
 intro pins s σ H x y v u Q I rx ry h
 obtain ⟨hs,q⟩:=h
 cases x with
 | bK=>
  cases rx
  cases y with
  | bK=>cases ry; exact PySem.EqNone.ne_none_none (aP I q (by simp))
  | bl j=>cases ry; exact PySem.EqNone.ne_none_bool (aP I q (by simp))
  | int j=>obtain ⟨t',rfl⟩:=ry; exact PySem.EqNone.ne_none_int (aP I q (by simp))
  | str j=>obtain ⟨t',rfl⟩:=ry; exact PySem.EqNone.ne_none_str (aP I q (by simp))
  | _=>exact absurd (show false = true from hs) Bool.false_ne_true
 | bl i=>
  cases rx
  cases y with
  | bK=>cases ry; exact PySem.EqNone.ne_bool_none (aP I q (by simp))
  | bl j=>cases ry; exact ne_bool (aP I q (congrArg not oD))
  | str j=>obtain ⟨t',rfl⟩:=ry; exact PySem.EqMixed.ne_bool_str (aP I q (by simp))
  | _=>exact absurd (show false = true from hs) Bool.false_ne_true
 | int i=>
  obtain ⟨t,rfl⟩:=rx
  cases y with
  | bK=>cases ry; exact PySem.EqNone.ne_int_none (aP I q (by simp))
  | int j=>obtain ⟨t',rfl⟩:=ry; exact ne_int (aP I q (congrArg not iG))
  | str j=>obtain ⟨t',rfl⟩:=ry; exact PySem.EqMixed.ne_int_str (aP I q (by simp))
  | _=>exact absurd (show false = true from hs) Bool.false_ne_true
 | str i=>
  obtain ⟨t,rfl⟩:=rx
  cases y with
  | bK=>cases ry; exact PySem.EqNone.ne_str_none (aP I q (by simp))
  | bl j=>cases ry; exact PySem.EqMixed.ne_str_bool (aP I q (by simp))
  | int j=>obtain ⟨t',rfl⟩:=ry; exact PySem.EqMixed.ne_str_int (aP I q (by simp))
  | str j=>obtain ⟨t',rfl⟩:=ry; exact ne_str (aP I q (congrArg not qb))
  | _=>exact absurd (show false = true from hs) Bool.false_ne_true
 | nT i=>
  obtain ⟨t,rfl⟩:=rx
  cases y with
  | nT j=>obtain ⟨t',rfl⟩:=ry; exact PySem.W.ne_bytes (aP I q (congrArg not qc))
  | _=>exact absurd (show false = true from hs) Bool.false_ne_true
 | _=>cases y <;> exact absurd (show false = true from hs) Bool.false_ne_true
theorem kg:jA X (compareOp .Lt) (wm fun i j=>.bl (decide (i < j))):=xV fun _ _ _ _ _ _ _ q=>lt_int q
theorem Af:jA X (compareOp .LtE) (wm fun i j=>.bl (decide (i≤j))):=xV fun _ _ _ _ _ _ _ q=>le_int q
theorem kh:jA X (compareOp .Gt) (wm fun i j=>.bl (decide (j < i))):=xV fun _ _ _ _ _ _ _ q=>gt_int q
def isObj:HO→Bool
 | .lst _=>true
 | .ins _ _ _=>true
 | _=>false
theorem bg (b:Expr) {op:CmpOp} (h:op≠.In:=by decide) (h2:op≠.NotIn:=by decide):behindInMarks op b = false:=by
 have e1:(op == CmpOp.In) = false:=by cases op <;> first | rfl | exact absurd rfl h
 have e2:(op == CmpOp.NotIn) = false:=by cases op <;> first | rfl | exact absurd rfl h2
 cases b <;> simp [behindInMarks,e1,e2]
theorem fz {op:CmpOp} {r:R2} (ho:jA X (compareOp op) r) (ha:PE X a ta) (hb:PE X b tb) (hm:behindInMarks op b = false):PE X (.Compare a [op] [b] pos) (zE r ta tb):=by
 intro pins s σ H Q I h
 exact wpAny_Compare1 (yQ ha hb I h fun v u s2 x y H2 I2 rx ry q=>ho pins s2 σ H2 x y v u Q I2 rx ry q) hm
def vW (t:TE):TT:=fun σ H Q=>t σ H fun x H'=>∃ k,x = .bl k∧Q k H'
theorem aN {op:CmpOp} {r:R2} (ho:jA X (compareOp op) r) (ha:PE X a ta) (hb:PE X b tb) (hm:behindInMarks op b = false):PT X (.Compare a [op] [b] pos) (vW (zE r ta tb)):=by
 intro pins s σ H Q I h
 refine wpAny_isTrue_Compare1 (bR (ha pins s σ H _ I h) fun v s1 ⟨x,H1,I1,r1,q1⟩=>bR (hb pins s1 σ H1 _ I1 q1) fun u s2 ⟨y,H2,I2,r2,q2⟩=>
  bR (ho pins s2 σ H2 x y v u _ I2 r1 r2 q2) fun c s3 ⟨z,H3,I3,r3,k,e,q3⟩=>?_) hm
 subst e
 cases r3
 exact wpAny_truthy_bool ⟨H3,I3,q3⟩
def Dk (r r':R2) (ta tb tc:TE):TE:=fun σ H Q=>ta σ H fun x H1=>tb σ H1 fun y H2=>r x y H2 fun z H3=>∃ k,z = .bl k∧
 (if k = true then tc σ H3 fun w' H4=>r' y w' H4 Q else Q (.bl false) H3)
def G3 (K:PySem.W.Frag) (x:V) (H:Hp) (k:Bool):Prop:=
 match x with
 | .bK=>k = false
 | .bl b=>k = b
 | .int i=>k = (i != 0)
 | .str y=>y.length≤sizeLine∧k = ((y.length:Int) != 0)
 | .nT y=>y.size≤sizeLine∧k = ((y.size:Int) != 0)
 | .ref p=>(∃ xs,aG K H p xs∧k = !xs.isEmpty)∨(∃ xs,SqT K H p xs∧k = !xs.isEmpty)∨∃ aj,H p = some (.dK aj)∧k = !aj.isEmpty
 | _=>False
theorem ow {κ : Type} {aj:List (κ×V)} {vs:List (κ×Value)} (r:KV aj vs):(!vs.isEmpty) = !aj.isEmpty:=by
 cases r <;> rfl
theorem jk {xs:List V} {aL:List Value} (r:Vals xs aL):(!aL.toArray.isEmpty) = !xs.isEmpty:=by
 cases r <;> simp
theorem gS:(sizeLine:Nat) < 2 ^ 63:=by rw [sizeLine_eq]; decide
theorem C4:G4 X (fun x H Q=>∃ k,G3 X.K x H k∧Q k H):=by
 intro pins s σ H x v Q I rx h
 obtain ⟨k,e,q⟩:=h
 have hl:=gS
 have hs:sizeLine = 16777216:=sizeLine_eq
 cases x with
 | bK=>
  cases rx
  have e':k = false:=e
  subst e'
  exact truthy_none ⟨H,I,q⟩
 | bl b=>
  cases rx
  have e':k = b:=e
  subst e'
  exact wpAny_truthy_bool ⟨H,I,q⟩
 | int i=>
  obtain ⟨t,rfl⟩:=rx
  have e':k = (i != 0):=e
  subst e'
  exact PySem.P.truthy_int ⟨H,I,q⟩
 | str y=>
  obtain ⟨t,rfl⟩:=rx
  obtain ⟨hy,e'⟩:y.length≤sizeLine∧k = ((y.length:Int) != 0):=e
  subst e'
  exact PySem.P.truthy_str (by omega) ⟨H,I.tok _,q⟩
 | nT y=>
  obtain ⟨t,rfl⟩:=rx
  obtain ⟨hy,e'⟩:y.size≤sizeLine∧k = ((y.size:Int) != 0):=e
  subst e'
  exact PySem.W.truthy_bytes (by omega) ⟨H,I.tok _,q⟩
 | ref p=>
  cases rx
  have e':(∃ xs,aG X.K H p xs∧k = !xs.isEmpty)∨(∃ xs,SqT X.K H p xs∧k = !xs.isEmpty)∨∃ aj,H p = some (.dK aj)∧k = !aj.isEmpty:=e
  rcases e' with ⟨xs,hx,e'⟩ | ⟨xs,hx,e'⟩ | ⟨aj,hx,e'⟩
  ·subst e'
   obtain ⟨aL,r,pl,hz⟩:=I.list hx
   have hlen:=r.length
   exact wpAny_truthy_list pl.isList (by simp only [List.size_toArray]; omega) ⟨H,I.tok _,by rw [jk r]; exact q⟩
  ·subst e'
   obtain ⟨aL,r,pl,hz⟩:=I.tuple hx
   have hlen:=r.length
   exact truthy_tuple pl (by simp only [List.size_toArray]; omega) ⟨H,I.tok _,by rw [jk r]; exact q⟩
  ·subst e'
   obtain ⟨hz,hS,vs,r,m⟩:aj.length≤sizeLine∧(p == sysModules) = false∧∃ vs,KV aj vs∧s.heap.DictOf (bp X.prog X.w) p vs:=I.bE p _ hx
   have hlen:aj.length = vs.length:=Paired.length r
   exact wpAny_truthy_dict hS m (by omega) ⟨H,I.tok _,by rw [ow r]; exact q⟩
 | _=>exact (show False from e).elim
def BJ (b:Expr):Prop:=∀ o i,subscripted b false o i = operate [o,i] (getItem o i)
theorem vals1 {x:V} {us:List Value} (r:Vals [x] us):∃ u,us = [u]∧RelV x u:=by
 cases r with
 | cons r1 r2=>cases r2; exact ⟨_,rfl,r1⟩
theorem vals2 {x y:V} {us:List Value} (r:Vals [x,y] us):∃ u w',us = [u,w']∧RelV x u∧RelV y w':=by
 cases r with
 | cons r1 r2=>
  cases r2 with
  | cons r3 r4=>cases r4; exact ⟨_,_,rfl,r1,r3⟩
theorem qX (hc:X.calm = true):kO X (.builtin "max") (fun xs H Q=>∃ i j,xs = [.int i,.int j]∧Q (.int (if j > i then j else i)) H):=by
 intro pins s σ H xs us Q I r h
 obtain ⟨i,j,rfl,q⟩:=h
 obtain ⟨u,w',rfl,⟨t,rfl⟩,⟨t',rfl⟩⟩:=vals2 r
 refine max_two_ints (I.ok.hd hc) fun h' tk k=>⟨_,H,I.kept k,?_,q⟩
 by_cases hj:j > i
 ·rw [if_pos hj,if_pos hj]; exact ⟨_,rfl⟩
 ·rw [if_neg hj,if_neg hj]; exact ⟨_,rfl⟩
theorem hE (hc:X.calm = true):kO X (.builtin "min") (fun xs H Q=>∃ i j,xs = [.int i,.int j]∧Q (.int (if j < i then j else i)) H):=by
 intro pins s σ H xs us Q I r h
 obtain ⟨i,j,rfl,q⟩:=h
 obtain ⟨u,w',rfl,⟨t,rfl⟩,⟨t',rfl⟩⟩:=vals2 r
 refine min_two_ints (I.ok.hd hc) fun h' tk k=>⟨_,H,I.kept k,?_,q⟩
 by_cases hj:j < i
 ·rw [if_pos hj,if_pos hj]; exact ⟨_,rfl⟩
 ·rw [if_neg hj,if_neg hj]; exact ⟨_,rfl⟩
def G8 (K:PySem.W.Frag) (x:V) (H:Hp) (n:Nat):Prop:=
 match x with
 | .str y=>y.length≤sizeLine∧n = y.length
 | .nT y=>y.size≤sizeLine∧n = y.size
 | .ref p=>(∃ xs,aG K H p xs∧n = xs.length)∨∃ xs,SqT K H p xs∧n = xs.length
 | _=>False
theorem aF:kO X (.builtin "len") (fun xs H Q=>∃ x n,xs = [x]∧G8 X.K x H n∧Q (.int n) H):=by
 intro pins s σ H xs us Q I r h
 obtain ⟨x,n,rfl,e,q⟩:=h
 obtain ⟨u,rfl,rx⟩:=vals1 r
 have hl:=gS
 have hs:sizeLine = 16777216:=sizeLine_eq
 cases x with
 | str y=>
  obtain ⟨t,rfl⟩:=rx
  obtain ⟨hy,e'⟩:y.length≤sizeLine∧n = y.length:=e
  subst e'
  exact len_str (by omega) ⟨.int _,H,I.tok _,⟨_,rfl⟩,q⟩
 | nT y=>
  obtain ⟨t,rfl⟩:=rx
  obtain ⟨hy,e'⟩:y.size≤sizeLine∧n = y.size:=e
  subst e'
  exact PySem.W.len_bytes (by omega) ⟨.int _,H,I.tok _,⟨_,rfl⟩,q⟩
 | ref p=>
  cases rx
  have e':(∃ xs,aG X.K H p xs∧n = xs.length)∨∃ xs,SqT X.K H p xs∧n = xs.length:=e
  rcases e' with ⟨xs,hx,e'⟩ | ⟨xs,hx,e'⟩
  ·subst e'
   obtain ⟨aL,r',pl,hz⟩:=I.list hx
   have hlen:=r'.length
   exact Calls.call_len_list pl.isList (by simp only [List.size_toArray]; omega) ⟨.int xs.length,H,I.tok _,⟨_,by simp only [List.size_toArray]; rw [hlen]⟩,q⟩
  ·subst e'
   obtain ⟨aL,r',pl,hz⟩:=I.tuple hx
   have hlen:=r'.length
   exact len_tuple pl (by simp only [List.size_toArray]; omega) ⟨.int xs.length,H,I.tok _,⟨_,by simp only [List.size_toArray]; rw [hlen]⟩,q⟩
 | _=>exact (show False from e).elim
end
end L2
namespace L2
open PySem PySem.Spec PyProof.Rows
structure NZ (h:Heap) (x dx C:Addr) (mA:Str→Option Value):Prop where
 obj:h.get? x = some (PySem.W.instObj C dx)
 ns:h.Ns1 dx mA
 ne:dx≠x
def xH (f:Str) (v:V):List (Str×V)→List (Str×V)
 | []=>[(f,v)]
 | (g,x) :: r=>if g = f then (g,v) :: r else (g,x) :: xH f v r
theorem jQ.some_of {v:V} {o:Option Value} (r:jQ (some v) o):∃ u,o = some u∧RelV v u:=by
 cases o with
 | none=>exact (show False from r).elim
 | some u=>exact ⟨u,rfl,r⟩
structure BQ (K:PySem.W.Frag) (C:Addr):Prop where
 pg:PySem.W.plainGet K C Str.empty = true
 hd:PySem.W.hasDictIn K C = true
 po:PySem.W.plainOver K C = true
 sa:PySem.W.findIn K (.ref C) "__setattr__" = some (some (.builtin "object.__setattr__"))
def oG (K:PySem.W.Frag) (C:Addr) (f:Str):Prop:=PySem.W.findIn K (.ref C) f = some none
structure Ou (K:PySem.W.Frag) (C:Addr) (f:Str) (v:V) (u:Value):Prop where
 at_:PySem.W.findIn K (.ref C) f = some (some u)
 rel:RelV v u
 get:PySem.W.specialIn K u "__get__" = some none
 cp:PySem.W.copiedNames.contains f = false
structure Meth (K:PySem.W.Frag) (C:Addr) (m:Str) (f:Addr):Prop where
 at_:PySem.W.findIn K (.ref C) m = some (some (.ref f))
 fn:PySem.W.isFn K (.ref f) = true
 kp:PySem.W.keepIn K (.ref f) = true
def Jz (K:PySem.W.Frag) (ta:TE) (f:Str):TE:=fun σ H Q=>ta σ H fun x H1=>∃ a C dx fs v,x = .ref a∧H1 a = some (.ins C dx fs)∧BQ K C∧oG K C f∧fs.lookup f = some v∧Q v H1
def JB (K:PySem.W.Frag) (ta:TE) (f:Str):TE:=fun σ H Q=>ta σ H fun x H1=>∃ a C dx fs v u,x = .ref a∧H1 a = some (.ins C dx fs)∧BQ K C∧Ou K C f v u∧fs.lookup f = none∧Q v H1
def J1 (K:PySem.W.Frag) (ta tv:TE) (f:Str):TS:=fun D σ H=>tv σ H fun y H1=>ta σ H1 fun x H2=>∃ a C dx fs,x = .ref a∧H2 a = some (.ins C dx fs)∧BQ K C∧oG K C f∧fs.length < 1000∧
 D.nx σ (upd H2 a (.ins C dx (xH f y fs)))
def Oa (X:Cx) (op:Operator) (rd:V→V→Hp→VK→Prop):Prop:=
 ∀ (pins:List (Addr×Obj)) (s:Shared) (σ : St) (H:Hp) (x y:V) (u v:Value) (Q:VK),Inv X pins σ H s→RelV x u→RelV y v→rd x y H Q→wpAny (model X.prog X.w) X.A (inplaceOp op u v) (EP X pins σ Q) X.xe s
def BZ (K:PySem.W.Frag) (ta tv:TE) (rd:V→V→Hp→VK→Prop) (f:Str):TS:=fun D σ H=>ta σ H fun x H1=>∃ a C dx fs v,x = .ref a∧H1 a = some (.ins C dx fs)∧BQ K C∧oG K C f∧fs.lookup f = some v∧
 tv σ H1 fun y H2=>rd v y H2 fun z H3=>∃ IM Cy,H3 a = some (.ins C IM Cy)∧Cy.length < 1000∧D.nx σ (upd H3 a (.ins C IM (xH f z Cy)))
section
variable {X:Cx} {o e value:Expr} {f:Str} {pos pos' C5:Pos} {ta tv:TE}
def Kt:V→V→Hp→VK→Prop:=fun x y H Q=>∃ i j,x = .int i∧y = .int j∧Q (.int (i + j)) H
def Kf:V→V→Hp→VK→Prop:=fun x y H Q=>∃ i j,x = .int i∧y = .int j∧Q (.int (i - j)) H
end
section
variable {X:Cx} {pins:List (Addr×Obj)} {σ : St} {H:Hp} {s:Shared} {A:Around} {E:Value→Shared→Prop} {Q:Value→Shared→Prop} {c:Value} {b:Bool}
inductive ig (K:PySem.W.Frag) (H:Hp):V→Value→Prop where
 | bK:ig K H .bK (.type "NoneType")
 | bl (x:Bool):ig K H (.bl x) (.type "bool")
 | int (i:Int):ig K H (.int i) (.type "int")
 | str (x:Str):ig K H (.str x) (.type "str")
 | uk (x:UInt64):ig K H (.uk x) (.type "float")
 | lst {a:Addr} {xs:List V} (e:H a = some (.lst xs)):ig K H (.ref a) (.type "list")
 | eG {a:Addr} {o:Obj} {xs:List V} (e:H a = some (.eG o (.lst xs))):ig K H (.ref a) (.type "list")
 | tup {a:Addr} {xs:List V} (e:H a = some (.tup xs)):ig K H (.ref a) (.type "tuple")
 | dK {a:Addr} {aj:List (Key×V)} (e:H a = some (.dK aj)):ig K H (.ref a) (.type "dict")
 | dT {a:Addr} {aj:List (List Key×V)} (e:H a = some (.dT aj)):ig K H (.ref a) (.type "dict")
 | ins {a C dx:Addr} {fs:List (Str×V)} (e:H a = some (.ins C dx fs)) (cl:BQ K C) (ha:PySem.W.findIn K (.ref C) "__class__" = some (some (.builtin "object.__class__")))
   (hn:PySem.W.specialIn K (.builtin "object.__class__") "__get__" = some (some (.builtin "getset_descriptor.__get__"))) (L9:PySem.W.takesIn K (.builtin "object.__class__") = some true)
   (hm:PySem.W.mroIn K C (.type "object") = some true):ig K H (.ref a) (.ref C)
end
end L2
namespace L2
open PySem PySem.Spec PyProof.Rows
structure dA (k:Nat) (A:Around):Prop where
 hd:A.handled = none
 dp:A.depth + 3 * k + 5 < recursionLimit
 un:A.units + 16 * k + 200 < cLine
theorem dA.mono {j k:Nat} {A:Around} (r:dA k A) (h:j≤k):dA j A:=⟨r.hd,by have:=r.dp; omega,by have:=r.un; omega⟩
theorem dA.deeper {k:Nat} {A:Around} (r:dA (k + 1) A) (env:Env):dA k (A.deeper env):=
 ⟨r.hd,by have:=r.dp; show A.depth + 1 + 3 * k + 5 < _; omega,by have:=r.un; show A.units + 3 + 16 * k + 200 < _; omega⟩
theorem dA.depth {k:Nat} {A:Around} (r:dA k A):A.depth < recursionLimit:=by have:=r.dp; omega
theorem dA.units {k:Nat} {A:Around} (r:dA k A):A.units + 64 < cLine:=by have:=r.un; omega
theorem dA.xf {k:Nat} {A:Around} (r:dA k A):A.units < cLine:=by have:=r.un; omega
def xm:TA:=fun _ H Q=>Q [] H
def jY (ta:TE) (tr:TA):TA:=fun σ H Q=>ta σ H fun x H1=>tr σ H1 fun xs H2=>Q (x :: xs) H2
section
variable {X:Cx} {e:Expr} {es:List Expr} {te:TE} {t:TA} {pos:Pos}
theorem ag:PA X [] xm:=fun _ _ _ _ H Q I h=>Calls.spliced_nil ⟨[],H,I,.nil,h⟩
theorem aa (ha:PE X e te) (hr:PA X es t) (hs:starEach (e :: es) X.env = (false,eval e X.env) :: starEach es X.env:=by rfl):PA X (e :: es) (jY te t):=by
 intro pos pins s σ H Q I h
 rw [hs]
 show wpAny _ _ (spliced ((false,eval e X.env) :: backTo pos (starEach es X.env))) _ _ s
 refine Calls.spliced_cons (bR (ha pins s σ H _ I h) fun u s1 ⟨x,H1,I1,r1,q1⟩=>?_)
 exact bR (hr pos pins s1 σ H1 _ I1 q1) fun us s2 ⟨xs,H2,I2,r2,q2⟩=>⟨x :: xs,H2,I2,.cons r1 r2,q2⟩
def zB (t:TA):TE:=fun σ H Q=>t σ H fun xs H1=>xs.length≤sizeLine∧∀ p,H1 p = none→Q (.ref p) (upd H1 p (.tup xs))
def xo (t:TA):TE:=fun σ H Q=>t σ H fun xs H1=>xs.length≤sizeLine∧∀ p,H1 p = none→Q (.ref p) (upd H1 p (.lst xs))
theorem bG {x1} (h:PA X es t):PE X (.Tuple es x1 pos) (zB t):=by
 intro pins s σ H Q I hq
 refine wpAny_Tuple_spliced (bR (h pos pins s σ H _ I hq) fun us s1 ⟨xs,H1,I1,r,z,q⟩=>⟨by rw [← r.length]; exact z,?_⟩)
 have hf:H1 s1.heap.objs.size = none:=I1.bE.fresh (Nat.le_refl _)
 refine ⟨.ref s1.heap.objs.size,upd H1 s1.heap.objs.size (.tup xs),I1.laid (t':=s1.toks) (fun b u e=>Heap.get?_push_of_some _ e) (Nat.le_refl _) ?_,rfl,q _ hf⟩
 exact ⟨z,us,r,⟨_,Heap.get?_push_size _ rfl,rfl,_,rfl⟩⟩
theorem bN (h:PA X es t):PE X (.List es pos) (xo t):=by
 intro pins s σ H Q I hq
 refine wpAny_List_spliced (bR (h pos pins s σ H _ I hq) fun us s1 ⟨xs,H1,I1,r,z,q⟩=>⟨by rw [← r.length]; exact z,?_⟩)
 have hf:H1 s1.heap.objs.size = none:=I1.bE.fresh (Nat.le_refl _)
 refine ⟨.ref s1.heap.objs.size,upd H1 s1.heap.objs.size (.lst xs),I1.laid (t':=s1.toks) (fun b u e=>Heap.get?_push_of_some _ e) (Nat.le_refl _) ?_,rfl,q _ hf⟩
 exact ⟨z,us,0,r,Heap.get?_push_size _ rfl⟩
end
abbrev Sp:=List V→Hp→VK→XK→Prop
abbrev oI:=List Env→Hp→Shared→XK→Value→Shared→Prop
structure vQ (P:Program) (w:World) (K:PySem.W.Frag) (mg:Str→Option Value) (base:Heap) (A:Around) (outer:List Env) (s:Shared) (H:Hp):Prop where
 frames:A.frames = some outer
 mod:Mod K mg base
 bs:∀ b o,base.get? b = some o→s.heap.get? b = some o∧H b = none
 yP:base.objs.size≤s.heap.objs.size
 jr:s.heap.FunFrames base outer
 zk:∀ b∈nD outer,H b = none
 bE:fI P w H s.heap
 bare:AllBare s.gens
def CE (outer:List Env) (P:Program) (w:World) (H:Hp) (s:Shared) (Q:VK) (u:Value) (s':Shared):Prop:=
 ∃ v H',s'.os = s.os∧AllBare s'.gens∧Un (nD outer) [] H H' s.heap s'.heap∧fI P w H' s'.heap∧RelV v u∧Q v H'
def CR (CX:oI) (outer:List Env) (P:Program) (w:World) (H:Hp) (s:Shared) (Q:VK) (E:XK) (r:Result) (s':Shared):Prop:=
 match r with
 | .ok (.ret u)=>CE outer P w H s Q u s'
 | .ok _=>False
 | .error e=>CX outer H s E e s'
structure jT (P:Program) (w:World) (K:PySem.W.Frag) (mg:Str→Option Value) (base:Heap) (CX:oI) (k:Nat) (f:Addr) (fd:FuncData) (ps:List Str) (sp:Sp):Prop where
 len:∀ vs H Q E,sp vs H Q E→vs.length = ps.length
 run:∀ (A:Around) (outer:List Env) (s:Shared) (H:Hp) (args:Args) (us:List Value) (vs:List V) (Q:VK) (E:XK),dA k A→vQ P w K mg base A outer s H→BindsTo s fd args (ps.zip us)→Vals vs us→sp vs H Q E→
  codeAny (model P w) A (.call (.ref f) args) (CR CX outer P w H s Q E) s
section
variable {X:Cx} {pins:List (Addr×Obj)} {σ : St} {H:Hp} {s s':Shared}
theorem Inv.F1 (I:Inv X pins σ H s):vQ X.prog X.w X.K X.mg X.base X.A X.stack s H:=
 ⟨I.ok.frames,I.ok.mod,I.bs,Nat.le_trans I.ok.yP I.sz,I.stack,I.oM,I.bE,I.bare⟩
theorem Inv.after {Q:VK} {u:Value} (I:Inv X pins σ H s) (h:CE X.stack X.prog X.w H s Q u s'):EP X pins σ Q u s':=by
 obtain ⟨v,H',os,bare,un,bE,r,q⟩:=h
 obtain ⟨hh,g,d,t,KQ⟩:=s'
 obtain rfl:KQ = s.os:=os
 exact ⟨v,H',I.call (h':=hh) (g':=g) (d':=d) (t':=t) (ch:=[]) un bE bare (fun b z=>absurd z (by simp)),r,q⟩
end
def rO (sp:Sp) (rz:List V) (E:XK) (t:TA):TE:=fun σ H Q=>t σ H fun vs H1=>sp (vs ++ rz) H1 Q E
def Hn (C:Addr) (m:Str) (sp:Sp) (rz:List V) (E:XK) (ta:TE) (t:TA):TE:=fun σ H Q=>ta σ H fun x H1=>∃ a dx fs,x = .ref a∧H1 a = some (.ins C dx fs)∧fs.lookup m = none∧
 t σ H1 fun vs H2=>sp (x :: (vs ++ rz)) H2 Q E
def Ho (C:Addr) (sp:Sp) (rz:List V) (E:XK) (t:TA):TE:=fun σ H Q=>t σ H fun vs H1=>∀ x dx,H1 x = none→H1 dx = none→dx≠x→
 sp (.ref x :: (vs ++ rz)) (upd (upd H1 dx (.own x)) x (.ins C dx [])) (fun v H2=>v = .bK∧Q (.ref x) H2) E
def Binds (K:PySem.W.Frag) (fd:FuncData) (ps:List Str) (ds:List Value):Prop:=
 ∀ (s:Shared) (us:List Value),K.In s.heap→(us ++ ds).length = ps.length→BindsTo s fd ⟨us,[]⟩ (ps.zip (us ++ ds))
theorem Binds.all {K:PySem.W.Frag} {fd:FuncData} {ps:List Str} (h:∀ us:List Value,us.length = ps.length→bindArgs fd ⟨us,[]⟩ = pure (ps.zip us)):Binds K fd ps []:=fun s us _ hl=>by
 rw [List.append_nil] at hl ⊢
 exact .of_eq (h us hl)
def Passes (CX:oI) (X:Cx) (E:XK):Prop:=∀ (pins:List (Addr×Obj)) (σ : St) (H:Hp) (s:Shared) (e:Value) (s':Shared),Inv X pins σ H s→CX X.stack H s E e s'→X.xe e s'
section
variable {X:Cx} {CX:oI} {k:Nat} {f C:Addr} {fd:FuncData} {ps:List Str} {sp:Sp} {rz:List V} {ds:List Value} {E:XK} {x m:Str} {p pos apos:Pos} {e o:Expr} {es:List Expr} {ta:TE} {t:TA}
theorem xx {pins:List (Addr×Obj)} {σ : St} {H:Hp} {s:Shared} {Q:VK} {us:List Value} {vs:List V} (F:jT X.prog X.w X.K X.mg X.base CX k f fd ps sp) (hr:dA k X.A) (hb:Binds X.K fd ps ds) (hd:Vals rz ds) (hx:Passes CX X E)
  (I:Inv X pins σ H s) (r:Vals vs us) (h:sp (vs ++ rz) H Q E):wpAny (model X.prog X.w) X.A (call (.ref f) us) (EP X pins σ Q) X.xe s:=by
 have r2:Vals (vs ++ rz) (us ++ ds):=r.append hd
 have hl:(us ++ ds).length = ps.length:=by rw [← r2.length]; exact F.len _ _ _ _ h
 refine wpAny_call (codeAny_mono (F.run X.A X.stack s H ⟨us,[]⟩ (us ++ ds) (vs ++ rz) Q E hr I.F1 (hb s us I.zd hl) r2 h) fun r s' hq=>?_)
 cases r with
 | error e=>exact hx pins σ H s e s' I hq
 | ok fl=>
  cases fl with
  | ret u=>exact I.after hq
  | next=>exact False.elim hq
  | brk=>exact False.elim hq
  | cont=>exact False.elim hq
theorem uX (F:jT X.prog X.w X.K X.mg X.base CX k f fd ps sp) (hr:dA k X.A) (hg:Gl X x) (hm:X.mg x = some (.ref f)) (hk:PySem.W.keepIn X.K (.ref f) = true) (hb:Binds X.K fd ps ds) (hd:Vals rz ds) (hx:Passes CX X E)
  (ha:PA X (e :: es) t) (AY:(x == ("__debug__" : Str)) = false:=by decide) (he:starEach (e :: es) X.env = (false,eval e X.env) :: starEach es X.env:=by rfl) (wJ:(backTo pos (starEach es X.env)).any (·.1) = false:=by rfl) :
  PE X (.Call (.Name x p) (e :: es) [] pos) (rO sp rz E t):=by
 intro pins s σ H Q I h
 refine wpAny_Call_Name_kw (pP I hg hm ?_ AY)
 refine PySem.W.callWith_K (h₀:=X.base) I.ok.mod.EV hk (bR (ha pos pins s σ H _ I h) fun us s1 ⟨vs,H1,I1,r,q⟩=>⟨I1.zd,?_⟩) he wJ
 exact xx F hr hb hd hx I1 r q
structure Mk (K:PySem.W.Frag) (C f:Addr):Prop where
 makes:PySem.W.makesIn K C = true
 init:PySem.W.findIn K (.ref C) "__init__" = some (some (.ref f))
 fn:PySem.W.isFn K (.ref f) = true
 kp:PySem.W.keepIn K (.ref C) = true
end
def PK (X:Cx) (HS:List Keyword) (t:TA):Prop:=
 ∀ (pos:Pos) (pins:List (Addr×Obj)) (s:Shared) (σ : St) (H:Hp) (Q:List V→Hp→Prop),Inv X pins σ H s→t σ H Q→wpAny (model X.prog X.w) X.A (evalAll ((backToKw pos (keywordEach HS X.env)).map (·.2))) (AP X pins σ Q) X.xe s
section
variable {X:Cx} {CX:oI} {k:Nat} {f C:Addr} {fd:FuncData} {ps ks:List Str} {sp:Sp} {E:XK} {x m:Str} {p pos apos LB:Pos} {e o:Expr} {es:List Expr} {HS:List Keyword} {te ta:TE} {t tk:TA} {nm:Option Str}
structure G9 (K:PySem.W.Frag) (fd:FuncData) (ps ks:List Str) (g:List Value→List Value→List Value) (gV:List V→List V→List V):Prop where
 to:∀ (s:Shared) (us ws:List Value),K.In s.heap→(g us ws).length = ps.length→BindsTo s fd ⟨us,ks.zip ws⟩ (ps.zip (g us ws))
 rel:∀ {vs:List V} {us:List Value} {zs:List V} {ws:List Value},Vals vs us→Vals zs ws→Vals (gV vs zs) (g us ws)
def Dl (sp:Sp) (gV:List V→List V→List V) (E:XK) (t tk:TA):TE:=fun σ H Q=>t σ H fun vs H1=>tk σ H1 fun zs H2=>sp (gV vs zs) H2 Q E
variable {g:List Value→List Value→List Value} {gV:List V→List V→List V}
end
structure aR (N P:List Str) (sc:Scope):Prop where
 kind:sc.kind = .function
 co:sc.isCoroutine = false
 gen:sc.isGenerator = false
 nd:N.Nodup
 pre:N.take P.length = P
 par:∀ x∈P,sc.names.lookup x = some .local∨sc.names.lookup x = some .cell
 xY:∀ y∈sc.names,y.2≠.free
theorem kG {kindOf:Str→Option NameKind} {x:Str}:∀ {binds:List (Str×Value)} {m:Str→Option Value},(∀ v,(x,v)∉binds)→bindL kindOf binds m x = m x
 | [],_,_=>rfl
 | (n,v) :: r,m,h=>by
  unfold bindL
  rw [kG fun w hw=>h w (List.mem_cons_of_mem _ hw)]
  split
  ·have:x≠n:=by rintro rfl; exact h v List.mem_cons_self
   simp [this]
  ·rfl
theorem kJ {kindOf:Str→Option NameKind} {x:Str}:∀ {binds:List (Str×Value)} {m:Str→Option Value},(∀ v,(x,v)∉binds)→bindC kindOf binds m x = m x
 | [],_,_=>rfl
 | (n,v) :: r,m,h=>by
  unfold bindC
  rw [kJ fun w hw=>h w (List.mem_cons_of_mem _ hw)]
  split
  ·rfl
  ·have:x≠n:=by rintro rfl; exact h v List.mem_cons_self
   simp [this]
theorem kH {kindOf:Str→Option NameKind} {x:Str} {v:Value}:∀ {P:List Str} {vs:List Value} {i:Nat} {m:Str→Option Value},P.Nodup→P[i]? = some x→vs[i]? = some v→kindOf x = some .local→
  bindL kindOf (P.zip vs) m x = some v
 | [],_,_,_,_,h,_,_=>by simp at h
 | _ :: _,[],_,_,_,_,h,_=>by simp at h
 | p :: P,w :: vs,0,m,nd,h1,h2,hk=>by
  simp at h1 h2; subst h1; subst h2
  show bindL kindOf ((p,w) :: P.zip vs) m p = _
  unfold bindL
  rw [kG fun v hv=>(List.nodup_cons.mp nd).1 (List.of_mem_zip hv).1,if_pos hk]
  simp
 | p :: P,w :: vs,i + 1,m,nd,h1,h2,hk=>by
  show bindL kindOf ((p,w) :: P.zip vs) m x = _
  unfold bindL
  exact kH (i:=i) (List.nodup_cons.mp nd).2 (by simpa using h1) (by simpa using h2) hk
theorem kK {kindOf:Str→Option NameKind} {x:Str} {v:Value}:∀ {P:List Str} {vs:List Value} {i:Nat} {m:Str→Option Value},P.Nodup→P[i]? = some x→vs[i]? = some v→kindOf x≠some .local→
  bindC kindOf (P.zip vs) m x = some v
 | [],_,_,_,_,h,_,_=>by simp at h
 | _ :: _,[],_,_,_,_,h,_=>by simp at h
 | p :: P,w :: vs,0,m,nd,h1,h2,hk=>by
  simp at h1 h2; subst h1; subst h2
  show bindC kindOf ((p,w) :: P.zip vs) m p = _
  unfold bindC
  rw [kJ fun v hv=>(List.nodup_cons.mp nd).1 (List.of_mem_zip hv).1,if_neg hk]
  simp
 | p :: P,w :: vs,i + 1,m,nd,h1,h2,hk=>by
  show bindC kindOf ((p,w) :: P.zip vs) m x = _
  unfold bindC
  exact kK (i:=i) (List.nodup_cons.mp nd).2 (by simpa using h1) (by simpa using h2) hk
def start (N:List Str) (vs:List V):St:=vs.map some ++ List.replicate (N.length - vs.length) none
def nJ (CX:oI) (P:Program) (w:World) (K:PySem.W.Frag) (mg:Str→Option Value) (base:Heap) (N:List Str) (qual:Str) (scope:Scope) (f:Addr) (cd:Value) (A:Around) (outer:List Env) (s:Shared) (H:Hp) (E:XK):Cx where
 prog:=P
 w:=w
 K:=K
 mg:=mg
 base:=base
 A:=A.deeper (envOfC qual scope s.heap.objs.size f cd)
 N:=N
 s₀:=s
 H₀:=H
 env:=envOfC qual scope s.heap.objs.size f cd
 outer:=outer
 stack:=envOfC qual scope s.heap.objs.size f cd :: outer
 ex:=[]
 calm:=true
 fn:=fun _=>true
 pn:=[]
 xe:=fun e s'=>wpAny (model P w) (A.deeper (envOfC qual scope s.heap.objs.size f cd)) (leaving (envOfC qual scope s.heap.objs.size f cd) e) (fun _ DD=>CX outer H s E e DD) (fun e' DD=>CX outer H s E e' DD) s'
theorem nK {sc:Scope} {n:Nat} {x:Str} (h:sc.names.lookup x = some .cell):∃ c,(cellsFrom n sc.names []).lookup x = some c:=by
 have q:=PySem.W.cellsFrom_some sc.names n [] (.inl h)
 exact Option.isSome_iff_exists.mp q
theorem qI {CX:oI} {P:Program} {w:World} {K:PySem.W.Frag} {mg:Str→Option Value} {base:Heap} {N ps:List Str} {qual:Str} {scope:Scope} {f:Addr} {cd:Value} {A:Around} {outer:List Env} {s s1:Shared} {H:Hp} {E:XK} {us:List Value} {vs:List V}
  (S:aR N ps scope) (hd:A.handled = none) (e0:vQ P w K mg base A outer s H) (hl:vs.length = ps.length) (r:Vals vs us)
  (x:InCallC s s.heap.objs.size (bindL (envOfC qual scope s.heap.objs.size f cd).kindOf (ps.zip us) fun _=>none) (cellsFrom (s.heap.objs.size + 1) scope.names []) (bindC (envOfC qual scope s.heap.objs.size f cd).kindOf (ps.zip us) fun _=>none) s1) :
  Inv (nJ CX P w K mg base N qual scope f cd A outer s H E) [] (start N vs) H s1:=by
 have wJ:ps.length≤N.length:=by have:=congrArg List.length S.pre; rw [List.length_take] at this; omega
 obtain ⟨h1,tk,rfl,hk⟩:=x.done
 have Aj:∀ b:Addr,b∉(nJ CX P w K mg base N qual scope f cd A outer s H E).ex:=fun b z=>absurd (show b∈([]:List Addr) from z) (by simp)
 refine ⟨⟨e0.mod,S.kind,rfl,rfl,Nat.le_refl _,fun y z c h1 h2=>?_,fun y hy=>?_,fun y c _ h=>?_,fun _=>hd,Around.frames_deeper e0.frames,.inr ⟨rfl,rfl⟩,fun b z=>absurd z (Aj b),e0.bs,e0.yP,fun b _ _=>Aj b,fun b z=>absurd z (Aj b),e0.jr,e0.zk⟩,
  rfl,e0.bare,Un.kept hk,⟨_,x.toInCall.ns,fun i y v h1 h2 h3=>?_⟩,fun y c h=>⟨_,x.cell y c h⟩,e0.bE.fresh (Nat.le_refl _),fun y c h=>?_,fun p hp=>absurd (show p∈([]:List (Addr×Obj)) from hp) (by simp),e0.bE.kept hk,?_⟩
 ·exact name_of_addr x.apart (PySem.mem_of_lookup h1) (PySem.mem_of_lookup h2)
 ·have hy:scope.names.lookup y = some .cell∨scope.names.lookup y = some .free:=hy
  rcases hy with hy | hy
  ·exact nK hy
  ·exact absurd rfl (S.xY _ (PySem.mem_of_lookup hy))
 ·exact Nat.le_of_lt (x.above y c (PySem.mem_of_lookup h))
 ·have hi:i < vs.length:=by
   unfold start at h2
   by_cases hi:i < vs.length
   ·exact hi
   ·rw [List.getElem?_append_right (by simpa using hi)] at h2
    rw [List.getElem?_replicate] at h2
    split at h2 <;> cases h2
  have ha:vs[i]? = some v:=by
   unfold start at h2
   rw [List.getElem?_append_left (by simpa using hi),List.getElem?_map] at h2
   cases e:vs[i]? with
   | none=>rw [e] at h2; cases h2
   | some a=>rw [e] at h2; cases h2; rfl
  obtain ⟨u,hu,rv⟩:=r.get ha
  have hp:ps[i]? = some y:=by
   rw [← S.pre,List.getElem?_take_of_lt (by omega)]; exact h1
  have HM:ps.Nodup:=by rw [← S.pre]; exact S.nd.sublist (List.take_sublist _ _)
  refine ⟨u,rv,?_⟩
  rcases S.par y (List.mem_of_getElem? hp) with k | k
  ·exact .inl ⟨k,kH HM hp hu k⟩
  ·obtain ⟨c,e⟩:=nK (n:=s.heap.objs.size + 1) k
   refine .inr ⟨.inl k,c,e,?_⟩
   have q:=x.cell y c e
   rw [kK HM hp hu (by show scope.names.lookup y≠_; rw [k]; decide)] at q
   exact q
 ·exact e0.bE.fresh (Nat.le_of_lt (x.above y c (PySem.mem_of_lookup h)))
 ·unfold start
  show _ = N.length
  rw [List.length_append,List.length_map,List.length_replicate]
  omega
theorem wQ {CX:oI} {P:Program} {w:World} {K:PySem.W.Frag} {mg:Str→Option Value} {base:Heap} {k:Nat} {f:Addr} {name qual:Str} {params:Arguments} {body:List Stmt} {scope:Scope} {dV kV doc pm dq ct oc:Value} {an od:Option Addr}
  {u3:Array (Option Value)} {N ps:List Str} {sp:Sp} (lk:K.lookup f = some ⟨oc,od,.func (PySem.W.fnOf name qual params body scope dV kV doc pm an dq ct),u3⟩) (qL:PySem.W.codeIn K dq qual = true) (S:aR N ps scope)
  (len:∀ vs H Q E,sp vs H Q E→vs.length = ps.length)
  (nv:∀ (A:Around) (outer:List Env) (s:Shared) (H:Hp) (vs:List V) (Q:VK) (E:XK),dA k (A.deeper (envOfC qual scope s.heap.objs.size f dq))→sp vs H Q E→
   ∃ t,qj (nJ CX P w K mg base N qual scope f dq A outer s H E) body t∧t { nx:=fun _ H'=>Q .bK H',rt:=Q } (start N vs) H) :
  jT P w K mg base CX (k + 1) f (PySem.W.fnOf name qual params body scope dV kV doc pm an dq ct) ps sp:=by
 refine ⟨len,fun A outer s H args us vs Q E hr e0 hb r nR=>?_⟩
 have hl:=len _ _ _ _ nR
 have KX:K.In s.heap:=e0.mod.EV.keeps fun b o e=>(e0.bs b o e).1
 have lim:s.heap.NoLimit:=e0.mod.nolimit.keeps fun b o e=>(e0.bs b o e).1
 have AQ:∀ y∈ps.zip us,scope.names.lookup y.1 = some .local∨(scope.names.lookup y.1 = some .cell∧((cellsFrom (s.heap.objs.size + 1) scope.names []).lookup y.1).isSome = true):=fun ⟨n,v⟩ hy=>by
  rcases S.par n (List.of_mem_zip hy).1 with q | q
  ·exact .inl q
  ·exact .inr ⟨q,PySem.W.cellsFrom_some _ _ _ (.inl q)⟩
 refine codeAny_call_function hr.depth (KX _ _ lk) rfl S.co S.gen rfl (PySem.W.codeRec_of KX qL) (hb _ _ _ _ ?_)
 refine wpAny_newFunctionEnv_cells S.kind AQ fun env he s1 x=>?_
 subst he
 refine ⟨lim.keeps x.toInCall.keep,codeAny_func ?_⟩
 obtain ⟨t,ht,hq⟩:=nv A outer s H vs Q E (hr.deeper _) nR
 have I:Inv (nJ CX P w K mg base N qual scope f dq A outer s H E) [] (start N vs) H s1:=qI S hr.hd e0 hl r x
 refine wpAny_mono (ht [] s1 (start N vs) H _ I hq) (fun fl s' hs=>?_) fun e s' hs=>hs
 have fin:∀ {σ':St} {H':Hp} {v:V} {u:Value},Inv (nJ CX P w K mg base N qual scope f dq A outer s H E) [] σ' H' s'→RelV v u→Q v H'→CE outer P w H s Q u s':=
  fun {σ' H' v u} J rv q=>⟨v,H',J.os,J.bare,J.base,J.bE,rv,q⟩
 cases fl with
 | ret u=>
  obtain ⟨v,σ',H',J,rv,q⟩:=hs
  exact fin J rv q
 | next=>
  obtain ⟨σ',H',J,q⟩:=hs
  exact fin (v:=V.bK) (u:=Value.none) J rfl q
 | brk=>
  obtain ⟨_,_,_,q⟩:=hs
  exact False.elim q
 | cont=>
  obtain ⟨_,_,_,q⟩:=hs
  exact False.elim q
end L2
namespace L2
open PySem PySem.Spec PyProof.Rows
section
variable {X:Cx} {x:Str} {p pos:Pos} {e:Expr} {es:List Expr} {t:TA} {id T:String} {r:List V→Hp→VK→Prop}
def Hr (r:List V→Hp→VK→Prop) (t:TA):TE:=fun σ H Q=>t σ H fun vs H1=>r vs H1 Q
theorem aB (hc:kO X (.builtin id) r) (hg:Gl X x) (hm:X.mg x = none) (hv:bootBuiltins x = some (.builtin id)) (ha:PA X (e :: es) t) (hn:x≠ "__name__":=by decide) (AY:(x == ("__debug__" : Str)) = false:=by decide)
  (he:starEach (e :: es) X.env = (false,eval e X.env) :: starEach es X.env:=by rfl) (wJ:(backTo pos (starEach es X.env)).any (·.1) = false:=by rfl):PE X (.Call (.Name x p) (e :: es) [] pos) (Hr r t):=by
 intro pins s σ H Q I h
 refine wpAny_Call_Name_kw (gT I hg hm hv ?_ hn AY)
 exact PyProof.Rows.callWith_builtin1 (bR (ha pos pins s σ H _ I h) fun us s1 ⟨vs,H1,I1,r1,q1⟩=>hc pins s1 σ H1 vs us Q I1 r1 q1) he wJ
end
end L2
namespace HT
open PySem PyProof.Rows
def lexLt:List Int→List Int→Bool
 | [],[]=>false
 | [],_ :: _=>true
 | _ :: _,[]=>false
 | x :: xs,y :: ys=>if x = y then lexLt xs ys else decide (x < y)
section
variable {prog:Program} {w:World} {A:Around} {E:Value→Shared→Prop} {s:Shared}
def zU (n d:Nat):Option Int→Nat
 | none=>d
 | some v=>if v < 0 then (v + (n:Int)).toNat else min v.toNat n
end
end HT
namespace L2
open PySem PySem.Spec PyProof.Rows
abbrev TO:=St→Hp→(Option Int→Hp→Prop)→Prop
def PO (X:Cx) (e:Option Expr) (t:TO):Prop:=
 ∀ (pins:List (Addr×Obj)) (s:Shared) (σ : St) (H:Hp) (Q:Option Int→Hp→Prop),Inv X pins σ H s→t σ H Q→
  wpAny (model X.prog X.w) X.A (evalPart e X.env) (fun u s'=>∃ o H',Inv X pins σ H' s'∧IsPart u o∧Q o H') X.xe s
def BW:TO:=fun _ H Q=>Q none H
def Hl (t:TE):TO:=fun σ H Q=>t σ H fun x H1=>∃ i,x = .int i∧Q (some i) H1
theorem intsAre_of {ns:List Int}:∀ {us:List Value},Vals (ns.map V.int) us→IntsAre us ns:=by
 induction ns with
 | nil=>intro us r; rw [List.map_nil] at r; cases r; exact .nil
 | cons n ns ih=>
  intro us r
  rw [List.map_cons] at r
  cases r with
  | cons r1 r2=>
   obtain ⟨t,e⟩:=r1
   subst e
   exact .cons n t (ih r2)
section
variable {X:Cx} {e:Expr} {te:TE} {lo hi:Option Expr} {tl th:TO} {pos p2:Pos}
def Pk (X:Cx) (r:V→Option Int→Option Int→Hp→VK→Prop):Prop:=
 ∀ (pins:List (Addr×Obj)) (s:Shared) (σ : St) (H:Hp) (x:V) (v vl vu:Value) (lo hi:Option Int) (sl:Addr) (Q:VK),Inv X pins σ H s→RelV x v→s.heap.IsSliceOf sl vl vu .none→IsPart vl lo→IsPart vu hi→r x lo hi H Q→
  ∃ T id,typeLookup (.type T) "__getitem__" = pure (some (.builtin id))∧s.TypeIs v T∧wpAny (model X.prog X.w) X.A (getItem v (.ref sl)) (EP X pins σ Q) X.xe s
def Oz (r:V→Option Int→Option Int→Hp→VK→Prop) (te:TE) (tl th:TO):TE:=fun σ H Q=>te σ H fun x H1=>tl σ H1 fun l H2=>th σ H2 fun u H3=>r x l u H3 Q
def Bq (xs:List V) (lo hi:Option Int):List V:=(xs.drop (HT.zU xs.length 0 lo)).take (HT.zU xs.length xs.length hi - HT.zU xs.length 0 lo)
def Kg (K:PySem.W.Frag):V→Option Int→Option Int→Hp→VK→Prop:=fun x lo hi H Q=>∃ a xs,x = .ref a∧SqT K H a xs∧
 ¬ (HT.zU xs.length 0 lo = 0∧HT.zU xs.length xs.length hi = xs.length)∧∀ p,H p = none→Q (.ref p) (upd H p (.tup (Bq xs lo hi)))
def Kj (K:PySem.W.Frag):R2:=fun x y H Q=>∃ a b ns ms,x = .ref a∧y = .ref b∧SqT K H a (ns.map V.int)∧SqT K H b (ms.map V.int)∧Q (.bl (HT.lexLt ns ms)) H
def HG (K:PySem.W.Frag):R2:=fun x y H Q=>∃ a b xs ys,x = .ref a∧y = .ref b∧SqT K H a xs∧SqT K H b ys∧xs≠[]∧xs.length + ys.length≤sizeLine∧
 (ys = []→Q (.ref a) H)∧(ys≠[]→∀ p,H p = none→Q (.ref p) (upd H p (.tup (xs ++ ys))))
end
end L2
namespace L2
open PySem PySem.Spec PyProof.Rows
def ui (n:Nat) (i:Int):Option Nat:=if 0≤i then (if i < n then some i.toNat else none) else if -(n:Int)≤i then some (i + n).toNat else none
def jz {α : Type} (xs:List α) (i:Int):Option α:=(ui xs.length i).bind fun j=>xs[j]?
theorem vc {n:Nat} {i:Int} {j:Nat} (h:ui n i = some j):seqIndex? i n = some j∧j < n∧-(n:Int)≤i∧i < n:=by
 unfold ui at h
 by_cases h0:0≤i
 ·rw [if_pos h0] at h
  by_cases h1:i < n
  ·rw [if_pos h1] at h
   have e:i.toNat = j:=Option.some.inj h
   exact ⟨by rw [seqIndex_of h0 h1,e],by omega,by omega,h1⟩
  ·rw [if_neg h1] at h; cases h
 ·rw [if_neg h0] at h
  by_cases h1 : -(n:Int)≤i
  ·rw [if_pos h1] at h
   have e:(i + n).toNat = j:=Option.some.inj h
   exact ⟨by rw [seqIndex_neg (by omega) h1,e],by omega,h1,by omega⟩
  ·rw [if_neg h1] at h; cases h
theorem qg {α : Type} {xs:List α} {i:Int} {v : α} (h:jz xs i = some v):∃ j,seqIndex? i xs.length = some j∧xs[j]? = some v∧j < xs.length∧-(xs.length:Int)≤i∧i < xs.length:=by
 unfold jz at h
 cases e:ui xs.length i with
 | none=>rw [e] at h; cases h
 | some j=>
  rw [e] at h
  obtain ⟨h1,h2,h3,h4⟩:=vc e
  exact ⟨j,h1,h,h2,h3,h4⟩
theorem iJ {α : Type} {xs:List α} {j:Nat} {v : α} (h:xs[j]? = some v):jz xs (j:Int) = some v:=by
 have hj:j < xs.length:=(List.getElem?_eq_some_iff.mp h).1
 have e:ui xs.length (j:Int) = some j:=by
  unfold ui
  rw [if_pos (by omega),if_pos (by omega)]; simp
 unfold jz; rw [e]; exact h
theorem tZ {α : Type} (xs:List α) (v : α):jz (xs ++ [v]) (-1) = some v:=by
 have hl:(xs ++ [v]).length = xs.length + 1:=by simp
 have e:ui (xs ++ [v]).length (-1) = some xs.length:=by
  unfold ui
  rw [hl,if_neg (by decide),if_pos (by omega)]
  congr 1
  omega
 unfold jz
 rw [e]
 show (xs ++ [v])[xs.length]? = some v
 simp
def vI (b:Expr):Prop:=∀ o i,subscripted b false o i = operate [o,i] (getItem o i)
def CY (X:Cx) (r:R2):Prop:=
 ∀ (value slice:Expr) (pins:List (Addr×Obj)) (s:Shared) (σ : St) (H:Hp) (x y:V) (v u:Value) (Q:VK),Inv X pins σ H s→RelV x v→RelV y u→r x y H Q→
  subscripted slice false v u = operate [v,u] (getItem v u)→wpAny (model X.prog X.w) X.A (subscriptTail value slice v u) (EP X pins σ Q) X.xe s
def G7 (X:Cx) (id:String) (r:V→List V→Hp→VK→Prop):Prop:=
 ∀ (pins:List (Addr×Obj)) (s:Shared) (σ : St) (H:Hp) (x:V) (xs:List V) (v:Value) (us:List Value) (Q:VK),Inv X pins σ H s→RelV x v→Vals xs us→r x xs H Q→
  wpAny (model X.prog X.w) X.A (call (.builtin id) (v :: us)) (EP X pins σ Q) X.xe s
section
variable {X:Cx} {a b:Expr} {ta tb:TE} {pos:Pos}
theorem aX {r:R2} (hr:CY X r) (ha:PE X a ta) (hb:PE X b tb) (hs:vI b):PE X (.Subscript a b pos) (zE r ta tb):=by
 intro pins s σ H Q I h
 exact Subscript_ (yQ ha hb I h fun v u s2 x y H2 I2 rx ry q=>hr a b pins s2 σ H2 x y v u Q I2 rx ry q (hs _ _))
def uO (K:PySem.W.Frag):R2:=fun x y H Q=>∃ p xs i v,x = .ref p∧y = .int i∧aG K H p xs∧jz xs i = some v∧Q v H
def xF (K:PySem.W.Frag):R2:=fun x y H Q=>∃ p xs i v,x = .ref p∧y = .int i∧SqT K H p xs∧jz xs i = some v∧Q v H
def DK:R2:=fun x y H Q=>∃ z i c,x = .str z∧y = .int i∧z.length≤sizeLine∧jz z.cps.toList i = some c∧Q (.str ⟨#[c]⟩) H
theorem aH:CY X (uO X.K):=by
 intro value slice pins s σ H x y v u Q I rx ry h hs
 obtain ⟨p,xs,i,z,rfl,rfl,hq,he,q⟩:=h
 cases rx
 obtain ⟨t,rfl⟩:=ry
 obtain ⟨aL,r,pl,hz⟩:=I.list hq
 obtain ⟨j,h1,h2,h3,h4,h5⟩:=qg he
 obtain ⟨w,ew,mO⟩:=r.get h2
 have hl:=r.length
 have hn:=gS
 have fin:EP X pins σ Q w s:=⟨z,H,I,mO,q⟩
 by_cases h0:0≤i
 ·have hj:i.toNat = j:=by
   rw [seqIndex_of h0 h5] at h1
   exact Option.some.inj h1
  exact item_listR pl.isList h0 (by omega) (by rw [hj]; simpa using ew) fin hs
 ·have hj:(i + (aL.toArray.size:Int)).toNat = j:=by
   rw [seqIndex_neg (by omega) h4] at h1
   rw [List.size_toArray,← hl]
   exact Option.some.inj h1
  exact subscriptTail_builtinR (x:=w) pl.isList.typeIs slot_list_getitem.lookup
   (wpAny_getItem_list_neg (Q:=fun r s'=>r = w∧EP X pins σ Q r s') pl.isList (by omega) (by rw [List.size_toArray] <;> omega) (by omega) (by rw [hj]; simpa using ew) ⟨rfl,fin⟩) hs
theorem fV:CY X (xF X.K):=by
 intro value slice pins s σ H x y v u Q I rx ry h hs
 obtain ⟨p,xs,i,z,rfl,rfl,hq,he,q⟩:=h
 cases rx
 obtain ⟨t,rfl⟩:=ry
 obtain ⟨aL,r,pl,hz⟩:=I.tuple hq
 obtain ⟨j,h1,h2,h3,h4,h5⟩:=qg he
 obtain ⟨w,ew,mO⟩:=r.get h2
 have hl:=r.length
 have hn:=gS
 have fin:EP X pins σ Q w s:=⟨z,H,I,mO,q⟩
 exact subscriptTail_builtinR (x:=w) pl.typeIs slot_tuple_getitem.lookup
  (getItem_tuple (j:=j) (Q:=fun r s'=>r = w∧EP X pins σ Q r s') pl (by omega) (by omega) (by rw [List.size_toArray,← hl]; exact h1) (by simpa using ew) ⟨rfl,fin⟩) hs
def OK (K:PySem.W.Frag):R2:=fun x y H Q=>uO K x y H Q∨xF K x y H Q∨DK x y H Q
def Hz:V→V→V→Hp→(Hp→Prop)→Prop:=fun o i v H Q=>∃ p xs k j,o = .ref p∧i = .int k∧H p = some (.lst xs)∧ui xs.length k = some j∧Q (upd H p (.lst (xs.set j v)))
def Kh (K:PySem.W.Frag):V→Option Int→Option Int→Hp→VK→Prop:=fun x lo hi H Q=>∃ a xs,x = .ref a∧aG K H a xs∧∀ p,H p = none→Q (.ref p) (upd H p (.lst (Bq xs lo hi)))
def gG:V→Bool
 | .bK=>true
 | .bl _=>true
 | .int _=>true
 | .str _=>true
 | _=>false
def vy:V→V→Bool
 | .bK,.bK=>true
 | .bl a,.bl b=>a == b
 | .bl a,.int b=>(if a then 1 else 0) == b
 | .int a,.bl b=>a == (if b then 1 else 0)
 | .int a,.int b=>a == b
 | .str a,.str b=>a == b
 | _,_=>false
theorem yD {A:Around} {s:Shared} {y x:V} {u v:Value} (ry:RelV y u) (rx:RelV x v) (fy:gG y = true) (fx:gG x = true):SeqAt.EqAt A s u v (vy y x):=by
 cases y with
 | bK=>
  cases ry
  cases x with
  | bK=>cases rx; exact SeqAt.EqAt.same _
  | bl b=>cases rx; exact SeqAt.EqAt.none_bool b
  | int b=>obtain ⟨t,rfl⟩:=rx; exact SeqAt.EqAt.none_int b t
  | str b=>obtain ⟨t,rfl⟩:=rx; exact SeqAt.EqAt.none_str b t
  | _=>exact absurd (show false = true from fx) Bool.false_ne_true
 | bl a=>
  cases ry
  cases x with
  | bK=>cases rx; exact SeqAt.EqAt.bool_none a
  | bl b=>cases rx; exact SeqAt.EqAt.bool_bool a b
  | int b=>obtain ⟨t,rfl⟩:=rx; exact SeqAt.EqAt.bool_int a b t
  | str b=>obtain ⟨t,rfl⟩:=rx; exact SeqAt.EqAt.bool_str a b t
  | _=>exact absurd (show false = true from fx) Bool.false_ne_true
 | int a=>
  obtain ⟨t',rfl⟩:=ry
  cases x with
  | bK=>cases rx; exact SeqAt.EqAt.int_none a t'
  | bl b=>cases rx; exact SeqAt.EqAt.int_bool a t' b
  | int b=>obtain ⟨t,rfl⟩:=rx; exact SeqAt.EqAt.int_int a t' b t
  | str b=>obtain ⟨t,rfl⟩:=rx; exact SeqAt.EqAt.int_str a t' b t
  | _=>exact absurd (show false = true from fx) Bool.false_ne_true
 | str a=>
  obtain ⟨t',rfl⟩:=ry
  cases x with
  | bK=>cases rx; exact SeqAt.EqAt.str_none a t'
  | bl b=>cases rx; exact SeqAt.EqAt.str_bool a t' b
  | int b=>obtain ⟨t,rfl⟩:=rx; exact SeqAt.EqAt.str_int a t' b t
  | str b=>obtain ⟨t,rfl⟩:=rx; exact SeqAt.EqAt.str_str a t' b t
  | _=>exact absurd (show false = true from fx) Bool.false_ne_true
 | _=>exact absurd (show false = true from fy) Bool.false_ne_true
def oC (x:V) (u:Value):Bool:=match u with
 | .none=>vy .bK x
 | .bool b=>vy (.bl b) x
 | .int i _=>vy (.int i) x
 | .str z _=>vy (.str z) x
 | _=>false
theorem tM {x y:V} {u:Value} (r:RelV y u) (f:gG y = true):oC x u = vy y x:=by
 cases y with
 | bK=>cases r; rfl
 | bl b=>cases r; rfl
 | int i=>obtain ⟨t,rfl⟩:=r; rfl
 | str z=>obtain ⟨t,rfl⟩:=r; rfl
 | _=>exact absurd (show false = true from f) Bool.false_ne_true
theorem gJ {x:V}:∀ {xs:List V} {us:List Value},Vals xs us→xs.all gG = true→us.any (oC x) = xs.any fun y=>vy y x
 | _,_,.nil,_=>rfl
 | y :: xs,u :: us,.cons r t,f=>by
  rw [List.all_cons,Bool.and_eq_true] at f
  rw [List.any_cons,List.any_cons,tM r f.1,gJ t f.2]
theorem eU {A:Around} {s:Shared} {x:V} {v:Value} (rx:RelV x v) (fx:gG x = true):∀ {xs:List V} {us:List Value},Vals xs us→xs.all gG = true→∀ u∈us,SeqAt.EqAt A s u v (oC x u)
 | _,_,.nil,_=>fun u hu=>by cases hu
 | y :: xs,u :: us,.cons r t,f=>fun u' hu=>by
  rw [List.all_cons,Bool.and_eq_true] at f
  rcases List.mem_cons.mp hu with rfl | hu
  ·rw [tM r f.1]; exact yD r rx f.1 fx
  ·exact eU rx fx t f.2 u' hu
def Cn (x:V) (xs:List V):Bool:=xs.any fun y=>vy y x
def B7 (K:PySem.W.Frag) (neg:Bool):R2:=fun x y H Q=>∃ p xs,y = .ref p∧(aG K H p xs∨SqT K H p xs)∧gG x = true∧xs.all gG = true∧Q (.bl (if neg then !Cn x xs else Cn x xs)) H
theorem qC:jA X (compareOp .In) (B7 X.K false):=by
 intro pins s σ H x y v u Q I rx ry h
 obtain ⟨p,xs,rfl,hq,fx,fs,q⟩:=h
 cases ry
 rcases hq with hq | hq
 ·obtain ⟨aL,r,pl,hz⟩:=I.list hq
  refine SeqAt.in_listAt (oC x) pl.isList (fun w hw=>eU rx fx r fs w (by simpa using hw)) ⟨.bl _,H,I,rfl,?_⟩
  rw [show aL.toArray.any (oC x) = aL.any (oC x) by simp,gJ r fs]
  exact q
 ·obtain ⟨aL,r,pl,hz⟩:=I.tuple hq
  refine SeqAt.in_tupleAt (oC x) pl (fun w hw=>eU rx fx r fs w (by simpa using hw)) ⟨.bl _,H,I,rfl,?_⟩
  rw [show aL.toArray.any (oC x) = aL.any (oC x) by simp,gJ r fs]
  exact q
theorem df:jA X (compareOp .NotIn) (B7 X.K true):=by
 intro pins s σ H x y v u Q I rx ry h
 obtain ⟨p,xs,rfl,hq,fx,fs,q⟩:=h
 cases ry
 rcases hq with hq | hq
 ·obtain ⟨aL,r,pl,hz⟩:=I.list hq
  refine SeqAt.notIn_listAt (oC x) pl.isList (fun w hw=>eU rx fx r fs w (by simpa using hw)) ⟨.bl _,H,I,rfl,?_⟩
  rw [show aL.toArray.any (oC x) = aL.any (oC x) by simp,gJ r fs]
  exact q
 ·obtain ⟨aL,r,pl,hz⟩:=I.tuple hq
  refine SeqAt.notIn_tupleAt (oC x) pl (fun w hw=>eU rx fx r fs w (by simpa using hw)) ⟨.bl _,H,I,rfl,?_⟩
  rw [show aL.toArray.any (oC x) = aL.any (oC x) by simp,gJ r fs]
  exact q
def zx (K:PySem.W.Frag) (T:String) (x:V) (H:Hp):Prop:=match x with
 | .str _=>T = "str"
 | .int _=>T = "int"
 | .ref p=>(T = "list"∧∃ xs,aG K H p xs)∨(T = "tuple"∧∃ o,K.lookup p = some o∧o.cls = .type "tuple"∧o.dict = none)∨
   (T = "dict"∧((∃ aj,H p = some (.dK aj))∨∃ aj,H p = some (.dT aj)))∨(T = "set"∧∃ S n,H p = some (.set S n))
 | _=>False
theorem rG {pins:List (Addr×Obj)} {σ : St} {H:Hp} {s:Shared} {T:String} {x:V} {v:Value} (I:Inv X pins σ H s) (r:RelV x v) (ty:zx X.K T x H) :
  s.TypeIs v T∧∀ a,v = .ref a→∃ ob,s.heap.get? a = some ob∧ob.dict = none:=by
 cases x with
 | str z=>
  obtain ⟨t,rfl⟩:=r
  cases (show T = "str" from ty)
  exact ⟨typeIs_str s z t,fun _ e=>nomatch e⟩
 | int i=>
  obtain ⟨t,rfl⟩:=r
  cases (show T = "int" from ty)
  exact ⟨typeIs_int s i t,fun _ e=>nomatch e⟩
 | ref p=>
  cases r
  rcases ty with ⟨rfl,xs,hq⟩ | ⟨rfl,o,hk,hc,hd⟩ | ⟨rfl,hk⟩ | ⟨rfl,S,n,hk⟩
  ·obtain ⟨aL,_,pl,_⟩:=I.list hq
   refine ⟨pl.isList.typeIs,fun a e=>?_⟩
   cases e
   obtain ⟨o,n,e,c,hd,_⟩:=pl
   exact ⟨o,e,hd⟩
  ·refine ⟨⟨o,I.zd p o hk,hc⟩,fun a e=>?_⟩
   cases e
   exact ⟨o,I.zd _ o hk,hd⟩
  ·have z:∃ o,s.heap.get? p = some o∧o.ExactDict:=by
    rcases hk with ⟨aj,hk⟩ | ⟨aj,hk⟩
    ·obtain ⟨_,_,_,_,o,_,_,e,ex,_⟩:=I.bE p _ hk
     exact ⟨o,e,ex⟩
    ·obtain ⟨_,_,_,_,o,_,_,e,ex,_⟩:=I.bE p _ hk
     exact ⟨o,e,ex⟩
   obtain ⟨o,e,ex⟩:=z
   refine ⟨⟨o,e,ex.1⟩,fun a e2=>?_⟩
   cases e2
   exact ⟨o,e,ex.2.1⟩
  ·obtain ⟨o,_,_,_,e,ex,_⟩:=I.bE p _ hk
   refine ⟨⟨o,e,ex.1⟩,fun a e2=>?_⟩
   cases e2
   exact ⟨o,e,ex.2.1⟩
 | _=>exact False.elim ty
def zM (K:PySem.W.Frag) (T:String) (r:V→List V→Hp→VK→Prop) (to:TE):TE:=fun σ H Q=>to σ H fun x H1=>zx K T x H1∧r x [] H1 Q
def Hs (K:PySem.W.Frag) (T:String) (r:V→List V→Hp→VK→Prop) (to:TE) (t:TA):TE:=fun σ H Q=>to σ H fun x H1=>zx K T x H1∧t σ H1 fun xs H2=>r x xs H2 Q
variable {o e:Expr} {es:List Expr} {to:TE} {t:TA} {name:Str} {apos dF:Pos} {T id:String} {r:V→List V→Hp→VK→Prop}
theorem xR (pa:PlainAttrs T) (slot:Slot T name id) (Fe:typeOf (.builtin id) = pure (.type "method_descriptor")) (hm:G7 X id r) (ho:PE X o to)
  (tI:attributeBase o name X.env (eval o X.env) = eval o X.env:=by rfl) (tE:(apos.endLine == dF.line) = true:=by rfl):PE X (.Call (.Attribute o name apos) [] [] dF) (zM X.K T r to):=by
 intro pins s σ H Q I h
 refine wpAny_Call_method0_late tI tE (bR (ho pins s σ H _ I h) fun v s1 ⟨x,H1,I1,r1,ty,q1⟩=>?_)
 obtain ⟨h1,h2⟩:=rG I1 r1 ty
 exact ⟨T,id,pa,slot,Fe,h1,h2,Calls.callWith_builtin rfl (PySem.evalArgs_none (hm pins s1 σ H1 x [] v [] Q I1 r1 .nil q1))⟩
theorem cw (pa:PlainAttrs T) (slot:Slot T name id) (Fe:typeOf (.builtin id) = pure (.type "method_descriptor")) (hm:G7 X id r) (ho:PE X o to) (ha:PA X (e :: es) t)
  (tI:attributeBase o name X.env (eval o X.env) = eval o X.env:=by rfl)
  (FJ:((backTo dF (starEach (e :: es) X.env)).all (fun x=>!x.1) && (backToKw dF (keywordEach [] X.env)).all (fun x=>x.1.isSome)
   && decide ((e :: es).length + ([]:List Keyword).length + (if ([]:List Keyword).isEmpty then 0 else 1) < 30)) = true:=by rfl)
  (tE:(apos.endLine == dF.line) = true:=by rfl) (hs:starEach (e :: es) X.env = (false,eval e X.env) :: starEach es X.env:=by rfl) (yq:(backTo dF (starEach es X.env)).any (·.1) = false:=by rfl) :
  PE X (.Call (.Attribute o name apos) (e :: es) [] dF) (Hs X.K T r to t):=by
 intro pins s σ H Q I h
 refine wpAny_Call_method_late tI FJ tE rfl (bR (ho pins s σ H _ I h) fun v s1 ⟨x,H1,I1,r1,ty,q1⟩=>?_)
 obtain ⟨h1,h2⟩:=rG I1 r1 ty
 refine ⟨T,id,pa,slot,Fe,h1,h2,?_⟩
 have hA:=ha dF pins s1 σ H1 _ I1 q1
 rw [hs] at hA ⊢
 refine Calls.callWith_builtin (by show (false || (backTo dF (starEach es X.env)).any (·.1)) = false; rw [yq] <;> rfl) (Calls.evalArgs_plain ?_)
 exact bR hA fun us s2 ⟨vs,H2,I2,r2,q2⟩=>hm pins s2 σ H2 x vs v us Q I2 r1 r2 q2
/- xs.append(e),list.index on a module's tuple .. are G7 facts of 06m -/
end
end L2
namespace L2
open PySem PySem.Spec PyProof.Rows
def zq (X:Cx) (id:String) (r:V→List V→Hp→VK→Prop):Prop:=
 ∀ (pins:List (Addr×Obj)) (s:Shared) (σ : St) (H:Hp) (x:V) (xs:List V) (v:Value) (us:List Value) (Q:VK),Inv X pins σ H s→RelV x v→Vals xs us→r x xs H Q→
  wpAny (model X.prog X.w) X.A (call (.builtin id) (v :: us)) (EP X pins σ Q) X.xe s
theorem Vals.one:∀ {x:V} {us:List Value},Vals [x] us→∃ u,us = [u]∧RelV x u
 | _,_,.cons r .nil=>⟨_,rfl,r⟩
theorem Vals.zero:∀ {us:List Value},Vals [] us→us = []
 | _,.nil=>rfl
theorem Vals.dropLast {xs:List V} {us:List Value} (h:Vals xs us):Vals xs.dropLast us.dropLast:=by
 induction h with
 | nil=>exact .nil
 | cons r t ih=>
  cases t with
  | nil=>exact .nil
  | cons q t'=>exact .cons r ih
theorem Vals.eraseIdx:∀ {xs:List V} {us:List Value} (i:Nat),Vals xs us→Vals (xs.eraseIdx i) (us.eraseIdx i)
 | _,_,_,.nil=>.nil
 | _,_,0,.cons _ t=>t
 | _,_,i + 1,.cons r t=>.cons r (Vals.eraseIdx i t)
theorem oB {α : Type} (l:List α):l.eraseIdx (l.length - 1) = l.dropLast:=by
 induction l with
 | nil=>rfl
 | cons a r ih=>
  cases r with
  | nil=>rfl
  | cons b r=>
   have e:(a :: b :: r).length - 1 = ((b :: r).length - 1) + 1:=by
    have h1:(a :: b :: r).length = r.length + 2:=rfl
    have h2:(b :: r).length = r.length + 1:=rfl
    omega
   rw [e,List.eraseIdx_cons_succ,ih]
   all_goals rfl
theorem km {α : Type}:∀ (l:List α) (i:Nat),(l.eraseIdx i).length≤l.length
 | [],_=>Nat.le_refl _
 | _ :: _,0=>Nat.le_succ _
 | _ :: r,i + 1=>Nat.succ_le_succ (km r i)
section
variable {X:Cx} {pins:List (Addr×Obj)} {σ : St} {H:Hp} {s:Shared} {l b:Addr} {xs ys zs:List V}
theorem Inv.sS {aL its':List Value} {n:Nat} {f:Array Value→Array Value} {t':Nat} (I:Inv X pins σ H s) (hH:H l = some (.lst xs))
  (e:s.heap.get? l = some { cls:=.type "list",data:=.seq aL.toArray n }) (hf:f aL.toArray = its'.toArray) (hv:Vals ys its') (hz:ys.length≤sizeLine) :
  Inv X pins σ (upd H l (.lst ys)) { s with heap:=s.heap.update l (Obj.mapSeq f),toks:=t' }:=by
 have q:=PySem.IsL.update e f
 rw [hf] at q
 refine I.write (x:=l) (e:=l) (by rw [hH]; exact trivial) (.inl rfl) (fun b' u hb hu=>(Heap.get?_update_other s.heap (Obj.mapSeq f) (Ne.symm hb)).trans hu) ⟨_,q⟩ ?_
 exact ⟨hz,its',_,hv,q⟩
theorem Inv.ES {aL:List Value} {t':Nat} (I:Inv X pins σ H s) (hv:Vals ys aL) (hz:ys.length≤sizeLine) :
  Inv X pins σ (upd H s.heap.objs.size (.lst ys)) { s with heap:=s.heap.push { cls:=.type "list",data:=.seq aL.toArray },toks:=t' }:=
 I.laid (fun _ _ q=>Heap.get?_push_of_some _ q) (Nat.le_refl _) ⟨hz,aL,0,hv,Heap.get?_push_size _ rfl⟩
theorem Inv.fresh (I:Inv X pins σ H s):H s.heap.objs.size = none:=I.bE.fresh (Nat.le_refl _)
theorem Inv.lU (I:Inv X pins σ H s) (hH:H l = some (.lst xs)):xs.length≤sizeLine∧∃ (aL:List Value) (n:Nat),Vals xs aL∧xs.length = aL.length∧s.heap.get? l = some { cls:=.type "list",data:=.seq aL.toArray n }:=by
 obtain ⟨z,aL,n,r,e⟩:=I.bE l _ hH
 exact ⟨z,aL,n,r,r.length,e⟩
theorem sI {n:Nat} (h:n≤sizeLine):Builtin.List.listTooLong n = false:=by
 unfold Builtin.List.listTooLong
 exact decide_eq_false (by omega)
end
section
variable {X:Cx}
def pH:V→List V→Hp→VK→Prop:=fun x vs H Q=>∃ l xs y,x = .ref l∧vs = [y]∧H l = some (.lst xs)∧xs.length < sizeLine∧Q .bK (upd H l (.lst (xs ++ [y])))
theorem cG:zq X "list.append" pH:=by
 intro pins s σ H x vs v us Q I rx rv h
 obtain ⟨l,xs,y,rfl,rfl,hH,hz,q⟩:=h
 cases rx
 obtain ⟨u,rfl,ru⟩:=rv.one
 obtain ⟨z,aL,n,r,hl,e⟩:=I.lU hH
 refine call_meets F.slot_list_append ⟨_,e,rfl⟩ F.entry_list_append (F.args_list_append_2 _ _) (PySem.list_append l aL.toArray n u (by rw [List.size_toArray]; omega)) ⟨e,?_⟩
 refine ⟨.bK,_,I.sS (its':=aL ++ [u]) hH e (by simp) (r.append (.cons ru .nil)) ?_,rfl,q⟩
 rw [List.length_append,List.length_singleton]
 omega
def pG:V→List V→Hp→VK→Prop:=fun x vs H Q=>∃ l b xs zs,x = .ref l∧vs = [.ref b]∧H l = some (.lst xs)∧H b = some (.lst zs)∧xs.length + zs.length≤sizeLine∧Q .bK (upd H l (.lst (xs ++ zs)))
theorem fD:zq X "list.extend" pG:=by
 intro pins s σ H x vs v us Q I rx rv h
 obtain ⟨l,b,xs,zs,rfl,rfl,hH,hB,hz,q⟩:=h
 cases rx
 obtain ⟨u,rfl,ru⟩:=rv.one
 cases ru
 obtain ⟨z,aL,n,r,hl,e⟩:=I.lU hH
 obtain ⟨z2,nq,n2,r2,AN,e2⟩:=I.lU hB
 have hsz:aL.toArray.size + nq.toArray.size≤sizeLine:=by rw [List.size_toArray,List.size_toArray]; omega
 have AM:¬ (!aL.toArray.isEmpty && Builtin.List.listTooLong (aL.toArray.size + nq.toArray.size)) = true:=by
  rw [sI hsz,Bool.and_false]
  exact Bool.false_ne_true
 refine call_meets F.slot_list_extend ⟨_,e,rfl⟩ F.entry_list_extend (F.args_list_extend_2 _ _)
  (AutoSeq1.list_extend_list_list_0 l aL.toArray n b nq.toArray n2 AM (by rw [List.size_toArray]; omega) (by omega)) ⟨e,e2,?_⟩
 refine ⟨.bK,_,I.sS (its':=aL ++ nq) hH e (by simp) (r.append r2) ?_,rfl,q⟩
 rw [List.length_append]
 omega
def DI:V→List V→Hp→VK→Prop:=fun x vs H Q=>∃ l xs y,x = .ref l∧vs = []∧H l = some (.lst xs)∧xs[xs.length - 1]? = some y∧Q y (upd H l (.lst xs.dropLast))
theorem x9:zq X "list.pop" DI:=by
 intro pins s σ H x vs v us Q I rx rv h
 obtain ⟨l,xs,y,rfl,rfl,hH,hy,q⟩:=h
 cases rx
 have L6:=rv.zero
 subst L6
 obtain ⟨z,aL,n,r,hl,e⟩:=I.lU hH
 obtain ⟨u,hu,ru⟩:=r.get hy
 have LZ:aL.toArray[aL.toArray.size - 1]? = some u:=by
  show aL.toArray[aL.length - 1]? = some u
  rw [← Array.getElem?_toList,← hl]
  exact hu
 refine call_meets F.slot_list_pop ⟨_,e,rfl⟩ F.entry_list_pop (F.args_list_pop_1 _) (MeetsSeq.list_pop_last l aL.toArray n u LZ (by rw [List.size_toArray]; omega)) ⟨e,?_⟩
 refine ⟨y,_,I.sS (its':=aL.dropLast) hH e ?_ r.dropLast ?_,ru,q⟩
 ·show aL.toArray.eraseIdxIfInBounds (aL.toArray.size - 1) = aL.dropLast.toArray
  rw [List.size_toArray,List.eraseIdxIfInBounds_toArray,oB]
 ·rw [List.length_dropLast]
  omega
def xE:V→List V→Hp→VK→Prop:=fun x vs H Q=>∃ l xs i k y,x = .ref l∧vs = [.int i]∧H l = some (.lst xs)∧-(2 ^ 63)≤i∧i < 2 ^ 63∧seqIndex? i xs.length = some k∧xs[k]? = some y∧Q y (upd H l (.lst (xs.eraseIdx k)))
theorem sQ:zq X "list.pop" xE:=by
 intro pins s σ H x vs v us Q I rx rv h
 obtain ⟨l,xs,i,k,y,rfl,rfl,hH,h1,h2,hk,hy,q⟩:=h
 cases rx
 obtain ⟨u,rfl,ru⟩:=rv.one
 obtain ⟨t,rfl⟩:=ru
 obtain ⟨z,aL,n,r,hl,e⟩:=I.lU hH
 obtain ⟨w,hw,mO⟩:=r.get hy
 refine call_meets F.slot_list_pop ⟨_,e,rfl⟩ F.entry_list_pop (F.args_list_pop_2 _ _)
  (MeetsSeq.list_pop_at l aL.toArray n i t k w (fitsIndex_both h1 h2) (by rw [List.size_toArray,← hl]; exact hk) (by rw [← Array.getElem?_toList]; exact hw) (by rw [List.size_toArray]; omega)) ⟨e,?_⟩
 refine ⟨y,_,I.sS (its':=aL.eraseIdx k) hH e ?_ (r.eraseIdx k) ?_,mO,q⟩
 ·show aL.toArray.eraseIdxIfInBounds k = (aL.eraseIdx k).toArray
  rw [List.eraseIdxIfInBounds_toArray]
 ·have:=km xs k
  omega
def Ab:V→List V→Hp→VK→Prop:=fun x vs H Q=>∃ l xs,x = .ref l∧vs = []∧H l = some (.lst xs)∧Q .bK (upd H l (.lst xs.reverse))
def DP:V→List V→Hp→VK→Prop:=fun x vs H Q=>∃ l xs,x = .ref l∧vs = []∧H l = some (.lst xs)∧Q .bK (upd H l (.lst []))
def DQ:R2:=fun x y H Q=>∃ l b xs zs,x = .ref l∧y = .ref b∧H l = some (.lst xs)∧H b = some (.lst zs)∧xs.length + zs.length≤sizeLine∧∀ p,H p = none→Q (.ref p) (upd H p (.lst (xs ++ zs)))
theorem xU:jA X (binaryOp .Add) DQ:=by
 intro pins s σ H x y v u Q I rx ry h
 obtain ⟨l,b,xs,zs,rfl,rfl,hH,hB,hz,q⟩:=h
 cases rx
 cases ry
 obtain ⟨z,aL,n,r,hl,e⟩:=I.lU hH
 obtain ⟨z2,nq,n2,r2,AN,e2⟩:=I.lU hB
 refine PySem.P.add_list e e2 ?_ (by rw [List.size_toArray,List.size_toArray]; omega)
 have ea:aL.toArray ++ nq.toArray = (aL ++ nq).toArray:=by simp
 rw [ea]
 exact ⟨.ref _,_,I.ES (t':=s.toks) (r.append r2) (by rw [List.length_append]; omega),rfl,q _ I.fresh⟩
def Ki:R2:=fun x y H Q=>∃ l k xs,x = .ref l∧y = .int k∧H l = some (.lst xs)∧-(2 ^ 63)≤k∧k < 2 ^ 63∧xs.length * k.toNat≤sizeLine∧
 ∀ p,H p = none→Q (.ref p) (upd H p (.lst (List.replicate k.toNat xs).flatten))
end
end L2
namespace L2
open PySem PySem.Spec PyProof.Rows
section
variable {κ : Type} [DecidableEq κ]
def dC (aj:List (κ×V)) (k : κ):Option V:=(aj.find? fun kv=>decide (kv.1 = k)).map (·.2)
def putK (aj:List (κ×V)) (k : κ) (v:V):List (κ×V):=
 if (aj.any fun kv=>decide (kv.1 = k)) = true then aj.map (fun kv=>if kv.1 = k then (kv.1,v) else kv) else aj ++ [(k,v)]
def tP (aj:List (κ×V)) (k : κ):List (κ×V):=aj.filter fun kv=>decide (kv.1≠k)
theorem dS {p : κ×V} {r:List (κ×V)} {k : κ} (e:p.1 = k):dC (p :: r) k = some p.2:=by simp [dC,List.find?_cons,e]
theorem dU {p : κ×V} {r:List (κ×V)} {k : κ} (e:¬ p.1 = k):dC (p :: r) k = dC r k:=by simp [dC,List.find?_cons,e]
theorem gb (k : κ):∀ aj:List (κ×V),(aj.any fun kv=>decide (kv.1 = k)) = (dC aj k).isSome
 | []=>rfl
 | p :: r=>by
  rw [List.any_cons]
  by_cases e:p.1 = k
  ·simp only [dS e,decide_eq_true e,Bool.true_or,Option.isSome_some]
  ·rw [dU e,decide_eq_false e,Bool.false_or]; exact gb k r
theorem dN (aj:List (κ×V)) (k : κ) (v:V):(putK aj k v).length≤aj.length + 1:=by
 unfold putK
 split
 ·rw [List.length_map]; omega
 ·rw [List.length_append,List.length_cons,List.length_nil]; omega
theorem iY {aj:List (κ×V)} {k : κ} (v:V) (h:dC aj k = none):putK aj k v = aj ++ [(k,v)]:=by
 unfold putK
 rw [gb,h]
 exact if_neg (by decide)
theorem jQ.d7 {o:Option V} {u:Option Value} (r:jQ o u):o.isSome = u.isSome:=by
 cases o with
 | none=>cases u with
  | none=>rfl
  | some _=>exact (show False from r).elim
 | some _=>cases u with
  | none=>exact (show False from r).elim
  | some _=>rfl
theorem KV.val {aj:List (κ×V)} {vs:List (κ×Value)} (r:KV aj vs) (k : κ):jQ (dC aj k) (valueAt vs k):=by
 unfold KV at r
 induction r with
 | nil=>exact True.intro
 | @cons p q ps qs h t ih=>
  obtain ⟨h1,h2⟩:=h
  by_cases e:p.1 = k
  ·have e':q.1 = k:=h1.symm.trans e
   have b:valueAt (q :: qs) k = some q.2:=by simp [valueAt,List.find?_cons,e']
   rw [dS e,b]; exact h2
  ·have e':¬ q.1 = k:=fun z=>e (h1.trans z)
   have b:valueAt (q :: qs) k = valueAt qs k:=by simp [valueAt,List.find?_cons,e']
   rw [dU e,b]; exact ih
theorem KV.any {aj:List (κ×V)} {vs:List (κ×Value)} (r:KV aj vs) (k : κ):(aj.any fun kv=>decide (kv.1 = k)) = vs.any fun kv=>decide (kv.1 = k):=by
 unfold KV at r
 induction r with
 | nil=>rfl
 | cons h t ih=>rw [List.any_cons,List.any_cons,ih,h.1]
theorem KV.xC {aj:List (κ×V)} {vs:List (κ×Value)} (r:KV aj vs) (k : κ) {y:V} {u:Value} (ry:RelV y u) :
  KV (aj.map fun kv=>if kv.1 = k then (kv.1,y) else kv) (vs.map fun kv=>if kv.1 = k then (kv.1,u) else kv):=by
 unfold KV at r ⊢
 induction r with
 | nil=>exact .nil
 | @cons p q ps qs h t ih=>
  rw [List.map_cons,List.map_cons]
  refine .cons ?_ ih
  obtain ⟨h1,h2⟩:=h
  by_cases e:p.1 = k
  ·rw [if_pos e,if_pos (h1.symm.trans e)]; exact ⟨h1,ry⟩
  ·rw [if_neg e,if_neg (fun z=>e (h1.trans z))]; exact ⟨h1,h2⟩
theorem KV.put {aj:List (κ×V)} {vs:List (κ×Value)} (r:KV aj vs) (k : κ) {y:V} {u:Value} (ry:RelV y u):KV (putK aj k y) (stored vs k u):=by
 unfold putK stored
 rw [r.any k]
 by_cases e:(vs.any fun kv=>decide (kv.1 = k)) = true
 ·rw [if_pos e,if_pos e]; exact r.xC k ry
 ·rw [if_neg e,if_neg e]; exact Paired.snoc r ⟨rfl,ry⟩
theorem KV.length {aj:List (κ×V)} {vs:List (κ×Value)} (r:KV aj vs):aj.length = vs.length:=Paired.length r
end
theorem kr {P:Program} {w:World} {k:Key} {u:Value} (r:RelV (kV k) u):(bp P w).is k u = true:=by
 cases k with
 | inl i=>obtain ⟨t,e⟩:=(show ∃ t,u = Value.int i t from r); subst e; exact m8 P w i t
 | inr x=>obtain ⟨t,e⟩:=(show ∃ t,u = Value.str x t from r); subst e; exact m7 P w x t
theorem ku {P:Program} {w:World}:∀ {ks:List Key} {us:List Value},Vals (ks.map kV) us→ItemsAre (bp P w) ks us
 | [],_,r=>by rw [List.map_nil] at r; cases r; exact .nil
 | k :: ks,_,r=>by
  rw [List.map_cons] at r
  cases r with
  | cons h t=>exact .cons (kr h) (ku t)
abbrev KT (H:Hp):List (List Key×V)→List (List Key×Addr×Value)→Prop:=Paired fun p q=>p.1 = q.1∧H q.2.1 = some (.tup (p.1.map kV))∧RelV p.2 q.2.2
theorem KT.val {H:Hp} {aj:List (List Key×V)} {xs:List (List Key×Addr×Value)} (r:KT H aj xs) (k:List Key):jQ (dC aj k) ((atKey xs k).map (·.2)):=by
 induction r with
 | nil=>exact True.intro
 | @cons p q ps qs h t ih=>
  obtain ⟨h1,_,h2⟩:=h
  by_cases e:p.1 = k
  ·have e':q.1 = k:=h1.symm.trans e
   have b:atKey (q :: qs) k = some q.2:=by simp [atKey,List.find?_cons,e']
   rw [dS e,b]; exact h2
  ·have e':¬ q.1 = k:=fun z=>e (h1.trans z)
   have b:atKey (q :: qs) k = atKey qs k:=by simp [atKey,List.find?_cons,e']
   rw [dU e,b]; exact ih
theorem KT.xC {H:Hp} {aj:List (List Key×V)} {xs:List (List Key×Addr×Value)} (r:KT H aj xs) (k:List Key) {y:V} {u:Value} (ry:RelV y u) :
  KT H (aj.map fun kv=>if kv.1 = k then (kv.1,y) else kv) (xs.map (putAt k u)):=by
 induction r with
 | nil=>exact .nil
 | @cons p q ps qs h t ih=>
  rw [List.map_cons,List.map_cons]
  refine .cons ?_ ih
  obtain ⟨h1,h2,h3⟩:=h
  unfold putAt
  by_cases e:p.1 = k
  ·rw [if_pos e,if_pos (h1.symm.trans e)]; exact ⟨h1,h2,ry⟩
  ·rw [if_neg e,if_neg (fun z=>e (h1.trans z))]; exact ⟨h1,h2,h3⟩
theorem KT.put {H:Hp} {aj:List (List Key×V)} {xs:List (List Key×Addr×Value)} (r:KT H aj xs) (k:List Key) {b:Addr} {y:V} {u:Value} (hb:H b = some (.tup (k.map kV))) (ry:RelV y u) :
  KT H (putK aj k y) (storedH xs k b u):=by
 have e:(aj.any fun kv=>decide (kv.1 = k)) = (atKey xs k).isSome:=by
  rw [gb,(r.val k).d7,Option.isSome_map]
 unfold putK storedH
 rw [e]
 by_cases q:(atKey xs k).isSome = true
 ·rw [if_pos q,if_pos q]; exact r.xC k ry
 ·rw [if_neg q,if_neg q]; exact Paired.snoc r ⟨rfl,hb,ry⟩
theorem KT.keeps {H H':Hp} {aj:List (List Key×V)} {xs:List (List Key×Addr×Value)} (r:KT H aj xs) (ht:∀ b ys,H b = some (.tup ys)→H' b = some (.tup ys)):KT H' aj xs:=
 Paired.qF r fun _ _ z=>⟨z.1,ht _ _ z.2.1,z.2.2⟩
section
variable {P:Program} {w:World} {H:Hp} {h:Heap} {a:Addr}
theorem wj {u:HO} (ok:fI P w H h) (e:Rd H a u):bF P w H h a u:=e.ok ok
theorem jx {aj:List (Key×V)} (ok:fI P w H h) (e:Rd H a (.dK aj)):aj.length≤sizeLine∧(a == sysModules) = false∧∃ vs,KV aj vs∧h.DictOf (bp P w) a vs:=
 show bF P w H h a (.dK aj) from wj ok e
theorem wR {aj:List (Key×V)} (ok:fI P w H h) (e:H a = some (.dK aj)):aj.length≤sizeLine∧(a == sysModules) = false∧∃ vs,KV aj vs∧h.DictOf (bp P w) a vs:=jx ok (.inl e)
theorem fU {ks:List Key} (ok:fI P w H h) (e:H a = some (.tup (ks.map kV))):(tupleKind (bp P w)).is h ks a:=by
 obtain ⟨_,aL,r,o,h1,h2,n,h3⟩:=(show bF P w H h a (.tup (ks.map kV)) from ok a _ e)
 exact ⟨o,aL.toArray,n,h1,h2,h3,by simpa using ku r⟩
theorem kC {aj:List (List Key×V)} (ok:fI P w H h) (e:Rd H a (.dT aj)):aj.length≤sizeLine∧(a == sysModules) = false∧
  ∃ xs,KT H aj xs∧h.DictOfH (tupleKind (bp P w)) a xs:=by
 obtain ⟨z,y,xs,r,o,es,ep,h1,h2,h3,h4,h5⟩:=(show bF P w H h a (.dT aj) from wj ok e)
 refine ⟨z,y,xs,r,o,es,ep,h1,h2,h3,h4,fun x hx=>?_,h5⟩
 have all:∀ {l:List (List Key×V)} {m:List (List Key×Addr×Value)},KT H l m→∀ x∈m,(tupleKind (bp P w)).is h x.1 x.2.1:=by
  intro l m q
  induction q with
  | nil=>intro x hx; exact nomatch hx
  | @cons p q ps qs hq t ih=>
   intro x hx
   rcases List.mem_cons.mp hx with e | hx
   ·subst e
    exact fU ok (by rw [← hq.1]; exact hq.2.1)
   ·exact ih x hx
 exact all r x hx
theorem tO {aj:List (List Key×V)} (ok:fI P w H h) (e:H a = some (.dT aj)):aj.length≤sizeLine∧(a == sysModules) = false∧
  ∃ xs,KT H aj xs∧h.DictOfH (tupleKind (bp P w)) a xs:=kC ok (.inl e)
end
def cz (H:Hp) (a:Addr) (y:V) (r:Option V):Prop:=
 (∃ aj k,Rd H a (.dK aj)∧y = kV k∧r = dC aj k)∨∃ aj k b,Rd H a (.dT aj)∧y = .ref b∧H b = some (.tup (k.map kV))∧r = dC aj k
def fJ (H:Hp) (a:Addr) (y v:V) (H':Hp):Prop:=
 (∃ aj k,H a = some (.dK aj)∧y = kV k∧aj.length < sizeLine∧H' = upd H a (.dK (putK aj k v)))∨
 ∃ aj k b,H a = some (.dT aj)∧y = .ref b∧H b = some (.tup (k.map kV))∧aj.length < sizeLine∧H' = upd H a (.dT (putK aj k v))
theorem cz.k {H:Hp} {a:Addr} {aj:List (Key×V)} {k:Key} (e:H a = some (.dK aj)):cz H a (kV k) (dC aj k):=.inl ⟨aj,k,.inl e,rfl,rfl⟩
theorem cz.t {H:Hp} {a b:Addr} {aj:List (List Key×V)} {k:List Key} (e:H a = some (.dT aj)) (eb:H b = some (.tup (k.map kV))):cz H a (.ref b) (dC aj k):=.inr ⟨aj,k,b,.inl e,rfl,eb,rfl⟩
theorem fJ.k {H:Hp} {a:Addr} {aj:List (Key×V)} {k:Key} {v:V} (e:H a = some (.dK aj)) (hl:aj.length < sizeLine):fJ H a (kV k) v (upd H a (.dK (putK aj k v))):=.inl ⟨aj,k,e,rfl,hl,rfl⟩
theorem fJ.t {H:Hp} {a b:Addr} {aj:List (List Key×V)} {k:List Key} {v:V} (e:H a = some (.dT aj)) (eb:H b = some (.tup (k.map kV))) (hl:aj.length < sizeLine) :
  fJ H a (.ref b) v (upd H a (.dT (putK aj k v))):=.inr ⟨aj,k,b,e,rfl,eb,hl,rfl⟩
section
variable {X:Cx} {pins:List (Addr×Obj)} {σ : St} {H:Hp} {s:Shared} {a:Addr} {y v:V} {u r:Value} {o:Option V} {A:Around} {E:Value→Shared→Prop}
theorem Inv.big (I:Inv X pins σ H s):sysModules < s.heap.objs.size:=by
 have h:mainGlobals < s.heap.objs.size:=(I.mod.glob.keeps I.bk).lt
 exact Nat.lt_trans (by decide) h
theorem qT {Q:Value→Shared→Prop} (hu:A.units + 1 < cLine) (I:Inv X pins σ H s) (g:cz H a y (some v)) (ry:RelV y u) (h:∀ w' s',Inv X pins σ H s'→RelV v w'→Q w' s') :
  wpAny (model X.prog X.w) A (getItem (.ref a) u) Q E s:=by
 rcases g with ⟨aj,k,e,ey,l⟩ | ⟨aj,k,b,e,ey,eb,l⟩
 ·subst ey
  obtain ⟨z,hd,vs,rel,dd⟩:=jx I.bE e
  obtain ⟨w',hw,mO⟩:=jQ.some_of (v:=v) (o:=valueAt vs k) (by rw [l]; exact rel.val k)
  exact wpAny_getItem_of (kr ry) dd.mapOf hw (h w' _ (I.tok _) mO)
 ·subst ey
  cases (show u = Value.ref b from ry)
  obtain ⟨z,hd,xs,rel,dd⟩:=kC I.bE e
  obtain ⟨w',hw,mO⟩:=jQ.some_of (v:=v) (o:=(atKey xs k).map (·.2)) (by rw [l]; exact rel.val k)
  obtain ⟨p,hp,tD⟩:=Option.map_eq_some_iff.mp hw
  refine wpAny_getItem_heap (tupleKind_room_in1 hu) (fU I.bE eb) dd hp ?_
  rw [tD]
  exact h w' _ (I.tok _) mO
theorem Gk {Q:Value→Shared→Prop} (hu:A.units + 1 < cLine) (I:Inv X pins σ H s) (g:cz H a y o) (ry:RelV y u) (h:∀ s',Inv X pins σ H s'→Q (.bool o.isSome) s') :
  wpAny (model X.prog X.w) A (compareOp .In u (.ref a)) Q E s:=by
 rcases g with ⟨aj,k,e,ey,l⟩ | ⟨aj,k,b,e,ey,eb,l⟩
 ·subst ey
  obtain ⟨z,hd,vs,rel,dd⟩:=jx I.bE e
  refine wpAny_in_of (kr ry) hd dd.mapOf ?_
  rw [← (rel.val k).d7,← l]
  exact h _ (I.tok _)
 ·subst ey
  cases (show u = Value.ref b from ry)
  obtain ⟨z,hd,xs,rel,dd⟩:=kC I.bE e
  refine wpAny_in_heap (tupleKind_room_in1 hu) (fU I.bE eb) hd dd ?_
  have q:=(rel.val k).d7
  rw [Option.isSome_map] at q
  rw [← q,← l]
  exact h _ (I.tok _)
theorem vA {Q:Value→Shared→Prop} (hu:A.units + 1 < cLine) (I:Inv X pins σ H s) (g:cz H a y o) (ry:RelV y u) (h:∀ s',Inv X pins σ H s'→Q (.bool (!o.isSome)) s') :
  wpAny (model X.prog X.w) A (compareOp .NotIn u (.ref a)) Q E s:=by
 rcases g with ⟨aj,k,e,ey,l⟩ | ⟨aj,k,b,e,ey,eb,l⟩
 ·subst ey
  obtain ⟨z,hd,vs,rel,dd⟩:=jx I.bE e
  refine wpAny_notIn_of (kr ry) hd dd.mapOf ?_
  rw [← (rel.val k).d7,← l]
  exact h _ (I.tok _)
 ·subst ey
  cases (show u = Value.ref b from ry)
  obtain ⟨z,hd,xs,rel,dd⟩:=kC I.bE e
  refine wpAny_notIn_heap (tupleKind_room_in1 hu) (fU I.bE eb) hd dd ?_
  have q:=(rel.val k).d7
  rw [Option.isSome_map] at q
  rw [← q,← l]
  exact h _ (I.tok _)
theorem gI {h':Heap} {t':Nat} {ob:HO} (I:Inv X pins σ H s) (mu:BL (H a)) (hs:Heap.SameBut a s.heap h') (he:∃ q,h'.get? a = some q) (new:bF X.prog X.w (upd H a ob) h' a ob) :
  Inv X pins σ (upd H a ob) { s with heap:=h',toks:=t' }:=
 I.write (x:=a) (e:=a) mu (.inl rfl) (fun b q hb z=>(hs.2 b hb).trans z) he new
theorem tQ {P:Program} {w:World} {H':Hp} {h':Heap} {aj:List (Key×V)} {vs:List (Key×Value)} (z:aj.length≤sizeLine) (hd:(a == sysModules) = false) (rel:KV aj vs) (dd:h'.DictOf (bp P w) a vs) :
  bF P w H' h' a (.dK aj):=⟨z,hd,vs,rel,dd⟩
theorem qS {H':Hp} {Q:Unit→Shared→Prop} (hu:A.units + 1 < cLine) (I:Inv X pins σ H s) (g:fJ H a y v H') (ry:RelV y u) (rv:RelV v r) (h:∀ s',Inv X pins σ H' s'→Q () s') :
  wpAny (model X.prog X.w) A (setItem (.ref a) u r) Q E s:=by
 rcases g with ⟨aj,k,e,ey,l,eH⟩ | ⟨aj,k,b,e,ey,eb,l,eH⟩
 ·subst ey eH
  obtain ⟨z,hd,vs,rel,dd⟩:=wR I.bE e
  have hz:vs.length≤sizeLine:=by rw [← rel.length]; exact z
  have hl:(putK aj k v).length≤sizeLine:=by have:=dN aj k v; omega
  refine wpAny_setItem_pairs (hsz:=hz) (kr ry) dd fun h' tS hs=>h _ ?_
  have he:∃ q,h'.get? a = some q:=let ⟨q,_,_,hq,_⟩:=tS; ⟨q,hq⟩
  exact gI I (by rw [e]; exact True.intro) hs he (tQ hl hd (rel.put k rv) tS)
 ·subst ey eH
  cases (show u = Value.ref b from ry)
  obtain ⟨z,hd,xs,rel,dd⟩:=tO I.bE e
  have hz:xs.length≤sizeLine:=by rw [← Paired.length rel]; exact z
  have hl:(putK aj k v).length≤sizeLine:=by have:=dN aj k v; omega
  refine wpAny_setItem_heap (hsz:=hz) (tupleKind_room_in1 hu) (fU I.bE eb) dd fun h' tS hs=>h _ ?_
  obtain ⟨q,es,ep,hq,h2,h3,h4,_,h5⟩:=tS
  refine gI I (by rw [e]; exact True.intro) hs ⟨q,hq⟩ ⟨hl,hd,_,(rel.put k eb rv).keeps fun c ys ec=>?_,q,es,ep,hq,h2,h3,h4,h5⟩
  rw [ai (sO ec e (fun z=>nomatch z))]
  exact ec
end
section
variable {X:Cx} {pins:List (Addr×Obj)} {σ : St} {H:Hp} {s:Shared} {a:Addr} {aj:List (Key×V)} {k:Key} {u:Value} {A:Around} {E:Value→Shared→Prop}
theorem Bo {Q:Value→Shared→Prop} (I:Inv X pins σ H s) (e:Rd H a (.dK aj)) (h:∀ t s',Inv X pins σ H s'→Q (.int aj.length t) s'):wpAny (model X.prog X.w) A (call (.builtin "len") [.ref a]) Q E s:=by
 obtain ⟨z,hd,vs,rel,dd⟩:=jx I.bE e
 refine call_len_dict hd dd (by rw [← rel.length]; rw [sizeLine_eq] at z; omega) ?_
 rw [← rel.length]
 exact h _ _ (I.tok _)
end
def BK (i:Expr):Prop:=∀ ov iv,subscripted i false ov iv = operate [ov,iv] (getItem ov iv)
theorem uC {prog:Program} {w:World} {A:Around} {E:Value→Shared→Prop} {s:Shared} {env:Env} {value slice:Expr} {pos:Pos} {T id:String} {Q:Value→Shared→Prop}
  (hl:typeLookup (.type T) "__getitem__" = pure (some (.builtin id))) (hs:BK slice)
  (h:wpAny (model prog w) A (eval value env) (fun o s₁=>wpAny (model prog w) A (eval slice env) (fun i s₂=>s₂.TypeIs o T∧wpAny (model prog w) A (getItem o i) Q E s₂) E s₁) E s) :
  wpAny (model prog w) A (eval (.Subscript value slice pos) env) Q E s:=by
 refine Subscript_ (wpAny_mono h (fun o s₁ h₁=>wpAny_mono h₁ (fun i s₂ h₂=>?_) fun _ _ x=>x) fun _ _ x=>x)
 obtain ⟨hT,h₂⟩:=h₂
 unfold subscriptTail
 refine wpAny_bind ?_
 rw [getitemInPython_of_ne hT.not_modules]
 refine wpAny_bind (wpAny_specialOf hT hl ?_)
 have fin:wpAny (model prog w) A (subscripted slice false o i) (fun r s₃=>wpAny (model prog w) A (letTemporaryGo value o r >>= fun _=>pure r) Q E s₃) E s₂:=by
  rw [hs o i]
  exact wpAny_operating (wpAny_mono h₂ (fun r s₃ h₃=>wpAny_bind (wpAny_letTemporaryGo (wpAny_pure h₃))) fun _ _ x=>x)
 first
  | exact wpAny_pure (wpAny_bind fin)
  | exact wpAny_bind (wpAny_pure (wpAny_bind fin))
  | exact wpAny_bind fin
theorem nG {X:Cx} {pins:List (Addr×Obj)} {σ : St} {H:Hp} {s:Shared} {a:Addr} {y:V} {o:Option V} (I:Inv X pins σ H s) (g:cz H a y o):s.TypeIs (.ref a) "dict":=by
 rcases g with ⟨aj,k,e,_,_⟩ | ⟨aj,k,b,e,_,_,_⟩
 ·obtain ⟨_,_,vs,_,dd⟩:=jx I.bE e
  exact dd.typeIs
 ·obtain ⟨_,_,xs,_,dd⟩:=kC I.bE e
  exact dd.typeIs
def rN (td ty:TE):TE:=fun σ H Q=>td σ H fun x H1=>ty σ H1 fun y H2=>∃ a v,x = .ref a∧cz H2 a y (some v)∧Q v H2
def zL (ty td:TE):TE:=fun σ H Q=>ty σ H fun y H1=>td σ H1 fun x H2=>∃ a o,x = .ref a∧cz H2 a y o∧Q (.bl o.isSome) H2
def oJ (ty td:TE):TE:=fun σ H Q=>ty σ H fun y H1=>td σ H1 fun x H2=>∃ a o,x = .ref a∧cz H2 a y o∧Q (.bl (!o.isSome)) H2
def wg (td ty tv:TE):TS:=fun D σ H=>tv σ H fun v H1=>td σ H1 fun x H2=>ty σ H2 fun y H3=>∃ a H4,x = .ref a∧fJ H3 a y v H4∧D.nx σ H4
def Hw (td ty tv:TE) (rd:V→V→Hp→VK→Prop):TS:=fun D σ H=>td σ H fun x H1=>ty σ H1 fun y H2=>∃ a v,x = .ref a∧cz H2 a y (some v)∧
 tv σ H2 fun y2 H3=>rd v y2 H3 fun z H4=>∃ H5,fJ H4 a y z H5∧D.nx σ H5
def Hv (td ty:TE):TS:=fun D σ H=>td σ H fun x H1=>ty σ H1 fun y H2=>∃ a aj k,x = .ref a∧H2 a = some (.dK aj)∧y = kV k∧(dC aj k).isSome = true∧D.nx σ (upd H2 a (.dK (tP aj k)))
section
variable {X:Cx} {o i e value:Expr} {pos pos' C5:Pos} {td ty tv:TE}
theorem dM (hu:X.A.units + 1 < cLine) (ho:PE X o td) (hi:PE X i ty) (hs:BK i):PE X (.Subscript o i pos) (rN td ty):=by
 intro pins s σ H Q I h
 refine uC PySem.F.slot_dict_getitem.lookup hs (bR (ho pins s σ H _ I h) fun u s1 ⟨x,H1,I1,rx,q1⟩=>bR (hi pins s1 σ H1 _ I1 q1) fun iv s2 ⟨y,H2,I2,ry,a,v,ex,g,q2⟩=>?_)
 subst ex
 obtain rfl:u = Value.ref a:=rx
 exact ⟨nG I2 g,qT hu I2 g ry fun w' s3 I3 mO=>⟨v,H2,I3,mO,q2⟩⟩
theorem sE (hu:X.A.units + 1 < cLine) (hi:PE X i ty) (ho:PE X o td):PC X .In i o (zL ty td):=by
 intro pins s σ H Q I h
 refine bR (hi pins s σ H _ I h) fun iv s1 ⟨y,H1,I1,ry,q1⟩=>bR (ho pins s1 σ H1 _ I1 q1) fun u s2 ⟨x,H2,I2,rx,a,ov,ex,g,q2⟩=>?_
 subst ex
 obtain rfl:u = Value.ref a:=rx
 exact Gk hu I2 g ry fun s3 I3=>⟨.bl ov.isSome,H2,I3,rfl,q2⟩
theorem dr (hu:X.A.units + 1 < cLine) (hi:PE X i ty) (ho:PE X o td):PC X .NotIn i o (oJ ty td):=by
 intro pins s σ H Q I h
 refine bR (hi pins s σ H _ I h) fun iv s1 ⟨y,H1,I1,ry,q1⟩=>bR (ho pins s1 σ H1 _ I1 q1) fun u s2 ⟨x,H2,I2,rx,a,ov,ex,g,q2⟩=>?_
 subst ex
 obtain rfl:u = Value.ref a:=rx
 exact vA hu I2 g ry fun s3 I3=>⟨.bl (!ov.isSome),H2,I3,rfl,q2⟩
theorem dJ (hu:X.A.units + 1 < cLine) (ho:PE X o td) (hi:PE X i ty) (hv:PE X value tv) (hs:swapsWith value (some (.Subscript o i pos')) pos.line X.env = pure false) :
  PS X (.Assign [.Subscript o i pos'] value pos) (wg td ty tv):=by
 intro pins s σ H D I h
 refine wpAny_Assign_Subscript (bR (hv pins s σ H _ I h) fun r s1 ⟨v,H1,I1,rv,q1⟩=>bR (ho pins s1 σ H1 _ I1 q1) fun u s2 ⟨x,H2,I2,rx,q2⟩=>bR (hi pins s2 σ H2 _ I2 q2) fun iv s3 ⟨y,H3,I3,ry,a,H4,ex,g,q3⟩=>?_) hs
 subst ex
 obtain rfl:u = Value.ref a:=rx
 exact qS hu I3 g ry rv fun s4 I4=>⟨σ,H4,I4,q3⟩
end
theorem tR {P:Program} {w:World} {H:Hp} (h:Heap) (hb:sysModules < h.objs.size):bF P w H (h.push { cls:=.type "dict",data:=.dict #[] }) h.objs.size (.dK []):=
 ⟨Nat.zero_le _,beq_eq_false_iff_ne.mpr (Ne.symm (Nat.ne_of_lt hb)),[],.nil,Heap.DictOf.new h⟩
theorem nF {P:Program} {w:World} {H:Hp} (h:Heap) (hb:sysModules < h.objs.size):bF P w H (h.push { cls:=.type "dict",data:=.dict #[] }) h.objs.size (.dT []):=
 ⟨Nat.zero_le _,beq_eq_false_iff_ne.mpr (Ne.symm (Nat.ne_of_lt hb)),[],.nil,_,#[],0,Heap.get?_push_size _ rfl,⟨rfl,rfl,rfl⟩,rfl,rfl,List.nodup_nil⟩
def Dh:TE:=fun _ H Q=>∀ p,H p = none→Q (.ref p) (upd H p (.dK []))
def xr:TE:=fun _ H Q=>∀ p,H p = none→Q (.ref p) (upd H p (.dT []))
section
variable {X:Cx} {pos:Pos}
theorem i8:PE X (.Dict [] [] pos) xr:=fun pins s σ H Q I h=>
 wpAny_Dict_empty ⟨.ref s.heap.objs.size,_,I.laid (a:=s.heap.objs.size) (o:=.dT []) (t':=s.toks) (fun _ _ q=>Heap.get?_push_of_some _ q) (Nat.le_refl _) (nF s.heap I.big),rfl,h _ (I.bE.fresh (Nat.le_refl _))⟩
end
def kS:List (TE×TE)→St→Hp→(List (V×V)→Hp→Prop)→Prop
 | [],_,H,Q=>Q [] H
 | (tk,tv) :: r,σ,H,Q=>tk σ H fun x H1=>tv σ H1 fun y H2=>kS r σ H2 fun ps H3=>Q ((x,y) :: ps) H3
abbrev VV:List (V×V)→List (Value×Value)→Prop:=Paired fun p q=>RelV p.1 q.1∧RelV p.2 q.2
def CV (X:Cx) (pos:Pos) (keys:List (Option Expr)) (values:List Expr) (ux:List (TE×TE)):Prop:=
 ∀ (pins:List (Addr×Obj)) (s:Shared) (σ : St) (H:Hp) (Q:List (V×V)→Hp→Prop),Inv X pins σ H s→kS ux σ H Q→
  wpAny (model X.prog X.w) X.A (evalPairs (pairTrees keys values X.env pos)) (fun vs s'=>∃ ps H',Inv X pins σ H' s'∧VV ps vs∧Q ps H') X.xe s
theorem pJ {X:Cx} {pos:Pos}:CV X pos [] [] []:=fun pins s σ H Q I h=>pairTrees_nil_walk ⟨[],H,I,.nil,h⟩
theorem mU {X:Cx} {pos:Pos} {k v:Expr} {ks:List (Option Expr)} {vs:List Expr} {tk tv:TE} {ux:List (TE×TE)} (hk:PE X k tk) (hv:PE X v tv) (hr:CV X pos ks vs ux) :
  CV X pos (some k :: ks) (v :: vs) ((tk,tv) :: ux):=fun pins s σ H Q I h=>
 pairTrees_cons_walk (bR (hk pins s σ H _ I h) fun u s1 ⟨x,H1,I1,rx,q1⟩=>bR (hv pins s1 σ H1 _ I1 q1) fun w2 s2 ⟨y,H2,I2,ry,q2⟩=>
  bR (hr pins s2 σ H2 _ I2 q2) fun ws s3 ⟨ps,H3,I3,rel,q3⟩=>⟨(x,y) :: ps,H3,I3,.cons ⟨rx,ry⟩ rel,q3⟩)
def eS (aj more:List (Key×V)):List (Key×V):=more.foldl (fun acc kv=>putK acc kv.1 kv.2) aj
theorem KV.merge:∀ {more:List (Key×V)} {rs:List (Key×Value)} {aj:List (Key×V)} {vs:List (Key×Value)},KV more rs→KV aj vs→KV (eS aj more) (merged vs rs):=by
 intro more rs aj vs r
 unfold KV at r
 induction r generalizing aj vs with
 | nil=>intro q; exact q
 | @cons p q ps qs h t ih=>
  intro r0
  have e:KV (putK aj p.1 p.2) (stored vs q.1 q.2):=by
   have:=r0.put p.1 h.2
   rw [← h.1]; exact this
  exact ih e
theorem fK:∀ (more aj:List (Key×V)),(eS aj more).length≤aj.length + more.length
 | [],aj=>by show aj.length≤aj.length + 0; omega
 | p :: r,aj=>by
  have h1:=fK r (putK aj p.1 p.2)
  have h2:=dN aj p.1 p.2
  show (eS (putK aj p.1 p.2) r).length≤_
  rw [List.length_cons]; omega
theorem jy {P:Program} {w:World}:∀ {aj:List (Key×V)} {ws:List (Value×Value)},VV (aj.map fun kv=>(kV kv.1,kv.2)) ws→∃ rs,Carries (bp P w) ws rs∧KV aj rs
 | [],_,r=>by rw [List.map_nil] at r; cases r; exact ⟨[],True.intro,.nil⟩
 | p :: aj,_,r=>by
  rw [List.map_cons] at r
  cases r with
  | @cons a b as bs h t=>
   obtain ⟨rs,c,q⟩:=jy (P:=P) (w:=w) t
   obtain ⟨b1,b2⟩:=b
   exact ⟨(p.1,b2) :: rs,⟨kr h.1,rfl,c⟩,.cons ⟨rfl,h.2⟩ q⟩
def zK (ux:List (TE×TE)):TE:=fun σ H Q=>∀ p,H p = none→kS ux σ (upd H p (.dK [])) fun ps H2=>H2 p = some (.dK [])∧∃ aj:List (Key×V),ps = aj.map (fun kv=>(kV kv.1,kv.2))∧aj.length≤15∧Q (.ref p) (upd H2 p (.dK (eS [] aj)))
theorem uW {X:Cx} {pos:Pos} {keys:List (Option Expr)} {values:List Expr} {ux:List (TE×TE)} (h:CV X pos keys values ux) (yA:keys.all (·.isSome) = true) (hl:keys.length = values.length) (h0:keys≠[])
  (MR:keys.length≤15):PE X (.Dict keys values pos) (zK ux):=by
 intro pins s σ H Q I q
 have hn:=I.bE.fresh (Nat.le_refl s.heap.objs.size)
 have I1:=I.laid (a:=s.heap.objs.size) (o:=.dK []) (h':=s.heap.push { cls:=.type "dict",data:=.dict #[] }) (t':=s.toks) (fun _ _ q=>Heap.get?_push_of_some _ q) (Nat.le_refl _) (tR s.heap I.big)
 refine wpAny_Dict_walk (knd:=bp X.prog X.w) yA hl h0 MR (bR (h pins _ σ _ _ I1 (q _ hn)) fun ws s2 ⟨ps,H2,I2,rel,e,aj,ep,lk,q2⟩=>?_)
 subst ep
 obtain ⟨rs,c,rk⟩:=jy (P:=X.prog) (w:=X.w) rel
 obtain ⟨z,hd,Oy,r0,dd⟩:=wR I2.bE e
 cases r0
 refine ⟨rs,c,dd,fun h' tS hs=>⟨.ref s.heap.objs.size,_,?_,rfl,q2⟩⟩
 have hz:(eS [] aj).length≤sizeLine:=by
  have h1:=fK aj []
  rw [List.length_nil] at h1
  rw [sizeLine_eq]; omega
 have he:∃ q,h'.get? s.heap.objs.size = some q:=let ⟨q,_,_,hq,_⟩:=tS; ⟨q,hq⟩
 exact gI I2 (by rw [e]; exact True.intro) hs he (tQ hz hd (rk.merge .nil) tS)
structure M1 (X:Cx) (o:Expr) (m:Str) (apos:Pos) (e:Expr) (dF:Pos):Prop where
 base:attributeBase o m X.env (eval o X.env) = eval o X.env
 oA:((backTo dF (starEach [e] X.env)).all (fun x=>!x.1) && (backToKw dF (keywordEach [] X.env)).all (fun x=>x.1.isSome)
  && decide (([e]:List Expr).length + ([]:List Keyword).length + (if ([]:List Keyword).isEmpty then 0 else 1) < 30)) = true
 line:(apos.endLine == dF.line) = true
 trees:backTo dF (starEach [e] X.env) = [(false,eval e X.env)]
structure M2 (X:Cx) (o:Expr) (m:Str) (apos:Pos) (e f:Expr) (dF:Pos):Prop where
 base:attributeBase o m X.env (eval o X.env) = eval o X.env
 oA:((backTo dF (starEach [e,f] X.env)).all (fun x=>!x.1) && (backToKw dF (keywordEach [] X.env)).all (fun x=>x.1.isSome)
  && decide (([e,f]:List Expr).length + ([]:List Keyword).length + (if ([]:List Keyword).isEmpty then 0 else 1) < 30)) = true
 line:(apos.endLine == dF.line) = true
 trees:backTo dF (starEach [e,f] X.env) = [(false,eval e X.env),(false,eval f X.env)]
def zu (H:Hp) (a:Addr):Prop:=(∃ aj,Rd H a (.dK aj))∨∃ aj,Rd H a (.dT aj)
theorem yk {X:Cx} {pins:List (Addr×Obj)} {σ : St} {H:Hp} {s:Shared} {a:Addr} (I:Inv X pins σ H s) (d:zu H a) :
  s.TypeIs (.ref a) "dict"∧(∀ b,Value.ref a = .ref b→∃ ob,s.heap.get? b = some ob∧ob.dict = none)∧(a == sysModules) = false:=by
 rcases d with ⟨aj,e⟩ | ⟨aj,e⟩
 ·obtain ⟨_,hd,vs,_,dd⟩:=jx I.bE e
  refine ⟨dd.typeIs,fun b q=>?_,hd⟩
  cases q
  obtain ⟨ob,_,_,h1,h2,_⟩:=dd
  exact ⟨ob,h1,h2.2.1⟩
 ·obtain ⟨_,hd,xs,_,dd⟩:=kC I.bE e
  refine ⟨dd.typeIs,fun b q=>?_,hd⟩
  cases q
  obtain ⟨ob,_,_,h1,h2,_⟩:=dd
  exact ⟨ob,h1,h2.2.1⟩
def Dj (td ty:TE):TE:=fun σ H Q=>td σ H fun x H1=>∃ a,x = .ref a∧zu H1 a∧ty σ H1 fun y H2=>∃ o,cz H2 a y o∧Q (o.getD .bK) H2
def Di (td ty tx:TE):TE:=fun σ H Q=>td σ H fun x H1=>∃ a,x = .ref a∧zu H1 a∧ty σ H1 fun y H2=>tx σ H2 fun z H3=>∃ o,cz H3 a y o∧Q (o.getD z) H3
def Dg (td ty:TE):TE:=fun σ H Q=>td σ H fun x H1=>∃ a,x = .ref a∧zu H1 a∧ty σ H1 fun y H2=>∃ aj k v,H2 a = some (.dK aj)∧y = kV k∧dC aj k = some v∧Q v (upd H2 a (.dK (tP aj k)))
def Df (td ty tx:TE):TE:=fun σ H Q=>td σ H fun x H1=>∃ a,x = .ref a∧zu H1 a∧ty σ H1 fun y H2=>tx σ H2 fun z H3=>∃ aj k,H3 a = some (.dK aj)∧y = kV k∧
 (∀ v,dC aj k = some v→Q v (upd H3 a (.dK (tP aj k))))∧(dC aj k = none→Q z H3)
end L2
namespace Jk
open PySem PySem.W PySem.Calls PyProof.Rows
theorem ic {P:Params} {h:Heap}:∀ (ns:List Int) (vs:List Value),WellAll P h vs (ns.map WData.int)→IntsAre vs ns:=by
 intro ns
 induction ns with
 | nil=>
  intro vs w
  rw [List.map_nil] at w
  cases w
  exact .nil
 | cons n ns ih=>
  intro vs w
  rw [List.map_cons] at w
  cases w with
  | cons a b=>
   cases a
   exact .cons _ _ (ih _ b)
theorem qx {l:OpenLaw} {n:Nat} (hn:l.most = some n) {P:Params} {h:Heap} {args:List WData} {vals:List Value}
  (vj:l.row.toRowW.claim.pre args = true) (Fc:WellAll P h vals args) :
  ∃ a vs ns,vals = [Value.ref a]∧args = [WData.list (ns.map WData.int)]∧h.get? a = some { cls:=.type "list",data:=.seq vs.toArray }∧IntsAre vs ns∧ns.length≤n:=by
 have Fh:WShape.hasAll [] args [.list .int] = true:=(pre_splitW vj).1
 have hc:l.pre.holds [] { args:=args } = true:=(pre_splitW vj).2
 obtain ⟨d,r,rfl,h1,h2⟩:=hasAllW_cons Fh
 obtain rfl:=hasAllW_nil h2
 obtain ⟨xs,rfl,h3⟩:=hasW_list h1
 obtain ⟨ns,rfl⟩:=items_int h3
 have hlen:ns.length≤n:=by
  unfold OpenLaw.pre at hc
  have h4:(WTm.not (.lt (.lit (.int (n:Int))) (.len (.arg 0)))).holds [] { args:=[.list (ns.map .int)] } = true:=by
   have h4:=(holds_andW hc).1
   rw [hn] at h4
   exact h4
  have h5:=condW_of h4 (w_not (w_lt w_lit (w_len_list (w_arg rfl))))
  rw [List.length_map] at h5
  refine Nat.le_of_not_lt fun q=>?_
  have q':(n:Int) < ((ns.length:Nat):Int):=by omega
  first
   | (rw [decide_eq_true q'] at h5; exact absurd h5 (by decide))
   | (simp at h5; omega)
 cases Fc with
 | cons w1 w2=>
  cases w2
  cases w1 with
  | list ho yA=>exact ⟨_,_,ns,rfl,rfl,ho,ic ns _ yA,hlen⟩
theorem qB (l:OpenLaw) (args:List WData):l.row.toRowW.claim.post args (.bool true) args = true:=
 postW_of (r:=l.row.toRowW) (X:=(true == true))
  (show WShape.has [] (.bool true) .bool = true by first | rfl | decide | simp [WShape.has,WShape.arms,WShape.armsAll])
  (show (WTm.eq .res (.lit (.bool true))).value [] { args:=args,res:=some (.bool true),after:=args } = some (.bool (true == true)) from w_eq_bool (w_res rfl) w_lit) rfl
theorem nP {l:OpenLaw} {n:Nat} {q:Program} {loose:List Str} {XP:(Str→Option Value)→Heap→Prop} {YP:World→Heap→Prop} {d:DefRec}
  (hn:l.most = some n) (AX:d.params.defaults = [])
  (call:∀ (w:World) (s₀ s₁ : Shared) (mg mb:Str→Option Value) (fa:Addr) (o:Obj) (pm cd doc:Value) (a:Addr) (vs:List Value) (ns:List Int),
   Ground q loose [] XP w s₀ mg mb s₁.heap→YP w s₁.heap→
   s₁.heap.get? fa = some o→o.data = .func (docDef d.name d.params d.body d.scope pm cd doc)→s₁.heap.CodeRec cd d.name→mg d.name = some (.ref fa)→
   s₁.heap.get? a = some { cls:=.type "list",data:=.seq vs.toArray }→IntsAre vs ns→ns.length≤n→s₁.gens = #[]→
   codeAny (model l.prog w) callerA (.call (.ref fa) ⟨[.ref a],[]⟩) (fun r s'=>r = .ok (.ret (.bool true))∧OldK s₁.heap s'.heap∧s'.os = s₁.os∧AllBare s'.gens) s₁) :
  WalkO q loose XP YP l.row.toRowW d [] (fun f vs=>PySem.call f vs):=by
 intro w s₀ s₁ mg mb G Y fa o pm cd doc dV kV ho hd qL hD AK hg args vals as vj Mr OZ Fc O1
 obtain rfl:dV = .none:=Dflts.none hD AX
 obtain rfl:kV = .none:=Dflts.noKw hD
 obtain ⟨a,vs,ns,rfl,rfl,yt,hints,hlen⟩:=qx hn vj Fc
 refine enter_call (codeAny_mono (call w s₀ s₁ mg mb fa o pm cd doc a vs ns G Y ho (fd_plain hd) qL AK yt hints hlen hg) fun r s' hq=>?_)
 obtain ⟨rfl,h2,h3,h4⟩:=hq
 exact ⟨.inl ⟨.bool true,.bool true,[],rfl,fun _=>rfl,.bool true,qB l _,fun _=>⟨List.Pairwise.nil,fun _ hm=>(nomatch hm)⟩⟩,h2,h3,h4⟩
section
variable {prog:Program} {w:World} {A:Around} {E:Value→Shared→Prop} {s:Shared} {K:Frag}
def EJ (h:Heap):Heap:={ h with objs:=#[] }
def ledger (h:Heap) (L d:Addr):List (Addr×Obj):=(List.range h.objs.size).filterMap fun a=>if a = L∨a = d then none else (h.get? a).map fun o=>(a,o)
end
end Jk
namespace L2
open PySem PySem.Spec PyProof.Rows
theorem gL:∀ {vs:List Value} {ns:List Int},IntsAre vs ns→Vals (ns.map V.int) vs
 | _,_,.nil=>.nil
 | _,_,.cons n t h=>.cons ⟨t,rfl⟩ (gL h)
def yW (H:Hp):Prop:=∀ b,H b = none∨∃ o xs,H b = some (.eG o (.lst xs))
theorem sZ {P:Program} {w:World} {K:PySem.W.Frag} {mg mb:Str→Option Value} {CX:oI} {k:Nat} {fa a:Addr} {fd:FuncData} {x:Str} {sp:Sp} {s₁ : Shared} {vs:List Value} {ns:List Int}
  (KX:K.In s₁.heap) (zg:s₁.heap.Ns mainGlobals mg) (hb:s₁.heap.Ns builtinsNs mb) (MJ:∀ x:Str,x≠ "__name__"→mb x = bootBuiltins x) (Fy:s₁.heap.NoLimit) (hg:s₁.gens = #[])
  (ha:s₁.heap.get? a = some { cls:=.type "list",data:=.seq vs.toArray }) (hi:IntsAre vs ns) (hl:ns.length≤sizeLine) (hr:dA k callerA)
  (F:∀ base:Heap,K.In base→base.Ns mainGlobals mg→jT P w K mg base CX k fa fd [x] sp) (A4:∀ (s:Shared) (u:Value),BindsTo s fd ⟨[u],[]⟩ [(x,u)])
  (nR:∀ H:Hp,yW H→aG K H a (ns.map V.int)→sp [.ref a] H (fun v _=>v = .bl true) fun _ _ _=>False)
  (FU:∀ H e s',CX [] H s₁ (fun _ _ _=>False) e s'→False) :
  codeAny (model P w) callerA (.call (.ref fa) ⟨[.ref a],[]⟩) (fun r s'=>r = .ok (.ret (.bool true))∧OldK s₁.heap s'.heap∧s'.os = s₁.os∧AllBare s'.gens) s₁:=by
 have rv:=gL hi
 have ET:=hi.length
 -- from an abstract heap in He nothing but rJ rV may be tracked
 have core:∀ H:Hp,yW H→aG K H a (ns.map V.int)→fI P w H s₁.heap→(∀ b,H b≠none→b = a)→(H a≠none→K.lookup a = none)→
   codeAny (model P w) callerA (.call (.ref fa) ⟨[.ref a],[]⟩) (fun r s'=>r = .ok (.ret (.bool true))∧OldK s₁.heap s'.heap∧s'.os = s₁.os∧AllBare s'.gens) s₁:=by
  intro H hO hS bE hA hK
  have qf:∀ {b:Addr} {o:Obj},s₁.heap.get? b = some o→H b = none→(lY s₁.heap H).get? b = some o:=fun e n=>tF e n
  have Aj:∀ {b:Addr} {o:Obj} {es:Array DictEntry} {ep:Nat},s₁.heap.get? b = some o→o.data = .dict es ep→H b = none:=fun {b o es ep} e d=>by
   cases q:H b with
   | none=>rfl
   | some u=>
    have e':b = a:=hA b (by rw [q]; simp)
    subst e'
    rw [ha] at e; cases e
    have d':Data.seq vs.toArray _ = Data.dict es ep:=d
    cases d'
  have Ce:∀ {b:Addr} {m:Str→Option Value},s₁.heap.Ns b m→(lY s₁.heap H).Ns b m:=fun {b m} ⟨o,es,ep,e,d,r⟩=>⟨o,es,ep,qf e (Aj e d),d,r⟩
  have IA:K.In (lY s₁.heap H):=fun b o e=>qf (KX b o e) (by
   cases q:H b with
   | none=>rfl
   | some u=>
    have e':b = a:=hA b (by rw [q]; simp)
    subst e'
    rw [hK (by rw [q]; simp)] at e; cases e)
  have hM:Mod K mg (lY s₁.heap H):=⟨IA,Ce zg,⟨mb,Ce hb,MJ⟩,let ⟨mc,h1,h2⟩:=Fy; ⟨mc,Ce h1,h2⟩⟩
  have e0:vQ P w K mg (lY s₁.heap H) callerA [] s₁ H:=⟨rfl,hM,fun b o e=>u6 e,Nat.le_of_eq (qK _ _),trivial,fun b hb=>absurd (show b∈([]:List Addr) from hb) (by simp),bE,.of_eq hg⟩
  refine codeAny_mono ((F _ IA (Ce zg)).run callerA [] s₁ H ⟨[.ref a],[]⟩ [.ref a] [.ref a] _ _ hr e0 (A4 s₁ (.ref a)) (.cons rfl .nil) (nR H hO hS)) fun r s' h=>?_
  cases r with
  | error e=>exact (FU H e s' h).elim
  | ok fl=>
   cases fl with
   | next=>exact False.elim h
   | brk=>exact False.elim h
   | cont=>exact False.elim h
   | ret u=>
    obtain ⟨v,H',os,bare,un,Fs,r',q⟩:=h
    have q':v = .bl true:=q
    subst q'
    obtain rfl:u = Value.bool true:=r'
    refine ⟨rfl,OldK.of_keep fun b o e=>?_,os,bare⟩
    cases q:H b with
    | none=>exact un.keep b o e q (by intro z; exact absurd (show b∈([]:List Addr) from z) (by simp)) (by simp)
    | some u=>
     rcases hO b with z | ⟨ob,xs,z⟩
     ·rw [q] at z; cases z
     ·have z2:=un.jO b ob _ z
      obtain ⟨e1,_⟩:=bE b _ z
      obtain ⟨e2,_⟩:=Fs b _ z2
      rw [e] at e1; cases e1
      exact e2
 cases hk:K.lookup a with
 | some o=>
  -- rJ rV is one of rJ module's own objects
  have e:=KX a o hk
  rw [ha] at e
  cases e
  refine core (fun _=>none) (fun _=>.inl rfl) (.inr ⟨_,vs.toArray,_,hk,rfl,rfl,rfl,by rw [List.size_toArray,ET]; exact hl,by simpa using rv⟩) (fun b u z=>by have z':(none:Option HO) = some u:=z; cases z') (fun b z=>absurd rfl z) fun z=>absurd rfl z
 | none=>
  refine core (fun b=>if b = a then some (.eG { cls:=.type "list",data:=.seq vs.toArray } (.lst (ns.map V.int))) else none) (fun b=>?_) (.inl (.inr ⟨{ cls:=.type "list",data:=.seq vs.toArray },if_pos rfl⟩)) (fun b u z=>?_) (fun b z=>?_) fun _=>hk
  ·by_cases hb:b = a
   ·exact .inr ⟨_,_,if_pos hb⟩
   ·exact .inl (if_neg hb)
  ·by_cases hb:b = a
   ·have z':=(if_pos hb).symm.trans z
    cases z'
    subst hb
    exact ⟨ha,by rw [List.length_map]; exact hl,vs,_,rv,ha⟩
   ·have z':=(if_neg hb).symm.trans z
    cases z'
  ·by_cases hb:b = a
   ·exact hb
   ·exact absurd (if_neg hb) z
end L2
namespace L2
open PySem PySem.Spec PyProof.Rows
abbrev Pu {K:PySem.W.Frag} {h:Heap} (_:K.In h):PySem.W.Frag:=K
theorem ur {l:PySem.W.OpenLaw} {n k:Nat} {q:Program} {loose:List Str} {XP:(Str→Option Value)→Heap→Prop} {YP:World→Heap→Prop} {d:DefRec} {K:Params→PySem.W.Frag} {CX:World→oI} {sp:World→Sp} {x:Str}
  (hn:l.most = some n) (Mo:n≤sizeLine) (AX:d.params.defaults = []) (hr:dA k callerA)
  (hY:∀ (w:World) (h:Heap),YP w h→(K w.params).In h)
  (F:∀ (w:World) (mg:Str→Option Value) (fa:Addr) (h:Heap),(K w.params).In h→h.Ns mainGlobals mg→mg d.name = some (.ref fa)→
   ∃ fd:FuncData,(∀ (s:Shared) (u:Value),BindsTo s fd ⟨[u],[]⟩ [(x,u)])∧
    ∀ base:Heap,(K w.params).In base→base.Ns mainGlobals mg→jT l.prog w (K w.params) mg base (CX w) k fa fd [x] (sp w))
  (nR:∀ (w:World) (H:Hp) (a:Addr) (ns:List Int),ns.length≤n→yW H→aG (K w.params) H a (ns.map V.int)→sp w [.ref a] H (fun v _=>v = .bl true) fun _ _ _=>False)
  (FU:∀ (w:World) (H:Hp) (s:Shared) (e:Value) (s':Shared),CX w [] H s (fun _ _ _=>False) e s'→False) :
  PySem.W.WalkO q loose XP YP l.row.toRowW d [] (fun f vs=>PySem.call f vs):=by
 refine Jk.nP hn AX fun w s₀ s₁ mg mb fa o pm cd doc a vs ns G Y ho hd qL AK yt hints hlen hg=>?_
 have KX:=hY w _ Y
 obtain ⟨fd,hb,hF⟩:=F w mg fa _ KX G.T.g AK
 exact sZ KX G.T.g G.T.b G.T.builtins G.T.nolimit hg yt hints (Nat.le_trans hlen Mo) hr hF hb (fun H hO hS=>nR w H a ns hlen hO hS) fun H e s'=>FU w H s₁ e s'
end L2
namespace L2
open PySem PySem.Spec PyProof.Rows
def inClass (s:Stmt) (j:Nat):Stmt:=match s with
 | .ClassDef _ _ _ body _ _ _ _ _ _ _=>body.getD j (.Pass ⟨0,0,0,0⟩)
 | _=>.Pass ⟨0,0,0,0⟩
def aO (s:Stmt):Arguments:=match s with
 | .FunctionDef _ a _ _ _ _ _ _ _ _=>a
 | _=>{ posonlyargs:=[],args:=[],vararg:=none,kwonlyargs:=[],kw_defaults:=[],kwarg:=none,defaults:=[] }
def aM (s:Stmt):List Stmt:=match s with
 | .FunctionDef _ _ b _ _ _ _ _ _ _=>b
 | _=>[]
def aw (s:Stmt):Scope:=match s with
 | .FunctionDef _ _ _ _ _ _ sc _ _ _=>sc
 | _=>{ kind:=.function,names:=[],isGenerator:=false,isCoroutine:=false }
abbrev Py:oI:=fun _ _ _ _ _ _=>False
abbrev E0:XK:=fun _ _ _=>False
structure y3 (K:PySem.W.Frag) (x qual:Str) (st:Stmt) (f:Addr) (fd:FuncData):Prop where
 ex:∃ (oc:Value) (od:Option Addr) (kV doc pm:Value) (an:Option Addr) (dq ct:Value) (u3:Array (Option Value)),
  fd = PySem.W.fnOf x qual (aO st) (aM st) (aw st) .none kV doc pm an dq ct∧K.lookup f = some ⟨oc,od,.func fd,u3⟩∧PySem.W.codeIn K dq qual = true
 kp:PySem.W.keepIn K (.ref f) = true
section
variable {P:Program} {w:World} {K:PySem.W.Frag} {mg:Str→Option Value} {base:Heap}
theorem y3.binds {x qual:Str} {st:Stmt} {f:Addr} {fd:FuncData} {ps:List Str} (F:y3 K x qual st f fd)
  (h:∀ (kV doc pm:Value) (an:Option Addr) (dq ct:Value) (us:List Value),us.length = ps.length→bindArgs (PySem.W.fnOf x qual (aO st) (aM st) (aw st) .none kV doc pm an dq ct) ⟨us,[]⟩ = pure (ps.zip us)):Binds K fd ps []:=by
 obtain ⟨oc,od,kV,doc,pm,an,dq,ct,u3,rfl,lk,qL⟩:=F.ex
 exact .all (h kV doc pm an dq ct)
theorem aI {x qual:Str} {st:Stmt} {f:Addr} {oc:Value} {od an:Option Addr} {u3:Array (Option Value)} {kV doc pm dq ct:Value} (l:K.lookup f = some ⟨oc,od,.func (PySem.W.fnOf x qual (aO st) (aM st) (aw st) .none kV doc pm an dq ct),u3⟩)
  (c:PySem.W.codeIn K dq qual = true) (k:PySem.W.keepIn K (.ref f) = true):y3 K x qual st f (PySem.W.fnOf x qual (aO st) (aM st) (aw st) .none kV doc pm an dq ct):=⟨⟨oc,od,kV,doc,pm,an,dq,ct,u3,rfl,l,c⟩,k⟩
end
theorem bL {A:Around} {k:Nat} (hr:dA k A):A.units + 1 < cLine:=Nat.lt_of_le_of_lt (Nat.add_le_add_left (by decide:1≤64) _) hr.units
section
variable {X:Cx}
theorem pv (i:Nat) {x:Str} {pos:Pos} (hN:X.N[i]? = some x:=by rfl) (hv:CS X.env.scope x:=by first | exact Or.inl rfl | exact Or.inr (Or.inl rfl) | exact Or.inr (Or.inr rfl)) (hd:(x == ("__debug__" : Str)) = false:=by decide)
  (qL:(x == ("__classdict__" : Str)) = false:=by decide):PE X (.Name x pos) (qu i):=xP hN hv hd qL
theorem qY:kO X (.builtin "len") (fun xs H Q=>∃ a aj,xs = [V.ref a]∧H a = some (.dK aj)∧Q (.int aj.length) H):=by
 intro pins s σ H xs us Q I r h
 obtain ⟨a,aj,rfl,ha,q⟩:=h
 obtain ⟨u,rfl,ru⟩:=vals1 r
 cases ru
 exact Bo I (.inl ha) fun t s' I'=>⟨.int aj.length,H,I',⟨t,rfl⟩,q⟩
end
theorem yi {A B:Prop} (h:B):if false = true then A else B:=by
 rw [if_neg Bool.false_ne_true]
 exact h
theorem vd {A B:Prop} (h:A):if true = true then A else B:=by
 rw [if_pos rfl]
 exact h
def ak (H H':Hp):Prop:=∀ b o,H b = some o→H' b = some o
theorem ak.trans {H H1 H2:Hp} (a:ak H H1) (b:ak H1 H2):ak H H2:=fun c o h=>b c o (a c o h)
theorem ak.free {H H':Hp} (e:ak H H') {l:Addr} (h:H' l = Option.none):H l = Option.none:=by
 cases q:H l with
 | none=>rfl
 | some o=>
  rw [e l o q] at h
  cases h
theorem ak.seq {K:PySem.W.Frag} {H H':Hp} {a:Addr} {xs:List V} (e:ak H H') (h:aG K H a xs):aG K H' a xs:=by
 rcases h with (h | ⟨o,h⟩) | h
 ·exact .inl (.inl (e _ _ h))
 ·exact .inl (.inr ⟨o,e _ _ h⟩)
 ·exact .inr h
end L2

section
namespace L2
open PySem PySem.Spec PyProof.Rows
def Sz (n:Nat) (x:Int):Prop:=x.natAbs < 2 ^ n
theorem Sz.mono {m n:Nat} {x:Int} (h:Sz m x) (Mp:m≤n):Sz n x:=Nat.lt_of_lt_of_le h (Nat.pow_le_pow_right (by decide) Mp)
theorem Sz.Aq {m n:Nat} {x y:Int} (hx:Sz m x) (hy:Sz n y) (hm:m + n≤134217728:=by decide):IntMulOk x y:=
 PySem.IntMulOk.of_le (PySem.intBits_le_iff.mpr hx) (PySem.intBits_le_iff.mpr hy) hm
section
variable {X:Cx}
theorem fB:jA X (binaryOp .Mult) (rI IntMulOk fun i j=>.int (i * j)):=Cd fun _ _ _ _ _ _ _ hc q=>mul_int q hc
def Hc (_ j:Int):Prop:=j≠0∧Sz 9000 j
theorem Hc.np {i j:Int} (h:Hc i j):Builtin.divisionGoesByPylong i j = false:=by
 refine PyProof.noPylong_of_log2 ?_
 have h0:j.natAbs≠0:=fun e=>h.1 (Int.natAbs_eq_zero.mp e)
 exact (Nat.log2_lt h0).mpr h.2
def Hb (_ j:Int):Prop:=0 < j∧Sz 9000 j
theorem cE:jA X (binaryOp .FloorDiv) (rI Hb fun i j=>.int (i / j)):=Cd fun i j _ _ _ _ _ hc q=>by
 have h1:(0:Int) < j:=hc.1
 exact floordiv_int (by omega) (by rw [Int.fdiv_eq_ediv_of_nonneg i (by omega)]; exact q) (.inl (Hc.np ⟨by omega,hc.2⟩))
end
structure dR (P:Program) (w:World) (K:PySem.W.Frag) (mg:Str→Option Value) (base:Heap) (CX:oI) (x:Str) (k:Nat) (ps:List Str) (sp:Sp):Prop where
 ex:∃ f fd,jT P w K mg base CX k f fd ps sp∧mg x = some (.ref f)∧PySem.W.keepIn K (.ref f) = true∧Binds K fd ps []
section
variable {X:Cx} {CX:oI} {k j:Nat} {ps:List Str} {sp:Sp} {E:XK} {x:Str} {p pos:Pos} {e:Expr} {es:List Expr} {t:TA}
theorem aK (h:dR X.prog X.w X.K X.mg X.base CX x k ps sp) (hr:dA j X.A) (hx:Passes CX X E) (ha:PA X (e :: es) t) (hk:k≤j:=by decide) (hg:Gl X x:=by rfl) (AY:(x == ("__debug__" : Str)) = false:=by decide)
  (he:starEach (e :: es) X.env = (false,eval e X.env) :: starEach es X.env:=by rfl) (wJ:(backTo pos (starEach es X.env)).any (·.1) = false:=by rfl) :
  PE X (.Call (.Name x p) (e :: es) [] pos) (rO sp [] E t):=by
 obtain ⟨f,fd,F,hm,Mt,hb⟩:=h.ex
 exact uX F (hr.mono hk) hg hm Mt hb .nil hx ha AY he wJ
end
inductive uh:V→Value→Prop where
 | ty (n:String):uh (.ty n) (.type n)
 | ref (a:Addr):uh (.ref a) (.ref a)
def HF (K:PySem.W.Frag):List V→Hp→VK→Prop:=fun xs H Q=>∃ x c t u b,xs = [x,c]∧ig K H x t∧uh c u∧PySem.W.kitOne K t u = some b∧Q (.bl b) H
section
variable {X:Cx} {pins:List (Addr×Obj)} {σ : St} {H:Hp} {s:Shared} {h':Heap}
theorem Inv.jW {t':Nat} {ch:List Addr} {a:Addr} {o:HO} (I:Inv X pins σ H s) (k:∀ b u,b∉ch→s.heap.get? b = some u→h'.get? b = some u) (hf:∀ b∈ch,jS X pins H b) (hp:s.heap.objs.size≤a)
  (new:bF X.prog X.w (upd H a o) h' a o):Inv X pins σ (upd H a o) { s with heap:=h',toks:=t' }:=by
 have hn:=I.bE.fresh hp
 have sP:∀ b u,H b = some u→b∉ch:=fun b u e z=>by rw [(hf b z).1] at e; cases e
 refine I.step (g':=s.gens) (d':=s.drawn) (ch:=ch) (fun b hb=>?_) (fun b o _ _ hc e _=>k b o hc e) (fun b o _ _ hc e _=>⟨o.slots,k b o hc e⟩) (fun b u _ e n=>?_) (fun b o hc e=>⟨o,k b o hc e⟩)
  (fun b xs e=>by rw [ai (ay e hn)]; exact e) (fun b u v e=>by rw [ai (ay e hn)]; exact e) (fun b ps e=>⟨#[],by rw [ai (ay e hn),e]; simp⟩) (fun m hm=>?_) (fun b u e=>?_) I.bare
 ·obtain ⟨f0,f1,f2,f3,f4,f5⟩:=hf b hb
  exact ⟨f3,f1,f4,f5⟩
 ·rw [ai (Nat.ne_of_lt (Nat.lt_of_lt_of_le (Heap.lt_size e) hp))]; exact n
 ·obtain ⟨o,es,ep,ho,r⟩:=hm
  exact ⟨o,es,ep,k _ o (fun z=>(hf _ z).2.1 rfl) ho,r⟩
 ·by_cases hb:b = a
  ·subst hb; rw [af] at e; cases e; exact new
  ·rw [ai hb] at e
   refine (I.bE b u e).kT (fun c v hc q=>k c v ?_ q) (fun c q=>by rw [ai (ay q hn)]; exact q) fun c xs q=>by rw [ai (ay q hn)]; exact q
   rcases hc with z | z
   ·rw [z]; exact sP b u e
   ·exact sP c _ z
theorem Inv.uv {t':Nat} {ch:List Addr} (I:Inv X pins σ H s) (k:∀ b u,b∉ch→s.heap.get? b = some u→h'.get? b = some u) (hf:∀ b∈ch,jS X pins H b):Inv X pins σ H { s with heap:=h',toks:=t' }:=by
 have sP:∀ b u,H b = some u→b∉ch:=fun b u e z=>by rw [(hf b z).1] at e; cases e
 refine I.step (g':=s.gens) (d':=s.drawn) (ch:=ch) (fun b hb=>?_) (fun b o _ _ hc e _=>k b o hc e) (fun b o _ _ hc e _=>⟨o.slots,k b o hc e⟩) (fun b u _ e n=>n) (fun b o hc e=>⟨o,k b o hc e⟩)
  (fun b xs e=>e) (fun b u v e=>e) (fun b ps e=>⟨#[],by rw [e]; simp⟩) (fun m hm=>?_) (fun b u e=>?_) I.bare
 ·obtain ⟨f0,f1,f2,f3,f4,f5⟩:=hf b hb
  exact ⟨f3,f1,f4,f5⟩
 ·obtain ⟨o,es,ep,ho,r⟩:=hm
  exact ⟨o,es,ep,k _ o (fun z=>(hf _ z).2.1 rfl) ho,r⟩
 ·refine (I.bE b u e).kT (fun c v hc q=>k c v ?_ q) (fun c q=>q) fun c xs q=>q
  rcases hc with z | z
  ·rw [z]; exact sP b u e
  ·exact sP c _ z
end
def BM (K:PySem.W.Frag) (a:Addr):It:=
 ⟨fun i H=>∃ xs x,aG K H a xs∧xs[i]? = some x,
  fun i H x H'=>∃ p y,H p = none∧x = .ref p∧(∀ xs,aG K H a xs→xs[i]? = some y)∧H' = upd H p (.tup [.int i,y]),
  fun i H=>∃ xs,aG K H a xs∧xs.length≤i⟩
theorem qo {P:Program} {w:World} {K:PySem.W.Frag} {elts:List Expr} {kx:Nat} {px:Pos} (a e it:Addr) (nu:e≠it) :
  Turn P w K (.Tuple elts kx px) (BM K a) [e,it] e (fun i h=>(∃ old,IsEnum h e it (i:Nat) old)∧h.IsListIter it a i) where
 mem:=by simp
 obj:=fun i h st b hb=>by
  obtain ⟨⟨old,he⟩,hit⟩:=st
  rcases List.mem_cons.mp hb with rfl | hb
  ·exact ⟨_,he,fun v z=>by cases z⟩
  ·obtain rfl:b = it:=by simpa using hb
   obtain ⟨o,e1,c,d⟩:=hit
   exact ⟨o,e1,fun v z=>by rw [d] at z; cases z⟩
 keep:=fun i h h' st k=>by
  obtain ⟨⟨old,he⟩,hit⟩:=st
  exact ⟨⟨old,k e (by simp) _ he⟩,hit.at fun o q=>k it (by simp) o q⟩
 item:=by
  intro X hP hw hK hc i pins s σ H E I hf st hg
  subst hP hw hK
  obtain ⟨⟨old,he⟩,hit⟩:=st
  obtain ⟨xs,x,hq,hx⟩:=hg
  obtain ⟨aL,rv,p,hz⟩:=I.list hq
  obtain ⟨u,hu,ru⟩:=rv.get hx
  have AW:e < s.heap.objs.size:=Heap.lt_size he
  have FE:it < s.heap.objs.size:=by obtain ⟨_,q,_⟩:=id hit; exact Heap.lt_size q
  refine wpAny_pyNext_enum_item he hit p.isList (x:=u) (by simpa using hu) nu fun h' ho FD hT hsz hk=>⟨_,rfl,?_⟩
  refine wpAny_letOwnedTupleGo_enum ho fun h2 Cu wF=>?_
  replace wF:Heap.SameBut e h' h2:=wF
  have hn:H s.heap.objs.size = none:=I.bE.fresh (Nat.le_refl _)
  have kk:∀ b o,b∉[e,it]→s.heap.get? b = some o→h2.get? b = some o:=fun b o hb q=>(wF.2 b fun z=>hb (by simp [z])).trans (hk b o (fun z=>hb (by simp [z])) (fun z=>hb (by simp [z])) q)
  have ML:h2.get? s.heap.objs.size = some { cls:=.type "tuple",data:=.seq #[.int i s.toks,u] }:=(wF.2 _ (Nat.ne_of_gt AW)).trans hT
  refine ⟨.ref s.heap.objs.size,upd H s.heap.objs.size (.tup [.int i,x]),Inv.jW (s:=s) (h':=h2) (t':=s.toks + 1) I kk hf (Nat.le_refl _) ⟨by simp only [List.length_cons,List.length_nil]; rw [sizeLine_eq]; decide,[.int i s.toks,u],.cons ⟨_,rfl⟩ (.cons ru .nil),⟨_,ML,rfl,_,rfl⟩⟩,rfl,
   ⟨_,x,hn,rfl,fun ys hy=>by rw [I.ng hy hq]; exact hx,rfl⟩,⟨⟨_,Cu⟩,FD.at fun o q=>(wF.2 it (Ne.symm nu)).trans q⟩,fun b hb=>?_⟩
  rw [ai ?_]
  ·exact (hf b hb).1
  ·rcases List.mem_cons.mp hb with rfl | hb
   ·exact Nat.ne_of_lt AW
   ·obtain rfl:b = it:=by simpa using hb
    exact Nat.ne_of_lt FE
 done:=by
  intro X hP hw hK hc i pins s σ H E I hf st hg
  subst hP hw hK
  obtain ⟨⟨old,he⟩,hit⟩:=st
  obtain ⟨xs,hq,hx⟩:=hg
  obtain ⟨aL,rv,p,hz⟩:=I.list hq
  have hl:=rv.length
  exact wpAny_pyNext_enum_end (I.ok.hd hc) he hit p.isList (by simp; omega) fun h' eb=>⟨rfl,Inv.uv (t':=s.toks) (ch:=[e,it]) I (fun b o hb q=>eb b o (fun z=>hb (by simp [z])) q) hf⟩
 self:=fun _ _ _ _ _ st h=>by
  obtain ⟨⟨old,he⟩,hit⟩:=st
  exact wpAny_pyIter_enum he h
def AB (K:PySem.W.Frag) (ta:TA):TI:=fun σ H R=>ta σ H fun vs H1=>∃ a,vs = [.ref a]∧(∃ xs,aG K H1 a xs)∧R (BM K a) H1
theorem uU {X:Cx} {l:Expr} {ta:TA} {p pos:Pos} {elts:List Expr} {kx:Nat} {px:Pos} (hm:X.mg "enumerate" = none) (ha:PA X [l] ta) (hg:Gl X "enumerate":=by rfl) (hs:starEach [l] X.env = [(false,eval l X.env)]:=by rfl) :
  PI X (.Tuple elts kx px) (.Call (.Name "enumerate" p) [l] [] pos) (AB X.K ta):=by
 intro pins s σ H R I h
 refine Call_ (gT I hg hm boot_enumerate (PyProof.Rows.callWith_type1 (bR (ha pos pins s σ H _ I h) fun us s1 ⟨vs,H1,I1,r1,q1⟩=>?_) hs rfl))
 obtain ⟨a,rfl,⟨xs,hq⟩,q⟩:=q1
 obtain ⟨u,rfl,ru⟩:=vals1 r1
 cases ru
 obtain ⟨aL,rv,pl,hz⟩:=I1.list hq
 refine call_enumerate_list pl.isList fun h' he hit hsz hk=>?_
 refine wpAny_pyIter_enum he ?_
 have I2:Inv X pins σ H1 { s1 with heap:=h' }:=I1.kept (t':=s1.toks) fun b o e=>hk b o e
 refine ⟨_,[s1.heap.objs.size + 1,s1.heap.objs.size],_,_,H1,rfl,I2,qo a _ _ (Nat.succ_ne_self _),⟨⟨_,he⟩,hit⟩,fun b hb=>?_,q⟩
 rcases List.mem_cons.mp hb with rfl | hb
 ·exact I1.tK (Nat.le_succ _) (I1.bE.fresh (Nat.le_succ _))
 ·obtain rfl:b = s1.heap.objs.size:=by simpa using hb
  exact I1.tK (Nat.le_refl _) (I1.bE.fresh (Nat.le_refl _))
theorem tL {K:PySem.W.Frag} {a:Addr} {xs:List V} {g:TG} {tb:TS} {D:Ends} {σ : St} {H:Hp} (Pv:Nat→St→Hp→Prop) (h0:Pv 0 σ H) (hl:∀ i σ H,i≤xs.length→Pv i σ H→aG K H a xs)
  (hs:∀ i x p σ H,xs[i]? = some x→Pv i σ H→H p = none→g (.ref p) σ (upd H p (.tup [.int i,x])) fun σ2 H2=>tb { D with nx:=Pv (i + 1),ct:=Pv (i + 1),bk:=D.nx } σ2 H2) (hd:∀ σ H,Pv xs.length σ H→D.nx σ H) :
  ∃ W:Nat→Nat→St→Hp→Prop,(∃ m,W 0 m σ H)∧∀ i m σ H,W i m σ H→
   ((BM K a).stop i H∧D.nx σ H)∨((BM K a).go i H∧∃ N:St→Hp→Prop,(∀ σ' H',N σ' H'→∃ m',m' < m∧W (i + 1) m' σ' H')∧∀ x H',(BM K a).rD i H x H'→g x σ H' fun σ2 H2=>tb { D with nx:=N,ct:=N,bk:=D.nx } σ2 H2):=by
 refine ⟨fun i m σ H=>m = xs.length - i∧i≤xs.length∧Pv i σ H,⟨xs.length,by simp,Nat.zero_le _,h0⟩,?_⟩
 rintro i m σ H ⟨rfl,hi,p⟩
 have q:=hl i σ H hi p
 by_cases dD:i < xs.length
 ·refine .inr ⟨⟨xs,xs[i],q,by simp [dD]⟩,Pv (i + 1),fun σ' H' p'=>⟨xs.length - (i + 1),by omega,rfl,dD,p'⟩,fun x H' y=>?_⟩
  obtain ⟨r,y,hr,rfl,hy,rfl⟩:=y
  exact hs i y r σ H (hy xs q) p hr
 ·have e:i = xs.length:=by omega
  subst e
  exact .inl ⟨⟨xs,q,Nat.le_refl _⟩,hd σ H p⟩
section
variable {σ : St} {H:Hp} {Q:VK} {D:Ends}
theorem r_var {i:Nat} {v:V} (h : σ[i]? = some (some v)) (q:Q v H):qu i σ H Q:=⟨v,h,q⟩
theorem r_c {v:V} (q:Q v H):tC v σ H Q:=q
theorem r_op {r:R2} {ta tb:TE} (h:ta σ H fun x H1=>tb σ H1 fun y H2=>r x y H2 Q):zE r ta tb σ H Q:=h
theorem uH {r:V→Hp→VK→Prop} {ta:TE} (h:ta σ H fun x H1=>r x H1 Q):Hj r ta σ H Q:=h
theorem o5 {g:Int→Int→V} {i j:Int} (q:Q (g i j) H):wm g (.int i) (.int j) H Q:=⟨i,j,rfl,rfl,q⟩
theorem rW {C:Int→Int→Prop} {g:Int→Int→V} {i j:Int} (c:C i j) (q:Q (g i j) H):rI C g (.int i) (.int j) H Q:=⟨i,j,rfl,rfl,c,q⟩
theorem uI {g:Int→V} {i:Int} (q:Q (g i) H):rU g (.int i) H Q:=⟨i,rfl,q⟩
theorem pA {i j:Int} (q:Q (.bl (decide (i = j))) H):DO (.int i) (.int j) H Q:=⟨rfl,by rw [iG,Bool.beq_eq_decide_eq]; exact q⟩
theorem o7 {i j:Int} (q:Q (.bl (!decide (i = j))) H):HC (.int i) (.int j) H Q:=⟨rfl,by rw [iG,Bool.beq_eq_decide_eq]; exact q⟩
theorem r_seq {t u:TS} (h:t { D with nx:=u D } σ H):xj t u D σ H:=h
theorem lE (h:D.nx σ H):vZ D σ H:=h
theorem r_asg {te:TE} {g:TG} (h:te σ H fun x H1=>g x σ H1 D.nx):uA te g D σ H:=h
theorem r_gname {i:Nat} {v:V} {R:St→Hp→Prop} (h:R (σ.set i (some v)) H):p8 i v σ H R:=h
theorem o3 {te:TE} (h:te σ H D.rt):zC te D σ H:=h
theorem lG {te:TE} (h:te σ H fun _ H1=>D.nx σ H1):v9 te D σ H:=h
theorem pj {c:TT} {t u:TS} (h:c σ H fun b H1=>if b = true then t D σ H1 else u D σ H1):zI c t u D σ H:=h
theorem lz {t:TE} {R:Bool→Hp→Prop} (h:t σ H fun x H'=>∃ k,x = .bl k∧R k H'):vW t σ H R:=h
theorem B2 {t:TE} {R:Bool→Hp→Prop} (h:t σ H fun x H'=>∃ k,x = .bl k∧R k H'):tB t σ H R:=h
theorem uM {k:Bool} {R:Bool→Prop} (h:R k):∃ k',V.bl k = .bl k'∧R k':=⟨k,rfl,h⟩
theorem pE {t u:TT} {R:Bool→Hp→Prop} (h:t σ H fun c H1=>if c = true then u σ H1 R else R false H1):zN t u σ H R:=h
theorem uJ {t u:TT} {R:Bool→Hp→Prop} (h:t σ H fun c H1=>if c = true then R true H1 else u σ H1 R):Hm t u σ H R:=h
theorem lH {ta tb:TE} (h:ta σ H fun x H1=>∃ c,x = .bl c∧if c = true then tb σ H1 Q else Q (.bl false) H1):wa ta tb σ H Q:=h
theorem lC {ta:TE} (h:ta σ H fun x H1=>∃ c,x = .bl c∧Q (.bl (!c)) H1):vX ta σ H Q:=h
theorem j8 {R:List V→Hp→Prop} (h:R [] H):xm σ H R:=h
theorem gR {ta:TE} {tr:TA} {R:List V→Hp→Prop} (h:ta σ H fun x H1=>tr σ H1 fun xs H2=>R (x :: xs) H2):jY ta tr σ H R:=h
theorem iX {sp:Sp} {E:XK} {t:TA} (h:t σ H fun vs H1=>sp (vs ++ []) H1 Q E):rO sp [] E t σ H Q:=h
theorem si {r:List V→Hp→VK→Prop} {t:TA} (h:t σ H fun vs H1=>r vs H1 Q):Hr r t σ H Q:=h
theorem oZ {t:TA} (h:t σ H fun xs H1=>xs.length≤sizeLine∧∀ p,H1 p = none→Q (.ref p) (upd H1 p (.tup xs))):zB t σ H Q:=h
theorem o8 {t:TA} (h:t σ H fun xs H1=>xs.length≤sizeLine∧∀ p,H1 p = none→Q (.ref p) (upd H1 p (.lst xs))):xo t σ H Q:=h
theorem o6 {i j:Nat} {ta:TA} (h:ta σ H fun vs H1=>∃ v w,vs = [v,w]∧D.nx ((σ.set i (some v)).set j (some w)) H1):zD i j ta D σ H:=h
theorem cD {wi:TI} {g:TG} {tb:TS} (h:wi σ H fun J H1=>∃ W:Nat→Nat→St→Hp→Prop,(∃ m,W 0 m σ H1)∧∀ i m σ H,W i m σ H→
 (J.stop i H∧D.nx σ H)∨(J.go i H∧∃ N:St→Hp→Prop,(∀ σ' H',N σ' H'→∃ m',m' < m∧W (i + 1) m' σ' H')∧∀ x H',J.rD i H x H'→g x σ H' fun σ2 H2=>tb { D with nx:=N,ct:=N,bk:=D.nx } σ2 H2)):zJ wi g tb D σ H:=h
theorem Co {A B:Prop} (h:A):if true = true then A else B:=vd h
theorem Cp {A B:Prop} (h:B):if false = true then A else B:=yi h
theorem if2 {c A B:Prop} [Decidable c] (h1:c→A) (h2:¬ c→B):if decide c = true then A else B:=by
 by_cases h:c
 ·rw [decide_eq_true h]; exact vd (h1 h)
 ·rw [decide_eq_false h]; exact yi (h2 h)
theorem d8 {c A B:Prop} [Decidable c] (h1:¬ c→A) (h2:c→B):if (!decide c) = true then A else B:=by
 by_cases h:c
 ·rw [decide_eq_true h]; exact yi (h2 h)
 ·rw [decide_eq_false h]; exact vd (h1 h)
end
end L2
end
section
namespace L2
open PySem PySem.Spec PyProof.Rows
theorem aT:bootBuiltins "len" = some (.builtin "len"):=by decide +kernel
structure Def (K:PySem.W.Frag) (mg:Str→Option Value) (x:Str) (st:Stmt) (ps:List Str):Prop where
 ex:∃ f fd,y3 K x x st f fd∧mg x = some (.ref f)∧Binds K fd ps []
theorem ak.upd {H:Hp} {p:Addr} {o:HO} (h:H p = none):ak H (upd H p o):=fun b u e=>by rw [ai (ay e h)]; exact e
section
variable {σ : St} {H:Hp} {Q:VK} {K:PySem.W.Frag}
theorem o9 {p:Addr} {xs:List V} {i:Int} {v:V} (h:SqT K H p xs) (hi:jz xs i = some v) (q:Q v H):xF K (.ref p) (.int i) H Q:=⟨p,xs,i,v,rfl,rfl,h,hi,q⟩
theorem aZ {p:Addr} {xs:List V} {i:Int} {v:V} (h:aG K H p xs) (hi:jz xs i = some v) (q:Q v H):uO K (.ref p) (.int i) H Q:=⟨p,xs,i,v,rfl,rfl,h,hi,q⟩
theorem iV {n:Nat} {t:vG} {a:Addr} {xs:List V} {R:St→Hp→Prop} (h:SqT K H a xs) (hl:xs.length = n) (q:t xs σ H R):Bd K n t (.ref a) σ H R:=⟨a,xs,rfl,h,hl,q⟩
theorem iA {t:TG} {u:vG} {v:V} {vs:List V} {R:St→Hp→Prop} (q:t v σ H fun σ' H'=>u vs σ' H' R):wO t u (v :: vs) σ H R:=⟨v,vs,rfl,q⟩
theorem lF {R:St→Hp→Prop} (q:R σ H):Be [] σ H R:=⟨rfl,q⟩
end
end L2
namespace Fr
structure Pt (a b t u:Int):Prop where
 pos:0 < u
 co:Int.gcd t u = 1
 eq:t * b = a * u
 ta:t.natAbs≤a.natAbs
 ub:u.natAbs≤b.natAbs
end Fr
namespace L2
open PySem PySem.Spec PyProof.Rows
theorem fZ {c:TT} {tb:TS} {D:Ends} {σ : St} {H:Hp} (Pv:St→Hp→Prop) (μ : St→Hp→Nat) (h0:Pv σ H)
  (hs:∀ σ H,Pv σ H→c σ H fun b H1=>if b = true then ∃ N:St→Hp→Prop,(∀ σ' H',N σ' H'→∃ m',m' < μ σ H∧(m' = μ σ' H'∧Pv σ' H'))∧tb { D with nx:=N,ct:=N,bk:=D.nx } σ H1 else D.nx σ H1):rK c tb D σ H:=
 ⟨fun m σ H=>m = μ σ H∧Pv σ H,⟨_,rfl,h0⟩,by rintro m σ H ⟨rfl,p⟩; exact hs σ H p⟩
theorem w_turn {tb:TS} {r:VK} {bk:St→Hp→Prop} {σ : St} {H:Hp} {Pv:St→Hp→Prop} {μ : St→Hp→Nat} {m:Nat} (h:tb { nx:=fun σ' H'=>Pv σ' H'∧μ σ' H' < m,rt:=r,bk:=bk,ct:=fun σ' H'=>Pv σ' H'∧μ σ' H' < m } σ H) :
  ∃ N:St→Hp→Prop,(∀ σ' H',N σ' H'→∃ m',m' < m∧(m' = μ σ' H'∧Pv σ' H'))∧tb { nx:=N,rt:=r,bk:=bk,ct:=N } σ H:=⟨_,fun _ _ p=>⟨_,p.2,rfl,p.1⟩,h⟩
theorem vg {A B:Prop} (h:A):if (!false) = true then A else B:=vd h
theorem y9:2≤sizeLine:=by rw [sizeLine_eq]; decide
theorem y8:3≤sizeLine:=by rw [sizeLine_eq]; decide
end L2
namespace L2
open PySem PySem.Spec PyProof.Rows
theorem d9 {CX:oI} {P:Program} {w:World} {K:PySem.W.Frag} {mg:Str→Option Value} {base:Heap} {N:List Str} {q:Str} {sc:Scope} {f:Addr} {cd:Value} {A:Around} {o:List Env} {s:Shared} {H:Hp} {E:XK}:(nJ CX P w K mg base N q sc f cd A o s H E).K = K:=rfl
end L2
namespace L2
open PySem PySem.Spec PyProof.Rows
end L2
namespace L2
open PySem PySem.Spec PyProof.Rows
theorem mulL {a b:Int} (h1 : -(2 ^ 64) < a) (h2:a < 2 ^ 64):IntMulOk a b:=.of_left (intBits_le_64 h1 h2)
theorem Sz.J3 {n:Nat} {x:Int} (h1 : -(2 ^ 64) < x) (h2:x < 2 ^ 64) (hn:64≤n):Sz n x:=Sz.mono (m:=64) (by unfold Sz; omega) hn
theorem iH {i j:Int} (h1:0 < j) (h2:j < 2 ^ 64):Hb i j:=⟨h1,Sz.J3 (by omega) h2 (by decide)⟩
section
variable {X:Cx} {a b:Expr} {i j v:Int} {op:Operator} {pos:Pos} {C:Int→Int→Prop} {g:Int→Int→V}
theorem lK (ho:jA X (binaryOp op) (rI C g)) (ha:PE X a (tC (.int i))) (hb:PE X b (tC (.int j))) (c:C i j) (e:g i j = .int v):PE X (.BinOp a op b pos) (tC (.int v)):=
 fun pins s σ H Q I h=>aE ho ha hb pins s σ H Q I ⟨i,j,rfl,rfl,c,by rw [e]; exact h⟩
end
end L2
namespace L2
open PySem PySem.Spec PyProof.Rows
end L2
end
section
namespace L2
open PySem PySem.Spec PySem.W PySem.Calls PyProof.Rows Builtin Builtin.ObjectAttr Builtin.Getset_descriptor
def ExcAt (C:Addr) (a:Addr) (h:Heap):Prop:=∃ ob,h.get? a = some ob∧ob.cls = .ref C∧PySem.W.notCls ob = true
def Bh (C a:Addr):HO:=.ext (ExcAt C a)
structure BO (K:Frag) (D:Addr):Prop where
 O4:findIn K (.ref D) "__getattribute__" = some (some (.builtin "BaseException.__getattribute__"))
 O2:findIn K (.ref D) "__getattr__" = some none
 O0:mroIn K D (.type "BaseException") = some true
 cl:(clsIn K D).isSome = true
 ha:findIn K (.ref D) "__class__" = some (some (.builtin "object.__class__"))
 hn:specialIn K (.builtin "object.__class__") "__get__" = some (some (.builtin "getset_descriptor.__get__"))
 L9:takesIn K (.builtin "object.__class__") = some true
 hm:mroIn K D (.type "object") = some true
end L2
end
section
namespace L2
open PySem PySem.Spec PySem.W PySem.Calls PyProof.Rows
def BP (B:Heap) (fr:List Addr) (h:Heap):Prop:=∀ b o,h.get? b = some o→b∉fr→∃ o',B.get? b = some o'
structure BN (P:Program) (w:World) (outer:List Env) (H:Hp) (s:Shared) (a:Addr) (cls:Value) (H':Hp) (s':Shared):Prop where
 os:s'.os = s.os
 bare:AllBare s'.gens
 un:Un (nD outer) [] H H' s.heap s'.heap
 bE:fI P w H' s'.heap
 O7:∃ B a0,Heap.FlyingW B outer a cls a0 s'.heap∧BP B (nD outer) s.heap∧∀ b o,H' b = some o→∃ ob,B.get? b = some ob
 new:H' a = none
 fresh:s.heap.get? a = none
def cV (P:Program) (w:World):oI:=fun outer H s E e s'=>∃ a cls H',e = .ref a∧BN P w outer H s a cls H' s'∧E cls none H'
section
variable {X:Cx} {pins:List (Addr×Obj)} {σ : St} {H:Hp} {s:Shared}
structure Body (X:Cx):Prop where
 ex:X.ex = []
 pn:X.pn = []
 zO:X.stack = X.env :: X.outer
 fr:X.env.frame = some X.env.locals
end
theorem bQ {P:Program} {w:World} {X:Cx}:Passes (cV P w) X E0:=by
 rintro pins σ H1 s1 e s' I ⟨a,cls,H',rfl,F,q⟩
 exact q.elim
end L2
end
section
namespace L2
open PySem PySem.Spec PySem.W PySem.Calls PyProof.Rows
def Dd (Ex:XK) (C:Addr) (ta:TA):TS:=fun _ σ H=>ta σ H fun vs H1=>vs.length≤sizeLine∧Ex (.ref C) none H1
section
variable {X:Cx} {pins:List (Addr×Obj)} {σ : St} {H:Hp} {s:Shared}
def Cx.marked (X:Cx) (a:Addr):Cx:={ X with A:=X.A.mark (some (.ref a)),calm:=false,xe:=fun _ _=>False }
end
def EX (X:Cx) (pins:List (Addr×Obj)) (σ : St) (Ex:XK) (e:Value) (s':Shared):Prop:=
 ∃ a cls H' s0 H0,e = .ref a∧Inv X pins σ H0 s0∧BN X.prog X.w X.stack H0 s0 a cls H' s'∧Ex cls none H'
def MP (K:Frag) (M:Addr) (jn:Nat) (ts:TS) (D:Ends) (σ : St):XK:=fun cls _ H'=>∃ C,cls = .ref C∧exmOne K (.ref C) (.ref M) = some true∧
 ∀ a,H' a = none→ts { nx:=fun σ' H2=>D.nx (σ'.set jn none) H2,rt:=D.rt,bk:=fun σ' H2=>D.bk (σ'.set jn none) H2,ct:=fun σ' H2=>D.ct (σ'.set jn none) H2 } (σ.set jn (some (.ref a))) (upd H' a (Bh C a))
def Dc (K:Frag) (sp:Sp) (ta:TA) (M:Addr) (jn:Nat) (ts:TS):TS:=fun D σ H=>ta σ H fun vs H1=>sp (vs ++ []) H1 (fun _ H2=>D.nx σ H2) (MP K M jn ts D σ)
end L2
end
section
namespace L2
open PySem PySem.Spec PySem.W PySem.Calls PyProof.Rows
section
variable {P:Program} {w:World} {K:PySem.W.Frag} {mg:Str→Option Value} {base:Heap}
theorem Def.eD {x:Str} {st:Stmt} {N ps:List Str} {k:Nat} {sp:Sp} (D:Def K mg x st ps) (S:aR N ps (aw st)) (len:∀ vs H Q E,sp vs H Q E→vs.length = ps.length)
  (nv:∀ (f:Addr) (dq:Value) (A:Around) (outer:List Env) (s:Shared) (H:Hp) (vs:List V) (Q:VK) (E:XK),dA k (A.deeper (envOfC x (aw st) s.heap.objs.size f dq))→sp vs H Q E→
   ∃ t,qj (nJ (cV P w) P w K mg base N x (aw st) f dq A outer s H E).za (aM st) t∧t { nx:=fun _ H'=>Q .bK H',rt:=Q } (start N vs) H):dR P w K mg base (cV P w) x (k + 1) ps sp:=by
 obtain ⟨f,fd,F,hm,hb⟩:=D.ex
 have kp:=F.kp
 obtain ⟨oc,od,kV,doc,pm,an,dq,ct,u3,rfl,lk,qL⟩:=F.ex
 refine ⟨⟨f,_,wQ lk qL S len fun A outer s H vs Q E hr nR=>?_,hm,kp,hb⟩⟩
 obtain ⟨t,h,q⟩:=nv f dq A outer s H vs Q E hr nR
 exact ⟨t,h.za,q⟩
theorem y3.okN {x:Str} {st:Stmt} {f:Addr} {fd:FuncData} {N ps:List Str} {k:Nat} {sp:Sp} (F:y3 K x x st f fd) (S:aR N ps (aw st)) (len:∀ vs H Q E,sp vs H Q E→vs.length = ps.length)
  (nv:∀ (dq:Value) (A:Around) (outer:List Env) (s:Shared) (H:Hp) (vs:List V) (Q:VK) (E:XK),dA k (A.deeper (envOfC x (aw st) s.heap.objs.size f dq))→sp vs H Q E→
   ∃ t,qj (nJ (cV P w) P w K mg base N x (aw st) f dq A outer s H E).za (aM st) t∧t { nx:=fun _ H'=>Q .bK H',rt:=Q } (start N vs) H):jT P w K mg base (cV P w) (k + 1) f fd ps sp:=by
 obtain ⟨oc,od,kV,doc,pm,an,dq,ct,u3,rfl,lk,qL⟩:=F.ex
 refine wQ lk qL S len fun A outer s H vs Q E hr nR=>?_
 obtain ⟨t,h,q⟩:=nv dq A outer s H vs Q E hr nR
 exact ⟨t,h.za,q⟩
end
theorem qU {P:Program} {w:World} {o:List Env} {H:Hp} {s:Shared} {e:Value} {s':Shared} (h:cV P w o H s (fun _ _ _=>False) e s'):False:=by
 obtain ⟨_,_,_,_,_,z⟩:=h
 exact z
inductive CT (K:Frag) (H:Hp):V→Value→Prop where
 | bK:CT K H .bK (.type "NoneType")
 | exc {a C:Addr} (e:H a = some (Bh C a)) (c:BO K C):CT K H (.ref a) (.ref C)
def DM (K:Frag):List V→Hp→VK→Prop:=fun xs H Q=>∃ x c t u b,xs = [x,c]∧CT K H x t∧uh c u∧kitOne K t u = some b∧Q (.bl b) H
def DN (K:Frag):List V→Hp→VK→Prop:=fun xs H Q=>∃ x tp cs t us b,xs = [x,.ref tp]∧CT K H x t∧H tp = some (.tup cs)∧Paired uh cs us∧kitAny K t us = some b∧Q (.bl b) H
end L2
end
section
namespace L2
open PySem PySem.Spec PySem.W PySem.Calls PyProof.Rows
def Ac (K:Frag):R2:=fun x y H Q=>∃ p q a b c d,x = .ref p∧y = .ref q∧SqT K H p [.int a,.int b]∧SqT K H q [.int c,.int d]∧Q (.bl (!decide (a = c∧b = d))) H
theorem xT {X:Cx} (hu:X.A.units < cLine):jA X (compareOp .NotEq) (Ac X.K):=by
 intro pins s σ H x y v u Q I rx ry h
 obtain ⟨p,q,a,b,c,d,rfl,rfl,hp,hq,qq⟩:=h
 cases rx
 cases ry
 obtain ⟨aL,r1,p1,_⟩:=I.tuple hp
 obtain ⟨nq,r2,p2,_⟩:=I.tuple hq
 obtain ⟨u1,u2,rfl,⟨t1,rfl⟩,⟨t2,rfl⟩⟩:=vals2 r1
 obtain ⟨w1,w2,rfl,⟨t3,rfl⟩,⟨t4,rfl⟩⟩:=vals2 r2
 refine SeqAt.RcNeAt.tuples (e:=fun j=>if j = 0 then a == c else b == d) p1 p2 hu (fun j h1 h2=>?_) X.prog X.w X.xe _ (aP I qq ?_)
 ·have hj:j = 0∨j = 1:=by
   have:j < 2:=h1
   omega
  rcases hj with rfl | rfl
  ·exact SeqAt.EqAt.int_int a t1 c t3
  ·exact SeqAt.EqAt.int_int b t2 d t4
 ·show (!decide (a = c∧b = d)) = (!((List.range 2).all (fun j=>if j = 0 then a == c else b == d) && (2 == 2)))
  have e:(List.range 2).all (fun j=>if j = 0 then a == c else b == d) = ((a == c) && (b == d)):=by
   rw [show List.range 2 = [0,1] from rfl]
   simp
  rw [e]
  by_cases h1:a = c <;> by_cases h2:b = d <;> simp [h1,h2]
theorem z8 {K:Frag} {H:Hp} {Q:VK} {p q:Addr} {a b c d:Int} (hp:SqT K H p [.int a,.int b]) (hq:SqT K H q [.int c,.int d]) (k:Q (.bl (!decide (a = c∧b = d))) H):Ac K (.ref p) (.ref q) H Q:=⟨p,q,a,b,c,d,rfl,rfl,hp,hq,k⟩
theorem z9 {H:Hp} {Q:VK} {i j:Bool} (q:Q (.bl (decide (i = j))) H):DO (.bl i) (.bl j) H Q:=⟨rfl,by rw [oD,Bool.beq_eq_decide_eq]; exact q⟩
theorem ph {σ : St} {H:Hp} {Q:VK} {ta:TE} (h:ta σ H fun x H1=>Q (.bl (decide (x = .bK))) H1):zH ta σ H Q:=h
theorem lD {σ : St} {H:Hp} {Q:VK} {ta:TE} (h:ta σ H fun x H1=>Q (.bl (!decide (x = .bK))) H1):vY ta σ H Q:=h
theorem iM {X:Cx} {k:Nat} (hr:dA k X.A):X.A.units < cLine:=hr.xf
end L2
end
section
namespace L2
open PySem PySem.Spec PySem.W PySem.Calls PyProof.Rows
def AllIn (cells:List (Str×Addr)):List (Str×Addr)→Prop
 | []=>True
 | p :: r=>cells.lookup p.1 = some p.2∧AllIn cells r
theorem AllIn.get {cells:List (Str×Addr)}:∀ {cl:List (Str×Addr)},AllIn cells cl→∀ {x c},cl.lookup x = some c→cells.lookup x = some c
 | [],_,x,c,e=>by cases e
 | (n,d) :: r,h,x,c,e=>by
  rw [List.lookup_cons] at e
  cases q:x == n with
  | true=>
   rw [q] at e; cases e
   have z:x = n:=by simpa using q
   subst z
   exact h.1
  | false=>rw [q] at e; exact AllIn.get h.2 e
def uf (X:Cx) (ifs:List Expr) (t:TT):Prop:=
 ∀ (pins:List (Addr×Obj)) (s:Shared) (σ : St) (H:Hp) (Q:Bool→Hp→Prop),Inv X pins σ H s→t σ H Q→
  wpAny (model X.prog X.w) X.A (forIn ifs true fun c r=>if r = true then do let ok ← isTrue c X.env (eval c X.env); pure (ForInStep.yield ok) else pure (ForInStep.yield r)) (TP X pins σ Q) X.xe s
def vU:TT:=fun _ H Q=>Q true H
theorem eR {X:Cx}:uf X [] vU:=fun _ _ _ H _ I h=>wpAny_tests_nil ⟨H,I,h⟩
theorem eQ {X:Cx} {c:Expr} {t:TT} (h:PT X c t):uf X [c] t:=fun pins s σ H Q I hw=>wpAny_tests_one (h pins s σ H Q I hw)
section
variable {prog:Program} {w:World} {A:Around} {R:Result→Shared→Prop} {s:Shared}
theorem qW {elt target iter:Expr} {ifs:List Expr} {scope:Scope} {pos:Pos} {it acc:Value} {env:Env} (I:Nat→Shared→Prop)
  (turn:∀ n s,I n s→wpAny (model prog w) A (pyNext it) (fun r s₁=>match r with
   | none=>R (.ok .next) s₁
   | some v=>wpAny (model prog w) A (letOwnedTupleGo target it v) (fun _ s1=>wpAny (model prog w) A (assign target env v) (fun _ s₂=>
     wpAny (model prog w) A (forIn ifs true fun c r=>if r = true then do let ok ← isTrue c env (eval c env); pure (ForInStep.yield ok) else pure (ForInStep.yield r)) (fun ok s₃=>
      if ok = true then wpAny (model prog w) A (eval elt env) (fun x s₄=>wpAny (model prog w) A (call (.builtin "list.append") [acc,x]) (fun _ s₅=>∃ m,m < n∧I m s₅) (fun _ _=>False) s₄) (fun _ _=>False) s₃
      else ∃ m,m < n∧I m s₃) (fun _ _=>False) s₂) (fun _ _=>False) s1) (fun _ _=>False) s₁) (fun _ _=>False) s)
  (n:Nat) (h:I n s):codeAny (model prog w) A (.compLoop (.ListComp elt [⟨target,iter,ifs,0⟩] scope pos) 0 it acc env) R s:=by
 refine codeAny_loop rfl I (fun n s hI=>?_) n h
 show wpAny _ A ((compTurn (.ListComp elt [⟨target,iter,ifs,0⟩] scope pos) 0 it acc env).onRaise (fun x=>do noteFrame x env; theTreesLotGoes x)) _ _ s
 refine wpAny_noted ?_
 rw [compTurn_list]
 refine wpAny_bind (wpAny_standAt (wpAny_bind (wpAny_mono (turn n s hI) (fun r s₁ h₁=>?_) fun _ _ z=>False.elim z)))
 cases r with
 | none=>exact wpAny_pure h₁
 | some v=>
  refine wpAny_bind (wpAny_mono h₁ (fun _ s1 h1=>wpAny_bind (wpAny_mono h1 (fun _ s₂ h₂=>wpAny_bind (wpAny_mono h₂ (fun ok s₃ h₃=>?_) fun _ _ z=>False.elim z)) fun _ _ z=>False.elim z)) fun _ _ z=>False.elim z)
  cases ok with
  | false=>exact wpAny_pure ⟨rfl,h₃⟩
  | true=>
   exact wpAny_bind (wpAny_bind (wpAny_mono h₃ (fun x s₄ h₄=>wpAny_bind (wpAny_mono h₄ (fun _ s₅ h₅=>wpAny_pure (wpAny_pure ⟨rfl,h₅⟩)) fun _ _ z=>False.elim z)) fun _ _ z=>False.elim z))
end
def Cx.block (X:Cx) (scope:Scope) (cl:List (Str×Addr)) (C:Addr) (N:List Str) (fp:List Addr) (pins:List (Addr×Obj)) (s:Shared) (H:Hp):Cx:=
 { X with N:=N,s₀:=s,H₀:=H,env:=compEnvC scope cl C X.env,outer:=X.stack,ex:=fp,fn:=fun _=>false,pn:=X.pn ++ pins,xe:=fun _ _=>False }
def fH (n:Nat) (fr:List Nat) (σ : St):St:=List.replicate n none ++ fr.map fun i=>(σ[i]?).join
structure iK (X:Cx) (scope:Scope) (cl:List (Str×Addr)) (tg:List Str) (fr:List (Str×Nat)):Prop where
 kind:scope.kind = .function
 xZ:∀ y∈scope.names,y.2≠.cell
 names:∀ y∈scope.names,y.2 = .local→scope.names.lookup y.1 = some .local
 Bs:closureFor scope X.env = pure cl
 wX:AllIn X.env.cells cl
 has:((relabel scope X.env).names.all fun p=>!(p.2 == .cell || p.2 == .free) || (cl.lookup p.1).isSome) = true
 MX:∀ p∈fr,X.N[p.2]? = some p.1∧CS X.env.scope p.1∧(cl.lookup p.1).isSome = true∧(relabel scope X.env).names.lookup p.1 = some .cell
 MY:∀ p∈fr,X.env.kindOf p.1 = some .cell
section
variable {X:Cx} {pins:List (Addr×Obj)} {σ : St} {H:Hp} {s:Shared} {scope:Scope} {cl:List (Str×Addr)} {tg:List Str} {fr:List (Str×Nat)}
theorem lookup_mem {κ α : Type} [BEq κ] [LawfulBEq κ]:∀ {l:List (κ×α)} {x : κ} {v : α},l.lookup x = some v→(x,v)∈l
 | [],_,_,e=>by cases e
 | (k,u) :: r,x,v,e=>by
  rw [List.lookup_cons] at e
  cases q:x == k with
  | true=>
   rw [q] at e; cases e
   have z:x = k:=by simpa using q
   subst z
   exact List.mem_cons_self
  | false=>rw [q] at e; exact List.mem_cons_of_mem _ (lookup_mem e)
theorem nN {C:Addr} {fp:List Addr} {h':Heap} {t':Nat} {m:Str→Option Value} (B:iK X scope cl tg fr) (I:Inv X pins σ H s) (hf:∀ b∈fp,jS X pins H b∧b < s.heap.objs.size) (hC:s.heap.objs.size≤C) (hn:h'.Ns C m) (k:∀ b o,s.heap.get? b = some o→h'.get? b = some o)
  {H2:Hp} (hu:Un (nD X.stack) fp H H2 s.heap h') (bE:fI X.prog X.w H2 h') (pZ:H2 C = none) :
  Inv (X.block scope cl C (tg ++ fr.map (·.1)) fp pins s H) [] (fH tg.length (fr.map (·.2)) σ) H2 { s with heap:=h',toks:=t' }:=by
 have cells:∀ {x c},cl.lookup x = some c→X.env.cells.lookup x = some c:=fun e=>B.wX.get e
 have cC:∀ x c,X.env.cells.lookup x = some c→c≠C:=fun x c e z=>by
  obtain ⟨v,o,ho,_⟩:=I.cell x c e
  exact absurd (Nat.lt_of_lt_of_le (Heap.lt_size ho) hC) (by rw [z]; exact Nat.lt_irrefl _)
 have cellK:∀ {c v},s.heap.IsCell c v→h'.IsCell c v:=fun {c v} ⟨o,e,d⟩=>⟨o,k c o e,d⟩
 have wV:∀ x c,X.env.cells.lookup x = some c→c∉fp∧H2 c = none:=fun x c e=>by
  have nf:c∉fp:=fun z=>(hf c z).1.2.2.2.2.1 x c e rfl
  obtain ⟨v,o,ho,_⟩:=I.cell x c e
  exact ⟨nf,hu.free c o ho (I.eI x c e) nf⟩
 have Ed:∀ p∈X.pn ++ pins,p.1∉fp∧H2 p.1 = none:=fun p hp=>by
  have nf:p.1∉fp:=fun z=>(hf p.1 z).1.2.2.2.2.2 p hp rfl
  obtain ⟨e,n,_⟩:=I.pin p hp
  exact ⟨nf,hu.free p.1 _ e n nf⟩
 have JH:∀ b∈nD X.stack,b < s.heap.objs.size:=fun b hb=>by
  obtain ⟨_,o,ho,_⟩:=I.stack.mem hb
  exact Heap.lt_size ho
 refine ⟨⟨I.ok.mod,B.kind,I.ok.glob,I.ok.blt,hC,fun x y c h1 h2=>I.ok.inj x y c (cells h1) (cells h2),fun x hx=>?_,fun x c z=>absurd (show false = true from z) Bool.false_ne_true,I.ok.hd,I.ok.frames,.inl rfl,fun b hb=>?_,fun b o e=>⟨?_,?_⟩,?_,fun b o e z=>?_,fun b hb z=>?_,I.stack,I.oM⟩,
  rfl,I.bare,hu,⟨m,hn,fun i x v h1 h2 h3=>?_⟩,fun x c e=>?_,pZ,fun x c e=>(wV x c (cells e)).2,fun p hp=>?_,bE,?_⟩
 ·have e:(relabel scope X.env).names.lookup x = some .cell∨(relabel scope X.env).names.lookup x = some .free:=hx
  have mem:∃ kk,(x,kk)∈(relabel scope X.env).names∧(kk == NameKind.cell || kk == NameKind.free) = true:=by
   rcases e with e | e
   ·exact ⟨_,lookup_mem e,rfl⟩
   ·exact ⟨_,lookup_mem e,rfl⟩
  obtain ⟨kk,mm,hk⟩:=mem
  have z:=List.all_eq_true.mp B.has _ mm
  simp only [hk,Bool.not_true,Bool.false_or] at z
  exact Option.isSome_iff_exists.mp z
 ·exact ⟨fun z=>absurd (Nat.lt_of_lt_of_le (hf b hb).2 hC) (by rw [z]; exact Nat.lt_irrefl _),fun x c e z=>(wV x c (cells e)).1 (z▸hb)⟩
 ·exact (I.bs b o e).1
 ·exact (I.bs b o e).2
 ·exact Nat.le_trans I.ok.yP I.sz
 ·rcases (hf b z).1.2.2.2.1 with q | q
  ·exact I.ok.sJ b o e q
  ·exact absurd (Nat.lt_of_lt_of_le (Heap.lt_size (I.ok.bs b o e).1) q) (Nat.lt_irrefl _)
 ·have z':b∈nD X.stack:=z
  rcases List.mem_cons.mp (I.iO b z') with q | q
  ·exact (hf b hb).1.2.1 q
  ·exact (hf b hb).1.2.2.1 q
 ·have hi:tg.length≤i:=by
   refine Nat.le_of_not_lt fun z=>?_
   unfold fH at h2
   rw [List.getElem?_append_left (by simpa using z),List.getElem?_replicate,if_pos z] at h2
   cases h2
  have Bb:(fr.map (·.1))[i - tg.length]? = some x:=by
   have z:(tg ++ fr.map (·.1))[i]? = some x:=h1
   rw [List.getElem?_append_right hi] at z
   exact z
  have FV:((fr.map (·.2)).map fun i=>(σ[i]?).join)[i - tg.length]? = some (some v):=by
   unfold fH at h2
   rw [List.getElem?_append_right (by simpa using hi)] at h2
   simpa using h2
  rw [List.getElem?_map] at Bb
  rw [List.getElem?_map,List.getElem?_map] at FV
  cases q:fr[i - tg.length]? with
  | none=>rw [q] at Bb; cases Bb
  | some p=>
   rw [q] at Bb FV
   have ex:p.1 = x:=Option.some.inj Bb
   have ev:(σ[p.2]?).join = some v:=Option.some.inj FV
   subst ex
   obtain ⟨f1,f2,f3,f4⟩:=B.MX p (List.mem_of_getElem? q)
   have eσ : σ[p.2]? = some (some v):=by
    cases z : σ[p.2]? with
    | none=>rw [z] at ev; cases ev
    | some w'=>rw [z] at ev; exact congrArg some ev
   obtain ⟨m0,AJ,Ms⟩:=I.loc
   obtain ⟨u,r,l⟩:=Ms p.2 p.1 v f1 eσ f2
   refine ⟨u,r,?_⟩
   obtain ⟨c,hc⟩:=Option.isSome_iff_exists.mp f3
   have hk:=B.MY p (List.mem_of_getElem? q)
   rcases l with ⟨kl,_⟩ | ⟨_,c',Cv,z⟩
   ·rw [hk] at kl; cases kl
   ·have e':=cells hc
    rw [Cv] at e'
    cases e'
    exact .inr ⟨.inl f4,c,hc,cellK z⟩
 ·obtain ⟨v,z⟩:=I.cell x c (cells e)
  exact ⟨v,cellK z⟩
 ·rw [List.append_nil] at hp
  obtain ⟨e,n,ne,nf,d⟩:=I.pin p hp
  refine ⟨k _ _ e,(Ed p hp).2,fun z=>absurd (Nat.lt_of_lt_of_le (Heap.lt_size e) hC) (by rw [z]; exact Nat.lt_irrefl _),fun z=>?_,d⟩
  rcases List.mem_cons.mp (I.iO _ z) with q | q
  ·exact ne q
  ·exact nf q
 ·unfold fH
  show _ = (tg ++ fr.map (·.1)).length
  simp
end
end L2
end
section
namespace L2
open PySem PySem.Spec PySem.W PySem.Calls PyProof.Rows
def oK (wi:TI) (g:TG) (tt:TT) (te:TE) (n:Nat) (fr:List Nat):TE:=fun σ H Q=>wi σ H fun J H1=>∀ acc,H1 acc = none→∃ W:Nat→Nat→St→List V→Hp→Prop,(∃ m,W 0 m (fH n fr σ) [] (upd H1 acc (.lst [])))∧
 ∀ i m σ' ys H2,W i m σ' ys H2→((J.stop i H2∧Q (.ref acc) H2)∨(J.go i H2∧∀ x H3,J.rD i H2 x H3→g x σ' H3 fun σ2 H4=>tt σ2 H4 fun b H5=>
  if b = true then te σ2 H5 fun y H6=>H6 acc = some (.lst ys)∧ys.length < sizeLine∧∃ m',m' < m∧W (i + 1) m' σ2 (ys ++ [y]) (upd H6 acc (.lst (ys ++ [y]))) else ∃ m',m' < m∧W (i + 1) m' σ2 ys H5))
section
variable {X:Cx} {scope:Scope} {cl:List (Str×Addr)} {tg:List Str} {fr:List (Str×Nat)} {elt target iter:Expr} {ifs:List Expr} {wi:TI} {g:TG} {tt:TT} {te:TE} {pos:Pos}
theorem kE (B:iK X scope cl tg fr) (hc:X.calm = true) (hi:PI X target iter wi)
  (hg:∀ C fp pins s H,PG (X.block scope cl C (tg ++ fr.map (·.1)) fp pins s H) target g) (ht:∀ C fp pins s H,uf (X.block scope cl C (tg ++ fr.map (·.1)) fp pins s H) ifs tt) (he:∀ C fp pins s H,PE (X.block scope cl C (tg ++ fr.map (·.1)) fp pins s H) elt te)
  {pins:List (Addr×Obj)} {σ : St} {H:Hp} {s:Shared} {Q:VK} (I:Inv X pins σ H s) (hw:oK wi g tt te tg.length (fr.map (·.2)) σ H Q) {RR:Value→Addr→Result→Shared→Prop}
  (MN:∀ D C s1 H5 m,Inv X pins σ H5 s1→s1.heap.Ns C m→H5 C = none→C≠X.env.locals→X.s₀.heap.objs.size≤C→(∀ x c,X.env.cells.lookup x = some c→c≠C)→(∀ p∈X.pn ++ pins,p.1≠C)→Q (.ref D) H5→RR (.ref D) C (.ok .next) s1) :
  wpAny (model X.prog X.w) X.A (eval iter X.env) (fun xv s1=>wpAny (model X.prog X.w) X.A (pyIter xv) (fun it s2=>wpAny (model X.prog X.w) X.A (newList []) (fun acc s3=>
   wpAny (model X.prog X.w) X.A (newFunctionEnv scope X.env.globals cl [] X.env.qual none .none (some X.env)) (fun Bu s4=>
    codeAny (model X.prog X.w) X.A (.compStart (.ListComp elt [⟨target,iter,ifs,0⟩] scope pos) 0 it acc { Bu with scope:=relabel scope X.env }) (RR acc Bu.locals) s4) X.xe s3) X.xe s2) X.xe s1) X.xe s:=by
 refine wpAny_mono (hi pins s σ H _ I hw) (fun xv s1 h1=>wpAny_mono h1 (fun E8 s2 h2=>?_) fun _ _ z=>z) fun _ _ z=>z
 obtain ⟨it,fp,tn,J,H1,rfl,I2,T,C7,f2,L1⟩:=h2
 have uk:∀ b∈fp,b < s2.heap.objs.size:=fun b hb=>by
  obtain ⟨o,e,_⟩:=T.obj _ _ C7 b hb
  exact Heap.lt_size e
 refine wpAny_newObj_type (wpAny_newFunctionEnv B.xZ (by intro y hy; simp at hy) (fun h3 zg Cs=>?_) B.kind)
 dsimp only at zg Cs ⊢
 generalize hP:s2.heap.push { cls:=.type "list",dict:=none,data:=.seq ([]:List Value).toArray } = hp at zg Cs ⊢
 have hC:hp.objs.size = s2.heap.objs.size + 1:=by rw [← hP,Heap.size_push]
 have dD:s2.heap.objs.size < hp.objs.size:=by rw [hC]; exact Nat.lt_succ_self _
 have k3:∀ b o,s2.heap.get? b = some o→h3.get? b = some o:=fun b o e=>by
  have l:=Heap.lt_size e
  refine Cs.extBut b o (Nat.ne_of_lt (Nat.lt_trans l dD)) (Heap.get?_push_of_some _ (hP▸Heap.get?_push_of_some _ e))
 have hD:H1 s2.heap.objs.size = none:=I2.bE.fresh (Nat.le_refl _)
 have bO:h3.get? s2.heap.objs.size = some { cls:=.type "list",dict:=none,data:=.seq ([]:List Value).toArray }:=Cs.extBut _ _ (Nat.ne_of_lt dD) (Heap.get?_push_of_some _ (hP▸Heap.get?_push_size _ rfl))
 obtain ⟨W,⟨m0,w0⟩,turn⟩:=L1 _ hD
 have Jm:Un (nD X.stack) fp H1 (upd H1 s2.heap.objs.size (.lst [])) s2.heap h3:=Un.laid k3 (Nat.le_refl _) hD
 have KR:fI X.prog X.w (upd H1 s2.heap.objs.size (.lst [])) h3:=I2.bE.laid k3 (Nat.le_refl _) ⟨Nat.zero_le _,[],0,.nil,bO⟩
 have fC:upd H1 s2.heap.objs.size (.lst []) hp.objs.size = none:=by rw [ai (Nat.ne_of_gt dD)]; exact I2.bE.fresh (Nat.le_of_lt dD)
 have Lw:=I2.lt
 have nL:hp.objs.size≠X.env.locals:=Nat.ne_of_gt (Nat.lt_trans Lw dD)
 have Ka:X.s₀.heap.objs.size≤hp.objs.size:=Nat.le_trans I2.sz (Nat.le_of_lt dD)
 have cC:∀ x c,X.env.cells.lookup x = some c→c≠hp.objs.size:=fun x c e z=>by
  obtain ⟨v,o,ho,_⟩:=I2.cell x c e
  exact absurd (Nat.lt_trans (Heap.lt_size ho) dD) (by rw [z]; exact Nat.lt_irrefl _)
 have pC:∀ p∈X.pn ++ pins,p.1≠hp.objs.size:=fun p Fq z=>by
  exact absurd (Nat.lt_trans (Heap.lt_size (I2.pin p Fq).1) dD) (by rw [z]; exact Nat.lt_irrefl _)
 have J0:=nN (t':=s2.toks + ([]:List (Str×Value)).length) B I2 (fun b hb=>⟨f2 b hb,uk b hb⟩) (Nat.le_of_lt dD) zg k3 Jm KR fC
 have FX:∀ {H':Hp} {pl:List (Addr×Obj)},(∀ b∈fp,H' b = none)→(∀ p∈pl,p.1∉fp)→∀ b∈fp,jS (X.block scope cl hp.objs.size (tg ++ fr.map (·.1)) fp pins s2 H1) pl H' b:=fun hn wJ b hb=>by
  obtain ⟨g0,g1,g2,g3,g4,g5⟩:=f2 b hb
  refine ⟨hn b hb,fun z=>?_,fun z=>?_,.inl hb,fun x c e=>g4 x c (B.wX.get e),fun p Fq z=>?_⟩
  ·have z':b = hp.objs.size:=z
   exact absurd (Nat.lt_trans (uk b hb) dD) (by rw [z']; exact Nat.lt_irrefl _)
  ·rcases List.mem_cons.mp (I2.iO b z) with q | q
   ·exact g1 q
   ·exact g2 q
  ·rcases List.mem_append.mp Fq with q | q
   ·exact g5 p q z
   ·exact wJ p q (z▸hb)
 have loop:∀ s3:Shared,s3 = { s2 with heap:=h3,toks:=s2.toks + ([]:List (Str×Value)).length }→
   codeAny (model X.prog X.w) X.A (.compLoop (.ListComp elt [⟨target,iter,ifs,0⟩] scope pos) 0 (.ref it) (.ref s2.heap.objs.size) (compEnvC scope cl hp.objs.size X.env)) (RR (.ref s2.heap.objs.size) hp.objs.size) s3:=by
  rintro s3 rfl
  refine qW (fun n s'=>∃ i σ' ys H5,Inv (X.block scope cl hp.objs.size (tg ++ fr.map (·.1)) fp pins s2 H1) [] σ' H5 s'∧tn i s'.heap∧(∀ b∈fp,H5 b = none)∧W i n σ' ys H5) ?_ m0
   ⟨0,_,[],_,J0,T.keep _ _ _ C7 fun b hb o e=>k3 b o e,fun b hb=>?_,w0⟩
  ·rintro n s' ⟨i,σ',ys,H5,J5,t5,f5,w5⟩
   rcases turn i n σ' ys H5 w5 with ⟨stop,q⟩ | ⟨go,step⟩
   ·refine wpAny_mono (T.done (X.block scope cl hp.objs.size (tg ++ fr.map (·.1)) fp pins s2 H1) rfl rfl rfl hc i [] s' σ' H5 (fun _ _=>False) J5 (FX f5 (by simp)) t5 stop) (fun r s6 ⟨hr,J6⟩=>?_) fun _ _ z=>z
    subst hr
    obtain ⟨m6,Mn,_⟩:=J6.loc
    exact MN _ _ _ H5 m6 (I2.BG (ch:=fp) J6.os J6.base J6.bE J6.bare fun b hb=>by obtain ⟨g0,g1,g2,g3,g4,g5⟩:=f2 b hb; exact ⟨g3,g1,g4,g5⟩) Mn J6.free nL Ka cC pC q
   ·refine wpAny_mono (T.item (X.block scope cl hp.objs.size (tg ++ fr.map (·.1)) fp pins s2 H1) rfl rfl rfl hc i [] s' σ' H5 (fun _ _=>False) J5 (FX f5 (by simp)) t5 go) (fun r s6 ⟨u,hr,h6⟩=>?_) fun _ _ z=>z
    subst hr
    refine wpAny_mono h6 (fun _ s7 ⟨x,H7,J7,r7,y7,t7,f7⟩=>?_) fun _ _ z=>z
    have N1:=J7.pinned (FX f7 (by simp)) (T.obj _ _ t7)
    have again:∀ {σ8:St} {H8:Hp} {s8:Shared} {C0:List V},Inv (X.block scope cl hp.objs.size (tg ++ fr.map (·.1)) fp pins s2 H1) ([] ++ i6 fp s7.heap) σ8 H8 s8→(∃ m',m' < n∧W (i + 1) m' σ8 C0 H8)→
      ∃ m',m' < n∧∃ i σ' ys H5,Inv (X.block scope cl hp.objs.size (tg ++ fr.map (·.1)) fp pins s2 H1) [] σ' H5 s8∧tn i s8.heap∧(∀ b∈fp,H5 b = none)∧W i m' σ' ys H5:=fun {σ8 H8 s8 C0} J8 ⟨m',hm,w8⟩=>by
     refine ⟨m',hm,i + 1,σ8,C0,H8,J8.gg,T.keep _ _ _ t7 fun b hb o e=>(J8.pin (b,o) (List.mem_append_right _ (List.mem_append_right _ (eu hb e)))).1,fun b hb=>?_,w8⟩
     obtain ⟨o,e,d⟩:=T.obj _ _ t7 b hb
     exact (J8.pin (b,o) (List.mem_append_right _ (List.mem_append_right _ (eu hb e)))).2.1
    refine wpAny_mono (hg _ _ _ _ _ _ s7 σ' H7 x u _ N1 r7 (step x H7 y7)) (fun _ s8 ⟨σ8,H8,J8,q8⟩=>?_) fun _ _ z=>z
    refine wpAny_mono (ht _ _ _ _ _ _ s8 σ8 H8 _ J8 q8) (fun b s9 ⟨H9,J9,q9⟩=>?_) fun _ _ z=>z
    cases b with
    | false=>
     rw [if_neg Bool.false_ne_true] at q9 ⊢
     exact again J9 q9
    | true=>
     rw [if_pos rfl] at q9 ⊢
     refine wpAny_mono (he _ _ _ _ _ _ s9 σ8 H9 _ J9 q9) (fun y J4 ⟨v,Od,N3,Ku,FR,FC,Kw⟩=>?_) fun _ _ z=>z
     refine wpAny_mono (cG (X:=X.block scope cl hp.objs.size (tg ++ fr.map (·.1)) fp pins s2 H1) _ J4 σ8 Od (.ref s2.heap.objs.size) [v] (.ref s2.heap.objs.size) [y] (fun _ Jf=>∃ m',m' < n∧W (i + 1) m' σ8 (ys ++ [v]) Jf) N3 rfl (.cons Ku .nil) ⟨_,ys,v,rfl,rfl,FR,FC,Kw⟩) (fun _ OH ⟨_,Jf,N2,_,Kv⟩=>?_) fun _ _ z=>z
     exact again N2 Kv
  ·have l:=uk b hb
   rw [ai (Nat.ne_of_lt l)]; exact (f2 b hb).1
 exact codeAny_compStart_list (loop _ rfl) (T.self X.A 0 _ _ _ (T.keep _ _ _ C7 fun b hb o e=>k3 b o e) (loop _ rfl))
theorem fv (B:iK X scope cl tg fr) (hc:X.calm = true) (hi:PI X target iter wi)
  (hg:∀ C fp pins s H,PG (X.block scope cl C (tg ++ fr.map (·.1)) fp pins s H) target g) (ht:∀ C fp pins s H,uf (X.block scope cl C (tg ++ fr.map (·.1)) fp pins s H) ifs tt) (he:∀ C fp pins s H,PE (X.block scope cl C (tg ++ fr.map (·.1)) fp pins s H) elt te)
  (hs:∀ x,foldedSetIterable iter X.env x = pure x:=by intro _; rfl):PE X (.ListComp elt [⟨target,iter,ifs,0⟩] scope pos) (oK wi g tt te tg.length (fr.map (·.2))):=by
 intro pins s σ H Q I hw
 rw [eval_ListComp]
 refine wpAny_comprehension_free (use:=none) rfl hs B.Bs B.kind B.names (kE B hc hi hg ht he I hw (RR:=fun acc C=>compPost (model X.prog X.w) X.A X.xe none (EP X pins σ Q) acc C) fun D C s1 H5 m J hn f0 f1 f2 f3 f4 q=>?_)
 refine ⟨m,hn,fun h' sb=>⟨.ref D,H5,?_,rfl,q⟩⟩
 exact J.turned (t':=s1.toks) (fun b o hb e=>(sb.2 b hb).trans e) f0 f1 (.inr f2) f3 f4
theorem iB {i:Nat} {y:Str} {py zP:Pos} (hN:X.N.Nodup) (hy:X.N[i]? = some y) (hl:Loc X.env.scope y) (B:iK X scope cl tg fr) (hc:X.calm = true) (hi:PI X target iter wi)
  (hg:∀ C fp pins s H,PG (X.block scope cl C (tg ++ fr.map (·.1)) fp pins s H) target g) (ht:∀ C fp pins s H,uf (X.block scope cl C (tg ++ fr.map (·.1)) fp pins s H) ifs tt) (he:∀ C fp pins s H,PE (X.block scope cl C (tg ++ fr.map (·.1)) fp pins s H) elt te)
  (hs:∀ x,foldedSetIterable iter X.env x = pure x:=by intro _; rfl) (Ma:swapsWith (.ListComp elt [⟨target,iter,ifs,0⟩] scope pos) (some (.Name y py)) zP.line X.env = pure true:=by rfl)
  (hf:X.fn y = true∨X.env.scope.names.lookup y = some .local:=by first | exact .inl rfl | exact .inr rfl | assumption) :
  PS X (.Assign [.Name y py] (.ListComp elt [⟨target,iter,ifs,0⟩] scope pos) zP) (uA (oK wi g tt te tg.length (fr.map (·.2))) (p8 i)):=by
 intro pins s σ H D I hw
 rw [exec_Assign_Name_used _ _ _ _ Ma]
 refine wpAny_bind (wpAny_standAt (wpAny_bind ?_))
 show wpAny _ _ (do let _ ← comprehension (.ListComp elt [⟨target,iter,ifs,0⟩] scope pos) scope X.env _ (newList []) false (eval iter X.env) (some (assign (.Name y py) X.env))) _ _ s
 refine wpAny_bind (wpAny_mono (wpAny_comprehension_free (use:=some (assign (.Name y py) X.env)) (Q:=fun _ s'=>SP X pins D .next s') rfl hs B.Bs B.kind B.names
  (kE B hc hi hg ht he I hw (RR:=fun acc C=>compPost (model X.prog X.w) X.A X.xe (some (assign (.Name y py) X.env)) (fun _ s'=>SP X pins D .next s') acc C) fun R C s1 H5 m J hn f0 f1 f2 f3 f4 q=>?_)) (fun _ s' hq=>wpAny_pure (wpAny_pure hq)) fun _ _ z=>z)
 show wpAny _ _ (assign (.Name y py) X.env (.ref R)) _ _ _
 refine wpAny_assign_Name (jZ (v:=.ref R) J hN hy hl rfl (fun s2 J2 ⟨a,sb,ha⟩=>?_) hf)
 have na:C≠a:=by
  rcases ha with z | z
  ·rw [z]; exact f1
  ·exact Ne.symm (f3 y a z)
 refine ⟨m,hn.sameBut sb na,fun h' JZ=>⟨_,H5,?_,q⟩⟩
 exact J2.turned (t':=s2.toks) (fun b o hb e=>(JZ.2 b hb).trans e) f0 f1 (.inr f2) f3 f4
end
end L2
end
section
namespace L2
open PySem PySem.Spec PySem.W PySem.Calls PyProof.Rows
section
variable {X:Cx}
def pF:V→List V→Hp→VK→Prop:=fun x vs H Q=>∃ l xs y,∃ k:Nat,x = .ref l∧vs = [.int k,y]∧H l = some (.lst xs)∧k≤xs.length∧xs.length < sizeLine∧Q .bK (upd H l (.lst (xs.take k ++ y :: xs.drop k)))
theorem d6:zq X "list.insert" pF:=by
 intro pins s σ H x vs v us Q I rx rv h
 obtain ⟨l,xs,y,k,rfl,rfl,hH,hk,hz,q⟩:=h
 cases rx
 obtain ⟨u1,u2,rfl,⟨t,rfl⟩,ru⟩:=vals2 rv
 obtain ⟨z,aL,n,r,hl,e⟩:=I.lU hH
 have MQ:=gS
 have fit:¬ (!Builtin.List.listFitsIndex (k:Int)) = true:=by
  have:Builtin.List.listFitsIndex (k:Int) = true:=by
   unfold Builtin.List.listFitsIndex
   simp only [Bool.and_eq_true,decide_eq_true_eq]
   constructor <;> omega
  rw [this]; decide
 have ek:(if (k:Int) < 0 then ((k:Int) + (aL.toArray.size:Int)).toNat else min (k:Int).toNat aL.toArray.size) = k:=by
  rw [if_neg (by omega),Int.toNat_natCast,List.size_toArray]
  omega
 have ee:(aL.toArray.extract 0 k).push u2 ++ aL.toArray.extract k = (aL.take k ++ u2 :: aL.drop k).toArray:=by
  apply Array.ext'
  simp
  rw [List.take_of_length_le (by rw [List.length_drop]; omega)]
 have rr:Vals (xs.take k ++ y :: xs.drop k) (aL.take k ++ u2 :: aL.drop k):=Vals.append (Vals.take k r) (.cons ru (Vals.drop k r))
 have Cq:(xs.take k ++ y :: xs.drop k).length≤sizeLine:=by
  rw [List.length_append,List.length_cons,List.length_take,List.length_drop]
  omega
 have sz:aL.toArray.size≤sizeLine:=by rw [List.size_toArray]; omega
 have fin:∀ f:Array Value→Array Value,f aL.toArray = (aL.take k ++ u2 :: aL.drop k).toArray→EP X pins σ Q Value.none { s with heap:=s.heap.update l (Obj.mapSeq f),toks:=s.toks }:=fun f hf=>
  ⟨.bK,_,I.sS (its':=aL.take k ++ u2 :: aL.drop k) (ys:=xs.take k ++ y :: xs.drop k) hH e hf rr Cq,rfl,q⟩
 have fin2:EP X pins σ Q Value.none { s with heap:=s.heap.update l (Obj.mapSeq fun xs=>have kk:=if (k:Int) < 0 then ((k:Int) + (xs.size:Int)).toNat else min (k:Int).toNat xs.size; (xs.extract 0 kk).push u2 ++ xs.extract kk),toks:=s.toks }:=by
  refine fin _ ?_
  dsimp only
  rw [ek]
  exact ee
 clear fin ek ee rr Cq q
 generalize (k:Int) = x at fit fin2 ⊢
 generalize aL.toArray = items at e sz
 exact call_meets F.slot_list_insert ⟨_,e,rfl⟩ F.entry_list_insert (F.args_list_insert_3 _ _ _) (AutoSeq1.list_insert_list_int_val_1 l items n x t u2 fit sz) ⟨e,fin2⟩
def uN (K:Frag):List V→Hp→VK→Prop:=fun vs H Q=>∃ (a:Addr) (ns:List Int),vs = [.ref a]∧aG K H a (ns.map V.int)∧ns.length < 64∧∀ (lQ:List Int) p,lQ.Perm ns→lQ.Pairwise (·≤·)→H p = none→Q (.ref p) (upd H p (.lst (lQ.map V.int)))
end
section
variable {X:Cx}
theorem nM:kO X (.builtin "sorted") (uN X.K):=by
 intro pins s σ H xs us Q I r h
 obtain ⟨a,ns,rfl,ha,hl,q⟩:=h
 obtain ⟨u,rfl,ru⟩:=vals1 r
 cases ru
 obtain ⟨aL,rv,pl,hz⟩:=I.list ha
 have hI:IntsAre aL ns:=intsAre_of rv
 have len:=rv.length
 rw [List.length_map] at len
 refine sorted_ints pl.isList hI (by omega) fun out lQ h1 h2 h3=>?_
 have lo:=h1.length
 obtain ⟨ep,k1⟩:=sortedAll_at s.heap aL out
 have AN:=h2.length_eq
 have Cq:(lQ.map V.int).length≤sizeLine:=by rw [List.length_map,PySem.sizeLine_eq]; omega
 have new:bF X.prog X.w (upd H (s.heap.objs.size + 1) (.lst (lQ.map V.int))) (sortedAll s.heap aL out) (s.heap.objs.size + 1) (.lst (lQ.map V.int)):=⟨Cq,out.toList,ep,gL h1,by simpa [seqObj] using k1⟩
 exact ⟨.ref (s.heap.objs.size + 1),_,I.laid (t':=s.toks) (fun b o e=>sortedAll_old e) (Nat.le_succ _) new,rfl,q lQ _ h2 h3 (I.bE.fresh (Nat.le_succ _))⟩
end
mutual
inductive vH (H:Hp):V→PyData→Prop where
 | int (i:Int):vH H (.int i) (.int i)
 | lst {a:Addr} {vs:List V} {ds:List PyData}:H a = some (.lst vs)→dQ H vs ds→vH H (.ref a) (.list ds)
 | tup {a:Addr} {vs:List V} {ds:List PyData}:H a = some (.tup vs)→dQ H vs ds→vH H (.ref a) (.tuple ds)
inductive dQ (H:Hp):List V→List PyData→Prop where
 | nil:dQ H [] []
 | cons {v:V} {vs:List V} {d:PyData} {ds:List PyData}:vH H v d→dQ H vs ds→dQ H (v :: vs) (d :: ds)
end
section
variable {X:Cx} {pins:List (Addr×Obj)} {σ : St} {H:Hp} {s:Shared}
mutual
theorem vH.reads (I:Inv X pins σ H s):∀ {v:V} {d:PyData} {u:Value},vH H v d→RelV v u→∃ as,Reads s.heap u d as
 | _,_,u,.int i,r=>by
  obtain ⟨t,rfl⟩:=r
  exact ⟨_,.int i t⟩
 | _,_,u,.lst (a:=a) (vs:=vs) e h,r=>by
  cases (show u = Value.ref a from r)
  obtain ⟨_,aL,n,rv,g⟩:=(show bF X.prog X.w H s.heap a (.lst vs) from I.bE a _ e)
  obtain ⟨as,ra⟩:=dQ.reads I h rv
  exact ⟨_,.list g rfl rfl (by simpa using ra)⟩
 | _,_,u,.tup (a:=a) (vs:=vs) e h,r=>by
  cases (show u = Value.ref a from r)
  obtain ⟨_,aL,rv,o,g,hc,n,hd⟩:=(show bF X.prog X.w H s.heap a (.tup vs) from I.bE a _ e)
  obtain ⟨as,ra⟩:=dQ.reads I h rv
  exact ⟨_,.tuple g hc hd (by simpa using ra)⟩
theorem dQ.reads (I:Inv X pins σ H s):∀ {vs:List V} {ds:List PyData} {us:List Value},dQ H vs ds→Vals vs us→∃ as,ReadsAll s.heap us ds as
 | _,_,_,.nil,.nil=>⟨_,.nil⟩
 | _,_,_,.cons h t,.cons r q=>by
  obtain ⟨as,ra⟩:=vH.reads I h r
  obtain ⟨bs,rb⟩:=dQ.reads I t q
  exact ⟨_,.cons ra rb⟩
end
end
def Kr (neg:Bool):R2:=fun x y H Q=>∃ da db,vH H x da∧vH H y db∧SeqAt.shaped da = true∧SeqAt.shaped db = true∧Q (.bl (if neg then !PyData.eqv da db else PyData.eqv da db)) H
def wU (l:List Int):PyData:=.list (l.map .int)
def tU (L:List (List Int)):PyData:=.list (L.map wU)
def Bp (p:Int×Int):PyData:=.tuple [.int p.1,.int p.2]
def Gn (L:List (Int×Int)):PyData:=.list (L.map Bp)
end L2
end
section
namespace L2
open PySem PySem.Spec PySem.W PySem.Calls PyProof.Rows
theorem oE:bootBuiltins "min" = some (.builtin "min"):=by decide +kernel
theorem qZ:bootBuiltins "sorted" = some (.builtin "sorted"):=by decide +kernel
theorem iI {i j:Int} (h1:0 < j) (h2:j < 2 ^ 250):Hb i j:=⟨h1,Sz.mono (m:=250) (by unfold Sz; omega) (by decide)⟩
theorem lP {ns:List Int} {k:Int} (h0:0≤k) (h1:k < ns.length):∃ n,jz (ns.map V.int) k = some (V.int n):=by
 obtain ⟨j,rfl⟩:=Int.eq_ofNat_of_zero_le h0
 have hj:j < ns.length:=by omega
 exact ⟨ns[j],iJ (by simp [hj])⟩
end L2
end
section
namespace L2
open PySem PySem.Spec PySem.W PySem.Calls PyProof.Rows
theorem ax {α : Type} {p : α→Prop}:∀ x∈([]:List α),p x:=fun _ h=>by cases h
theorem ae {α : Type} {p : α→Prop} {a : α} {l:List α} (h:p a) (t:∀ x∈l,p x):∀ x∈a :: l,p x:=List.forall_mem_cons.mpr ⟨h,t⟩
end L2
namespace L2
open PySem PySem.Spec PySem.W PySem.Calls PyProof.Rows
section
variable {σ : St} {H:Hp} {Q:VK} {D:Ends} {K:Frag}
theorem uL {T:String} {r:V→List V→Hp→VK→Prop} {to:TE} {t:TA} (h:to σ H fun x H1=>zx K T x H1∧t σ H1 fun xs H2=>r x xs H2 Q):Hs K T r to t σ H Q:=h
theorem pD {T:String} {r:V→List V→Hp→VK→Prop} {to:TE} (h:to σ H fun x H1=>zx K T x H1∧r x [] H1 Q):zM K T r to σ H Q:=h
theorem ly {R:Bool→Hp→Prop} (h:R true H):vU σ H R:=h
theorem dY {l:Addr} {xs:List V} {y:V} (h:H l = some (.lst xs)) (hl:xs.length < sizeLine) (q:Q .bK (upd H l (.lst (xs ++ [y])))):pH (.ref l) [y] H Q:=⟨l,xs,y,rfl,rfl,h,hl,q⟩
theorem eN {l:Addr} {xs:List V} {y:V} {i:Int} {k:Nat} (hi:i = k) (h:H l = some (.lst xs)) (hk:k≤xs.length) (hl:xs.length < sizeLine) (q:Q .bK (upd H l (.lst (xs.take k ++ y :: xs.drop k)))):pF (.ref l) [.int i,y] H Q:=⟨l,xs,y,k,rfl,by rw [hi],h,hk,hl,q⟩
theorem mR {l b:Addr} {xs zs:List V} (h:H l = some (.lst xs)) (hb:H b = some (.lst zs)) (hl:xs.length + zs.length≤sizeLine) (q:Q .bK (upd H l (.lst (xs ++ zs)))):pG (.ref l) [.ref b] H Q:=⟨l,b,xs,zs,rfl,rfl,h,hb,hl,q⟩
theorem rZ {p:Addr} {x:Int} {ns:List Int} {neg:Bool} (h:aG K H p (ns.map V.int)) (q:Q (.bl (if neg then !decide (x∈ns) else decide (x∈ns))) H):B7 K neg (.int x) (.ref p) H Q:=by
 have e:Cn (.int x) (ns.map V.int) = decide (x∈ns):=by
  unfold Cn
  rw [List.any_map]
  have:(fun y=>vy y (V.int x)) ∘ V.int = fun y=>y == x:=by funext y; rfl
  rw [this]
  clear this q h
  induction ns with
  | nil=>simp
  | cons a l ih=>
   rw [List.any_cons,ih]
   by_cases h1:a = x
   ·subst h1; simp
   ·have h2:¬ x = a:=fun z=>h1 z.symm
    simp [h1,h2]
 refine ⟨p,_,rfl,.inl h,rfl,?_,by rw [e]; exact q⟩
 rw [List.all_map]
 simp [gG]
theorem cW {n i:Nat} {A:Prop} (hi:i < n) (h:A):∃ m',m' < n - i∧(m' = n - (i + 1)∧i + 1≤n∧A):=⟨_,by omega,rfl,hi,h⟩
theorem cL {R:Hp→Prop} {acc:Addr} {lo:Int} {n:Nat} {g:TG} {tt:TT} {te:TE} (Pv:Nat→St→List V→Hp→Prop) (h0:Pv 0 σ [] H)
  (hs:∀ i σ ys H,i < n→Pv i σ ys H→g (.int (lo + i)) σ H fun σ2 H4=>tt σ2 H4 fun b H5=>if b = true then te σ2 H5 fun y H6=>H6 acc = some (.lst ys)∧ys.length < sizeLine∧∃ m',m' < n - i∧(m' = n - (i + 1)∧i + 1≤n∧Pv (i + 1) σ2 (ys ++ [y]) (upd H6 acc (.lst (ys ++ [y])))) else ∃ m',m' < n - i∧(m' = n - (i + 1)∧i + 1≤n∧Pv (i + 1) σ2 ys H5))
  (hd:∀ σ ys H,Pv n σ ys H→R H) :
  ∃ W:Nat→Nat→St→List V→Hp→Prop,(∃ m,W 0 m σ [] H)∧∀ i m σ' ys H2,W i m σ' ys H2→(((um lo n).stop i H2∧R H2)∨((um lo n).go i H2∧∀ x H3,(um lo n).rD i H2 x H3→g x σ' H3 fun σ2 H4=>tt σ2 H4 fun b H5=>
   if b = true then te σ2 H5 fun y H6=>H6 acc = some (.lst ys)∧ys.length < sizeLine∧∃ m',m' < m∧W (i + 1) m' σ2 (ys ++ [y]) (upd H6 acc (.lst (ys ++ [y]))) else ∃ m',m' < m∧W (i + 1) m' σ2 ys H5)):=by
 refine ⟨fun i m σ ys H=>m = n - i∧i≤n∧Pv i σ ys H,⟨n,by simp,Nat.zero_le _,h0⟩,?_⟩
 rintro i m σ ys H ⟨rfl,hi,p⟩
 by_cases dD:i < n
 ·refine .inr ⟨dD,fun x H' y=>?_⟩
  obtain ⟨e,y⟩:=y
  subst e y
  exact hs i σ ys _ dD p
 ·have e:i = n:=by omega
  subst e
  exact .inl ⟨Nat.le_refl _,hd σ ys H p⟩
theorem fG {R:Hp→Prop} {acc a:Addr} {xs:List V} {g:TG} {tt:TT} {te:TE} (Pv:Nat→St→List V→Hp→Prop) (h0:Pv 0 σ [] H) (hl:∀ i σ ys H,i≤xs.length→Pv i σ ys H→aG K H a xs)
  (hs:∀ i x σ ys H,xs[i]? = some x→i < xs.length→Pv i σ ys H→g x σ H fun σ2 H4=>tt σ2 H4 fun b H5=>if b = true then te σ2 H5 fun y H6=>H6 acc = some (.lst ys)∧ys.length < sizeLine∧∃ m',m' < xs.length - i∧(m' = xs.length - (i + 1)∧i + 1≤xs.length∧Pv (i + 1) σ2 (ys ++ [y]) (upd H6 acc (.lst (ys ++ [y])))) else ∃ m',m' < xs.length - i∧(m' = xs.length - (i + 1)∧i + 1≤xs.length∧Pv (i + 1) σ2 ys H5))
  (hd:∀ σ ys H,Pv xs.length σ ys H→R H) :
  ∃ W:Nat→Nat→St→List V→Hp→Prop,(∃ m,W 0 m σ [] H)∧∀ i m σ' ys H2,W i m σ' ys H2→(((vL K a).stop i H2∧R H2)∨((vL K a).go i H2∧∀ x H3,(vL K a).rD i H2 x H3→g x σ' H3 fun σ2 H4=>tt σ2 H4 fun b H5=>
   if b = true then te σ2 H5 fun y H6=>H6 acc = some (.lst ys)∧ys.length < sizeLine∧∃ m',m' < m∧W (i + 1) m' σ2 (ys ++ [y]) (upd H6 acc (.lst (ys ++ [y]))) else ∃ m',m' < m∧W (i + 1) m' σ2 ys H5)):=by
 refine ⟨fun i m σ ys H=>m = xs.length - i∧i≤xs.length∧Pv i σ ys H,⟨xs.length,by simp,Nat.zero_le _,h0⟩,?_⟩
 rintro i m σ ys H ⟨rfl,hi,p⟩
 have q:=hl i σ ys H hi p
 by_cases dD:i < xs.length
 ·refine .inr ⟨⟨xs,xs[i],q,by simp [dD]⟩,fun x H' y=>?_⟩
  obtain ⟨e,y⟩:=y
  subst e
  exact hs i x σ ys _ (y xs q) dD p
 ·have e:i = xs.length:=by omega
  subst e
  exact .inl ⟨⟨xs,q,Nat.le_refl _⟩,hd σ ys H p⟩
theorem dO {wi:TI} {g:TG} {tt:TT} {te:TE} {n:Nat} {fr:List Nat} (h:wi σ H fun J H1=>∀ acc,H1 acc = none→∃ W:Nat→Nat→St→List V→Hp→Prop,(∃ m,W 0 m (fH n fr σ) [] (upd H1 acc (.lst [])))∧
 ∀ i m σ' ys H2,W i m σ' ys H2→((J.stop i H2∧Q (.ref acc) H2)∨(J.go i H2∧∀ x H3,J.rD i H2 x H3→g x σ' H3 fun σ2 H4=>tt σ2 H4 fun b H5=>
  if b = true then te σ2 H5 fun y H6=>H6 acc = some (.lst ys)∧ys.length < sizeLine∧∃ m',m' < m∧W (i + 1) m' σ2 (ys ++ [y]) (upd H6 acc (.lst (ys ++ [y]))) else ∃ m',m' < m∧W (i + 1) m' σ2 ys H5))):oK wi g tt te n fr σ H Q:=h
end
end L2
end
section
namespace Gm
open PySem L2
def put (l:List Int) (k:Nat) (x:Int):List Int:=l.take k ++ x :: l.drop k
theorem dZ (l:List Int) (k:Nat) (x:Int):(put l k x).Perm (x :: l):=by
 unfold put
 refine List.perm_middle.trans ?_
 rw [List.take_append_drop]
theorem bW {l:List Int} {k:Nat} {x y:Int}:y∈put l k x↔y = x∨y∈l:=by rw [(dZ l k x).mem_iff,List.mem_cons]
theorem kj {l:List Int} {k:Nat} {x:Int} (h:x∉l) (n:l.Nodup):(put l k x).Nodup:=(dZ l k x).nodup_iff.mpr (List.nodup_cons.mpr ⟨h,n⟩)
theorem map_put {l:List Int} {k:Nat} {x:Int}:(l.map V.int).take k ++ V.int x :: (l.map V.int).drop k = (put l k x).map V.int:=by simp [put,List.map_take,List.map_drop]
structure aA (L:List (List Int)):Prop where
 nd:∀ (i:Nat) (l:List Int),L[i]? = some l→l.Nodup
 rg:∀ (i:Nat) (l:List Int),L[i]? = some l→∀ x∈l,0≤x∧x < L.length∧x≠i
 sy:∀ (i:Nat) (l:List Int),L[i]? = some l→∀ x∈l,∀ j:Nat,x = j→∀ m,L[j]? = some m→(i:Int)∈m
structure Made (n one other:Nat) (L:List (List Int)):Prop where
 len:L.length = n
 map:aA L
 bd:∀ (i:Nat) (l:List Int),L[i]? = some l→∀ x∈l,(i < one∧x < one)∨(i = one∧x < other)∨(x = one∧i < other)
theorem Made.skip {n one other:Nat} {L:List (List Int)} (h:Made n one other L):Made n one (other + 1) L:=
 ⟨h.len,h.map,fun i l e x hx=>by have:=h.bd i l e x hx; omega⟩
theorem Made.next {n one:Nat} {L:List (List Int)} (h:Made n one one L):Made n (one + 1) 0 L:=
 ⟨h.len,h.map,fun i l e x hx=>by have:=h.bd i l e x hx; omega⟩
theorem Made.start {n:Nat} {L:List (List Int)} (h:L.length = n) (e:∀ (i:Nat) (l:List Int),L[i]? = some l→l = []):Made n 0 0 L:=by
 refine ⟨h,⟨fun i l q=>by rw [e i l q]; exact List.nodup_nil,fun i l q x hx=>?_,fun i l q x hx=>?_⟩,fun i l q x hx=>?_⟩ <;> (rw [e i l q] at hx; cases hx)
theorem nW {L:List (List Int)} {a b i:Nat} {x y l:List Int} (h:((L.set a x).set b y)[i]? = some l):(i = b∧l = y)∨(i≠b∧i = a∧l = x)∨(i≠b∧i≠a∧L[i]? = some l):=by
 by_cases hb:i = b
 ·subst hb
  rw [List.getElem?_set] at h
  rw [if_pos rfl] at h
  split at h
  ·exact .inl ⟨rfl,(Option.some.inj h).symm⟩
  ·cases h
 ·rw [List.getElem?_set_ne (fun z=>hb z.symm)] at h
  by_cases ha:i = a
  ·subst ha
   rw [List.getElem?_set,if_pos rfl] at h
   split at h
   ·exact .inr (.inl ⟨hb,rfl,(Option.some.inj h).symm⟩)
   ·cases h
  ·rw [List.getElem?_set_ne (fun z=>ha z.symm)] at h
   exact .inr (.inr ⟨hb,ha,h⟩)
theorem Made.step {n one other k1 k2:Nat} {L:List (List Int)} {l1 l2:List Int} (h:Made n one other L) (ho:other < one) (hn:one < n) (e1:L[one]? = some l1) (e2:L[other]? = some l2) :
  Made n one (other + 1) ((L.set one (put l1 k1 other)).set other (put l2 k2 one)):=by
 have n1:(other:Int)∉l1:=fun z=>by have:=h.bd _ _ e1 _ z; omega
 have n2:(one:Int)∉l2:=fun z=>by have:=h.bd _ _ e2 _ z; omega
 have hl:=h.len
 refine ⟨by rw [List.length_set,List.length_set]; exact hl,⟨fun i l e=>?_,fun i l e x hx=>?_,fun i l e x hx j hj m em=>?_⟩,fun i l e x hx=>?_⟩
 ·rcases nW e with ⟨_,rfl⟩ | ⟨_,_,rfl⟩ | ⟨_,_,q⟩
  ·exact kj n2 (h.map.nd _ _ e2)
  ·exact kj n1 (h.map.nd _ _ e1)
  ·exact h.map.nd _ _ q
 ·rw [List.length_set,List.length_set]
  rcases nW e with ⟨rfl,rfl⟩ | ⟨_,rfl,rfl⟩ | ⟨_,_,q⟩
  ·rcases bW.mp hx with z | z
   ·omega
   ·exact h.map.rg _ _ e2 _ z
  ·rcases bW.mp hx with z | z
   ·omega
   ·exact h.map.rg _ _ e1 _ z
  ·exact h.map.rg _ _ q _ hx
 ·rcases nW e with ⟨rfl,rfl⟩ | ⟨hb,rfl,rfl⟩ | ⟨hb,ha,q⟩
  ·rcases nW em with ⟨rfl,rfl⟩ | ⟨jb,rfl,rfl⟩ | ⟨jb,ja,qm⟩
   ·rcases bW.mp hx with z | z
    ·omega
    ·have:=h.map.rg _ _ e2 _ z; omega
   ·exact bW.mpr (.inl rfl)
   ·rcases bW.mp hx with z | z
    ·omega
    ·exact h.map.sy _ _ e2 _ z _ hj _ qm
  ·rcases nW em with ⟨rfl,rfl⟩ | ⟨jb,rfl,rfl⟩ | ⟨jb,ja,qm⟩
   ·exact bW.mpr (.inl rfl)
   ·rcases bW.mp hx with z | z
    ·omega
    ·have:=h.map.rg _ _ e1 _ z; omega
   ·rcases bW.mp hx with z | z
    ·omega
    ·exact h.map.sy _ _ e1 _ z _ hj _ qm
  ·rcases nW em with ⟨rfl,rfl⟩ | ⟨jb,rfl,rfl⟩ | ⟨jb,ja,qm⟩
   ·exact bW.mpr (.inr (h.map.sy _ _ q _ hx _ hj _ e2))
   ·exact bW.mpr (.inr (h.map.sy _ _ q _ hx _ hj _ e1))
   ·exact h.map.sy _ _ q _ hx _ hj _ qm
 ·rcases nW e with ⟨rfl,rfl⟩ | ⟨_,rfl,rfl⟩ | ⟨_,_,q⟩
  ·rcases bW.mp hx with z | z
   ·omega
   ·have:=h.bd _ _ e2 _ z; omega
  ·rcases bW.mp hx with z | z
   ·omega
   ·have:=h.bd _ _ e1 _ z; omega
  ·have:=h.bd _ _ q _ hx; omega
structure aU (H:Hp) (p:Addr) (as:List Addr) (L:List (List Int)):Prop where
 top:H p = some (.lst (as.map V.ref))
 len:as.length = L.length
 row:∀ (i:Nat) (a:Addr) (l:List Int),as[i]? = some a→L[i]? = some l→H a = some (.lst (l.map V.int))
section
variable {H H':Hp} {p:Addr} {as:List Addr} {L:List (List Int)}
theorem aU.at (g:aU H p as L) {i:Nat} (hi:i < L.length):∃ a l,as[i]? = some a∧L[i]? = some l∧H a = some (.lst (l.map V.int)):=by
 have h2:i < as.length:=by rw [g.len]; exact hi
 exact ⟨as[i],L[i],by simp [h2],by simp [hi],g.row i _ _ (by simp [h2]) (by simp [hi])⟩
theorem aU.same (g:aU H p as L) (e:ak H H'):aU H' p as L:=⟨e _ _ g.top,g.len,fun i a l h1 h2=>e _ _ (g.row i a l h1 h2)⟩
theorem aU.set (g:aU H p as L) (nd:(p :: as).Nodup) {i:Nat} {a:Addr} {l':List Int} (hi:as[i]? = some a):aU (upd H a (.lst (l'.map V.int))) p as (L.set i l'):=by
 have hp:p≠a:=fun z=>(List.nodup_cons.mp nd).1 (z▸List.mem_of_getElem? hi)
 refine ⟨by rw [ai hp]; exact g.top,by rw [List.length_set]; exact g.len,fun j b l h1 h2=>?_⟩
 by_cases hj:j = i
 ·subst hj
  rw [hi] at h1
  cases h1
  rw [List.getElem?_set,if_pos rfl] at h2
  split at h2
  ·cases h2; exact af
  ·cases h2
 ·rw [List.getElem?_set_ne (fun z=>hj z.symm)] at h2
  have hb:b≠a:=fun z=>by
   subst z
   obtain ⟨q1,w1⟩:=List.getElem?_eq_some_iff.mp h1
   obtain ⟨q2,w2⟩:=List.getElem?_eq_some_iff.mp hi
   exact hj ((List.getElem_inj (List.nodup_cons.mp nd).2).mp (w1.trans w2.symm))
  rw [ai hb]
  exact g.row j b l h1 h2
theorem aU.ix (g:aU H p as L) {i:Nat} {a:Addr} (hi:as[i]? = some a):jz (as.map V.ref) (i:Int) = some (V.ref a):=iJ (by rw [List.getElem?_map,hi]; rfl)
end
theorem ak.fresh {H H':Hp} {a:Addr} {o:HO} (e:ak H H') (h:H a = none):ak H (upd H' a o):=fun b u q=>by rw [ai (fun z=>by rw [z,h] at q; cases q)]; exact e b u q
inductive Reach (L:List (List Int)) (s:Int):Int→Prop where
 | here:Reach L s s
 | step {i:Nat} {l:List Int} {x:Int}:Reach L s i→L[i]? = some l→x∈l→Reach L s x
theorem eB {α : Type} [BEq α] [LawfulBEq α]:∀ {l r:List α},l.Nodup→(∀ x∈l,x∈r)→l.length≤r.length
 | [],_,_,_=>Nat.zero_le _
 | x :: l,r,n,h=>by
  have hx:x∈r:=h x List.mem_cons_self
  have n2:=List.nodup_cons.mp n
  have ih:=eB (r:=r.erase x) n2.2 fun y hy=>by
   have ne:y≠x:=fun z=>n2.1 (z▸hy)
   exact (List.mem_erase_of_ne ne).mpr (h y (List.mem_cons_of_mem _ hy))
  rw [List.length_erase_of_mem hx] at ih
  have:=List.length_pos_of_mem hx
  rw [List.length_cons]; omega
theorem cx {n:Nat} {l:List Int} (h:l.Nodup) (r:∀ x∈l,0≤x∧x < n):l.length≤n:=by
 have:=eB (r:=(List.range n).map fun i:Nat=>(i:Int)) h fun x hx=>by
  have:=r x hx
  exact List.mem_map.mpr ⟨x.toNat,List.mem_range.mpr (by omega),by omega⟩
 simpa using this
theorem len_eq {α : Type} [BEq α] [LawfulBEq α] {l r:List α} (h1:l.Nodup) (h2:r.Nodup) (h:∀ x,x∈l↔x∈r):l.length = r.length:=
 Nat.le_antisymm (eB h1 fun x=>(h x).mp) (eB h2 fun x=>(h x).mpr)
end Gm
namespace Gm
open PySem L2
theorem Made.small {n i j:Nat} {L:List (List Int)} (m:Made n i j L) {k:Nat} {l:List Int} (h:L[k]? = some l):l.length≤n:=
 cx (m.map.nd _ _ h) fun x hx=>by have:=m.map.rg _ _ h _ hx; have:=m.len; omega
theorem az {n:Nat} (h:n≤1000):n < sizeLine:=by rw [PySem.sizeLine_eq]; omega
end Gm
end
section
namespace Gm
open PySem L2
def jG (i:Nat) (l:List Int):Nat→List Int
 | 0=>[]
 | j + 1=>jG i l j ++ (if ((i + 1 + j:Nat):Int)∈l then [((i + 1 + j:Nat):Int)] else [])
def cT (L:List (List Int)):Nat→List (Int×Int)
 | 0=>[]
 | k + 1=>cT L k ++ (jG k (L.getD k []) (L.length - (k + 1))).map fun x=>((k:Int),x)
theorem eT {i:Nat} {l:List Int}:∀ {j:Nat} {x:Int},x∈jG i l j↔(i:Int) < x∧x < (i + 1 + j:Nat)∧x∈l
 | 0,x=>by simp only [jG,List.not_mem_nil,false_iff]; intro h; omega
 | j + 1,x=>by
  rw [jG,List.mem_append,eT]
  by_cases h:((i + 1 + j:Nat):Int)∈l
  ·rw [if_pos h,List.mem_singleton]
   constructor
   ·rintro (⟨h1,h2,h3⟩ | rfl)
    ·exact ⟨h1,by omega,h3⟩
    ·exact ⟨by omega,by omega,h⟩
   ·rintro ⟨h1,h2,h3⟩
    by_cases e:x = ((i + 1 + j:Nat):Int)
    ·exact .inr e
    ·exact .inl ⟨h1,by omega,h3⟩
  ·rw [if_neg h]
   simp only [List.not_mem_nil,or_false]
   constructor
   ·rintro ⟨h1,h2,h3⟩
    exact ⟨h1,by omega,h3⟩
   ·rintro ⟨h1,h2,h3⟩
    have:x≠((i + 1 + j:Nat):Int):=fun z=>h (z▸h3)
    exact ⟨h1,by omega,h3⟩
theorem eK {i:Nat} {l:List Int}:∀ j,(jG i l j).Pairwise (· < ·)
 | 0=>.nil
 | j + 1=>by
  rw [jG,List.pairwise_append]
  refine ⟨eK j,by split <;> simp,fun a ha b hb=>?_⟩
  have:=eT.mp ha
  split at hb
  ·rw [List.mem_singleton] at hb; omega
  ·cases hb
theorem iQ:∀ {l r:List Int},l.Pairwise (· < ·)→r.Pairwise (· < ·)→(∀ x,x∈l↔x∈r)→l = r
 | [],[],_,_,_=>rfl
 | [],b :: r,_,_,h=>absurd ((h b).mpr List.mem_cons_self) (by simp)
 | a :: l,[],_,_,h=>absurd ((h a).mp List.mem_cons_self) (by simp)
 | a :: l,b :: r,hl,hr,h=>by
  obtain ⟨l1,l2⟩:=List.pairwise_cons.mp hl
  obtain ⟨r1,r2⟩:=List.pairwise_cons.mp hr
  have e:a = b:=by
   rcases List.mem_cons.mp ((h a).mp List.mem_cons_self) with z | z
   ·exact z
   ·rcases List.mem_cons.mp ((h b).mpr List.mem_cons_self) with y | y
    ·exact y.symm
    ·have:=r1 a z; have:=l1 b y; omega
  subst e
  rw [iQ l2 r2 fun x=>?_]
  constructor
  ·intro z
   rcases List.mem_cons.mp ((h x).mp (List.mem_cons_of_mem _ z)) with y | y
   ·have:=l1 x z; omega
   ·exact y
  ·intro z
   rcases List.mem_cons.mp ((h x).mpr (List.mem_cons_of_mem _ z)) with y | y
   ·have:=r1 x z; omega
   ·exact y
theorem strict {l:List Int} (h:l.Pairwise (·≤·)) (n:l.Nodup):l.Pairwise (· < ·):=by
 have:=h.and n
 exact this.imp fun ⟨x,y⟩=>by omega
theorem xy {i n:Nat} {l s:List Int} (p:s.Perm l) (h:s.Pairwise (·≤·)) (n1:l.Nodup) (r:∀ x∈l,x < n) (hi:i < n):s.filter (fun x=>decide ((i:Int) < x)) = jG i l (n - (i + 1)):=by
 refine iQ ((strict h (p.nodup_iff.mpr n1)).filter _) (eK _) fun x=>?_
 rw [List.mem_filter,eT,p.mem_iff]
 simp only [decide_eq_true_eq]
 constructor
 ·rintro ⟨h1,h2⟩
  have:=r x h1
  exact ⟨h2,by omega,h1⟩
 ·rintro ⟨h1,h2,h3⟩
  exact ⟨h3,h1⟩
theorem nh {i:Nat} {l:List Int}:∀ j,(jG i l j).length≤j
 | 0=>Nat.le_refl _
 | j + 1=>by
  rw [jG,List.length_append]
  have:=nh (i:=i) (l:=l) j
  split <;> simp <;> omega
theorem ni {L:List (List Int)}:∀ k,(cT L k).length≤k * L.length
 | 0=>Nat.zero_le _
 | k + 1=>by
  rw [cT,List.length_append,List.length_map]
  have:=ni (L:=L) k
  have:=nh (i:=k) (l:=L.getD k []) (L.length - (k + 1))
  rw [Nat.succ_mul]; omega
abbrev PR (H:Hp):List Addr→List (Int×Int)→Prop:=Paired fun a x=>H a = some (.tup [.int x.1,.int x.2])
theorem PR.lst {H:Hp} {t:Addr} {xs zs:List V} {ps:List Addr} {T:List (Int×Int)} (h:PR H ps T) (ht:H t = some (.lst xs)):PR (upd H t (.lst zs)) ps T:=
 Paired.qF h fun a x e=>by
  rw [ai (fun z=>by rw [z,ht] at e; cases e)]; exact e
theorem PR.same {H H':Hp} {ps:List Addr} {T:List (Int×Int)} (h:PR H ps T) (e:ak H H'):PR H' ps T:=Paired.qF h fun a x q=>e _ _ q
theorem PR.app {H:Hp}:∀ {ps qs:List Addr} {T U:List (Int×Int)},PR H ps T→PR H qs U→PR H (ps ++ qs) (T ++ U)
 | _,_,_,_,.nil,h=>h
 | _,_,_,_,.cons r t,h=>.cons r (PR.app t h)
theorem PR.len {H:Hp} {ps:List Addr} {T:List (Int×Int)} (h:PR H ps T):ps.length = T.length:=Paired.length h
end Gm
end
section
namespace Gm
open PySem L2
structure Fl (L:List (List Int)) (s:Int) (ks ws:List Int):Prop where
 nd:ks.Nodup
 nw:ws.Nodup
 st:s∈ks
 re:∀ x∈ks,Reach L s x
 sub:∀ x∈ws,x∈ks
 cl:∀ (i:Nat) (l:List Int),(i:Int)∈ks→(i:Int)∉ws→L[i]? = some l→∀ x∈l,x∈ks
structure Fi (L:List (List Int)) (s:Int) (ks ws:List Int) (pl:Nat) (l:List Int) (k:Nat):Prop where
 nd:ks.Nodup
 nw:ws.Nodup
 st:s∈ks
 re:∀ x∈ks,Reach L s x
 sub:∀ x∈ws,x∈ks
 pk:(pl:Int)∈ks
 cl:∀ (i:Nat) (m:List Int),(i:Int)∈ks→(i:Int)∉ws→i≠pl→L[i]? = some m→∀ x∈m,x∈ks
 tk:∀ x∈l.take k,x∈ks
section
variable {L:List (List Int)} {s:Int} {ks ws:List Int} {pl k:Nat} {l:List Int} {x:Int}
theorem kW {l:List Int} {x:Int}:(l ++ [x]).Nodup↔x∉l∧l.Nodup:=by
 rw [(List.perm_append_singleton x l).nodup_iff,List.nodup_cons]
theorem mB {l:List Int} {k:Nat} {x y:Int} (h:l[k]? = some x) (hy:y∈l.take (k + 1)):y∈l.take k∨y = x:=by
 rw [List.take_succ,h] at hy
 simpa using hy
theorem iL:∀ (ks:List Int) (x:Int),(dC (ks.map fun x=>((Sum.inl x:Key),V.bl true)) (.inl x)).isSome = decide (x∈ks)
 | [],x=>rfl
 | y :: ks,x=>by
  rw [List.map_cons]
  by_cases e:y = x
  ·subst e
   rw [dS rfl]
   simp
  ·rw [dU (fun z=>e (Sum.inl.inj z)),iL ks x]
   have e':¬ x = y:=fun z=>e z.symm
   simp [e']
theorem sj {ks:List Int} {x:Int} (h:x∉ks):putK (ks.map fun x=>((Sum.inl x:Key),V.bl true)) (.inl x) (.bl true) = (ks ++ [x]).map fun x=>((Sum.inl x:Key),V.bl true):=by
 rw [iY,List.map_append]
 ·rfl
 ·have:=iL ks x
  rw [decide_eq_false h] at this
  exact Option.isNone_iff_eq_none.mp (by rw [← Option.not_isSome,this]; rfl)
end
def Jh (L:List (List Int)) (fs:List Int):Prop:=∀ (i:Nat) (l:List Int),L[i]? = some l→(∃ x,x∈l∧x∈fs)→(i:Int)∈fs
structure Pa (L:List (List Int)) (fs:List Int) (k:Nat):Prop where
 nd:fs.Nodup
 st:(0:Int)∈fs
 re:∀ x∈fs,Reach L 0 x
 gr:Jh L fs∨k + 1≤fs.length
structure Pi (L:List (List Int)) (vv fs:List Int) (j:Nat):Prop where
 nd:fs.Nodup
 st:(0:Int)∈fs
 re:∀ x∈fs,Reach L 0 x
 kp:Jh L vv→fs = vv
 gr:vv.length < fs.length∨(fs = vv∧∀ (i:Nat) (l:List Int),i < j→L[i]? = some l→(∃ x,x∈l∧x∈fs)→(i:Int)∈fs)
end Gm
namespace Gm
open PySem L2
end Gm
end
section
namespace L2
open PySem PySem.Spec PySem.W PySem.Calls PyProof.Rows
section
variable {X:Cx} {K:Frag}
theorem jH (h:X.K = K):jA X (compareOp .NotIn) (B7 K true):=h▸df
theorem tj (h:X.K = K):CY X (uO K):=h▸aH
end
end L2
end
section
namespace L2
open PySem PySem.Spec PySem.W PySem.Calls PyProof.Rows HT
section
open PySem.SeqAt
open PySem.AutoSeq1 (wpAny_loadPart')
open PySem.MeetsSeq PySem.MeetsSeq2 PySem.MeetsSeq3
theorem vf {vs:List Value} {ns:List Int} (h:IntsAre vs ns) {i:Nat} (hi:i < ns.length):∃ t,vs[i]? = some (.int ns[i] t):=by
 induction h generalizing i with
 | nil=>simp at hi
 | cons a t r ih=>
  cases i with
  | zero=>exact ⟨t,rfl⟩
  | succ i=>
   obtain ⟨u,hu⟩:=ih (i:=i) (by simpa using hi)
   exact ⟨u,by simpa using hu⟩
end
end L2
end
section
namespace L2
open PySem PySem.Spec PySem.W PySem.Calls PyProof.Rows HT
def Kk (K:Frag):R2:=fun x y H Q=>∃ (a b:Addr) (ns ms:List Int),x = .ref a∧y = .ref b∧aG K H a (ns.map V.int)∧aG K H b (ms.map V.int)∧Q (.bl (lexLt ns ms)) H
def Le (a b:List Int):Prop:=lexLt b a = false
end L2
end
section
namespace L2
open PySem PySem.Spec PySem.W PySem.Calls PyProof.Rows
section
variable {cmp:Nat→Nat→(Bool→Shared→Prop)→Shared→Prop} {n:Nat} {f:Nat→List Int} {s:Shared}
def Ox (cmp:Nat→Nat→(Bool→Shared→Prop)→Shared→Prop) (n:Nat) (f:Nat→List Int) (s:Shared):Prop:=∀ i j C,i < n→j < n→C (HT.lexLt (f i) (f j)) s→cmp i j C s
structure Arr (n:Nat) (p:Array Nat):Prop where
 size:p.size = n
 perm:p.Perm (List.toArray (List.range n))
def kf (f:Nat→List Int) (p:Array Nat) (i:Nat):List Int:=f (p.getD i 0)
def Up (f:Nat→List Int) (p:Array Nat) (m:Nat):Prop:=∀ i,i + 1 < m→Le (kf f p i) (kf f p (i + 1))
def Dn (f:Nat→List Int) (p:Array Nat) (m:Nat):Prop:=∀ i,i + 1 < m→Le (kf f p (i + 1)) (kf f p i)
def Flt (f:Nat→List Int) (p:Array Nat) (m q:Nat):Prop:=∀ i,m - (q + 1)≤i→i < m→kf f p i = kf f p (m - 1)
end
end L2
end
section
namespace L2
open PySem PySem.Spec PySem.W PySem.Calls PyProof.Rows
def G5 (h:Heap) (vs:List Value) (f:Nat→List Int):Prop:=∀ i,i < vs.length→∃ b us,vs[i]? = some (.ref b)∧h.IsList b us∧IntsAre us.toList (f i)
def HH (vs:List Value) (p:Array Nat):Array Value:=List.toArray (p.toList.map fun i=>vs.getD i Value.none)
def Lu (h:Heap) (a:Addr) (vs:List Value):Heap:=((h.update a (Obj.mapSeq fun _=>#[])).push (seqObj "tuple" vs.toArray 0)).push (seqObj "list" #[] 0)
end L2
end
section
namespace L2
open PySem PySem.Spec PySem.W PySem.Calls PyProof.Rows
section
variable {prog:Program} {w:World} {A:Around} {R:Result→Shared→Prop} {I:Addr} {fp wr:List Addr} {n:Nat} {P:Nat→Value→Prop} {St:Nat→Heap→Prop} {Kp:Heap→Prop} {bt:Nat→Nat→Bool} {S:Addr}
def Jg (prog:Program) (w:World) (A:Around) (P:Nat→Value→Prop) (Kp:Heap→Prop) (bt:Nat→Nat→Bool):Prop:=
 ∀ (i j:Nat) (x y:Value) (t:Shared) (Q E:Value→Shared→Prop),P i x→P j y→Kp t.heap→Q (.bool (bt i j)) t→wpAny (model prog w) A (richCompare .Lt x y) Q E t
end
theorem ky:∀ (l:List Int) (y:Int) (m:Nat) (h:m < l.length),m < l.idxOf y→l[m]≠y
 | [],_,m,h,_=>by simp at h
 | z :: l,y,m,h,hm=>by
  rw [List.idxOf_cons] at hm
  by_cases e:z = y
  ·rw [e] at hm; simp at hm
  ·have e2:(z == y) = false:=beq_false_of_ne e
   rw [e2] at hm
   cases m with
   | zero=>exact e
   | succ m=>
    have h2:m < l.length:=by simpa using h
    have h3:m < l.idxOf y:=by simpa using hm
    exact ky l y m h2 h3
section
variable {X:Cx}
def pick {α : Type} (d : α) (L:List α) (p:Array Nat):List α:=p.toList.map fun i=>L.getD i d
def Aa (K:Frag):List V→Hp→VK→Prop:=fun vs H Q=>∃ (a:Addr) (as:List Addr) (L:List (List Int)),vs = [.ref a]∧aG K H a (as.map V.ref)∧as.length = L.length∧(∀ (i:Nat) (b:Addr) (l:List Int),as[i]? = some b→L[i]? = some l→aG K H b (l.map V.int))∧as.length < 64∧
 ∀ (p:Array Nat) (q:Addr),Arr L.length p→Up (fun i=>L.getD i []) p L.length→H q = none→Q (.ref q) (upd H q (.lst ((pick 0 as p).map V.ref)))
def HD (K:Frag):List V→Hp→VK→Prop:=fun vs H Q=>∃ (a:Addr) (as:List Addr) (L:List (List Int)),vs = [.ref a]∧aG K H a (as.map V.ref)∧as.length = L.length∧(∀ (i:Nat) (b:Addr) (l:List Int),as[i]? = some b→L[i]? = some l→aG K H b (l.map V.int))∧0 < as.length∧
 ∀ (i:Nat) (b:Addr) (l:List Int),as[i]? = some b→L[i]? = some l→(∀ m∈L,Le l m)→Q (.ref b) H
def HE (K:Frag):List V→Hp→VK→Prop:=fun vs H Q=>∃ (a:Addr) (ns:List Int),vs = [.ref a]∧aG K H a (ns.map V.int)∧ns≠[]∧∀ m,m∈ns→(∀ x∈ns,m≤x)→Q (.int m) H
def Ke (K:Frag):List V→Hp→VK→Prop:=fun vs H Q=>∃ (a:Addr) (ns:List Int),vs = [.ref a]∧aG K H a (ns.map V.int)∧ns.length≤1000∧(∀ x∈ns,0≤x∧x≤100000)∧Q (.int ns.sum) H
def xG (K:Frag):V→List V→Hp→VK→Prop:=fun x vs H Q=>∃ (l:Addr) (ns:List Int) (y:Int),x = .ref l∧vs = [.int y]∧H l = some (.lst (ns.map V.int))∧y∈ns∧Q (.int (ns.idxOf y:Nat)) H
theorem gD:zq X "list.index" (xG X.K):=by
 intro pins s σ H x vs v us Q I rx rv h
 obtain ⟨l,ns,y,rfl,rfl,hH,hy,q⟩:=h
 cases rx
 obtain ⟨u,rfl,t,rfl⟩:=rv.one
 obtain ⟨z,aL,n,r,hl,e⟩:=I.lU hH
 have hi:IntsAre aL ns:=intsAre_of r
 have zl:=hi.length
 have MQ:=gS
 have hj:ns.idxOf y < ns.length:=List.idxOf_lt_length_of_mem hy
 rw [List.length_map] at z
 let ev:Value→Bool:=fun v=>match v with | .int i _=>i == y | _=>false
 have at_:∀ m (hm:m < ns.length),∃ t,aL[m]? = some (.int ns[m] t):=fun m hm=>vf hi hm
 refine call_meets F.slot_list_index ⟨_,e,rfl⟩ F.entry_list_index (F.args_list_index_2 _ _) (SeqAt.list_indexAt l aL.toArray n none #[] (.int y t) ev (ns.idxOf y) (by rw [List.size_toArray]; omega) (by omega) ?_ ?_) ⟨e,?_,?_⟩
 ·obtain ⟨t1,e1⟩:=at_ _ hj
  have:aL.toArray[ns.idxOf y]'(by rw [List.size_toArray]; omega) = .int ns[ns.idxOf y] t1:=by
   have:=(List.getElem?_eq_some_iff.mp e1).2
   simpa using this
  rw [this]
  show (ns[ns.idxOf y] == y) = true
  rw [List.getElem_idxOf hj]
  simp
 ·intro m hm dD
  obtain ⟨t1,e1⟩:=at_ m (by omega)
  have:aL.toArray[m] = .int (ns[m]'(by omega)) t1:=by
   have:=(List.getElem?_eq_some_iff.mp e1).2
   simpa using this
  rw [this]
  show (ns[m]'(by omega) == y) = false
  exact beq_false_of_ne (ky ns y m (by omega) dD)
 ·intro w hw
  have L5:w∈aL:=by simpa using hw
  obtain ⟨m,hm,rfl⟩:=List.mem_iff_getElem.mp L5
  obtain ⟨t1,e1⟩:=at_ m (by omega)
  rw [(List.getElem?_eq_some_iff.mp e1).2]
  exact SeqAt.EqAt.int_int _ _ _ _
 ·exact ⟨.int (ns.idxOf y:Nat),H,I.tok _,⟨_,rfl⟩,q⟩
end
end L2
end
section
namespace Gm
open PySem L2
def cy (r:List Int) (j:Nat):Int:=r.getD (j % r.length) 0
theorem ff {r:List Int} {i j:Nat} (h:i % r.length = j % r.length):cy r i = cy r j:=by unfold cy; rw [h]
theorem nI {r:List Int} {j:Nat} (h:j < r.length):cy r j = r[j]:=by unfold cy; rw [Nat.mod_eq_of_lt h]; simp [h]
theorem yK {r:List Int} {j:Nat} (h:0 < r.length):cy r j∈r:=by
 have hm:=Nat.mod_lt j h
 have:cy r j = r[j % r.length]:=by unfold cy; simp [hm]
 rw [this]; exact List.getElem_mem _
theorem fg {r:List Int} {i:Int} {j:Nat} (h1 : -(r.length:Int)≤i) (h2:i < r.length) (e:(j:Int) = i∨(j:Int) = i + r.length):jz (r.map V.int) i = some (V.int (cy r j)):=by
 unfold jz ui
 rw [List.length_map]
 by_cases h0:0≤i
 ·rw [if_pos h0,if_pos h2]
  have hi:i.toNat < r.length:=by omega
  have em:j % r.length = i.toNat:=by
   rcases e with e | e
   ·rw [Nat.mod_eq_of_lt (by omega)]; omega
   ·have:j = i.toNat + r.length:=by omega
    rw [this,Nat.add_mod_right,Nat.mod_eq_of_lt hi]
  show (r.map V.int)[i.toNat]? = _
  unfold cy
  rw [em]
  simp [hi]
 ·rw [if_neg h0,if_pos h1]
  have hj:(i + (r.length:Int)).toNat = j:=by omega
  have hl:j < r.length:=by omega
  show (r.map V.int)[(i + (r.length:Int)).toNat]? = _
  rw [hj,nI hl]
  simp [hl]
def B1 (r:List Int) (k:Nat):List Int:=r.drop k ++ r.take k
abbrev au:=Int×Int
def rowOf (L:List (List Int)) (a:Int):List Int:=L.getD a.toNat []
def pre (l:List Int) (x:Int):Int:=cy l (l.idxOf x + l.length - 1)
structure Dt (L:List (List Int)) (d:au):Prop where
 lo:0≤d.1
 hi:d.1 < L.length
 mem:d.2∈rowOf L d.1
def nx (L:List (List Int)) (d:au):au:=(d.2,pre (rowOf L d.2) d.1)
theorem aD {L:List (List Int)} {a:Int} (h0:0≤a) (h1:a < L.length):L[a.toNat]? = some (rowOf L a):=by
 unfold rowOf
 have:a.toNat < L.length:=by omega
 simp [this]
theorem uS {l:List Int} {x:Int} (h:x∈l):pre l x∈l:=yK (List.length_pos_of_mem h)
theorem md {i n:Nat} (h:i < n):(i + n - 1) % n = if i = 0 then n - 1 else i - 1:=by
 by_cases e:i = 0
 ·rw [if_pos e,e,Nat.zero_add,Nat.mod_eq_of_lt (by omega)]
 ·rw [if_neg e]
  have:i + n - 1 = (i - 1) + n:=by omega
  rw [this,Nat.add_mod_right,Nat.mod_eq_of_lt (by omega)]
theorem uT {l:List Int} {x y:Int} (n:l.Nodup) (hx:x∈l) (hy:y∈l) (h:pre l x = pre l y):x = y:=by
 have ix:=List.idxOf_lt_length_of_mem hx
 have iy:=List.idxOf_lt_length_of_mem hy
 have p0:0 < l.length:=by omega
 unfold pre cy at h
 have mx:=Nat.mod_lt (l.idxOf x + l.length - 1) p0
 have my:=Nat.mod_lt (l.idxOf y + l.length - 1) p0
 have e1:l.getD ((l.idxOf x + l.length - 1) % l.length) 0 = l[(l.idxOf x + l.length - 1) % l.length]:=by simp [mx]
 have e2:l.getD ((l.idxOf y + l.length - 1) % l.length) 0 = l[(l.idxOf y + l.length - 1) % l.length]:=by simp [my]
 rw [e1,e2] at h
 have e:=(List.getElem_inj n).mp h
 rw [md ix,md iy] at e
 have ei:l.idxOf x = l.idxOf y:=by split at e <;> split at e <;> omega
 have g1:=List.getElem_idxOf ix
 have g2:=List.getElem_idxOf iy
 rw [← g1,← g2]
 congr 1
theorem vC {l:List Int} {x:Int} (h:x∈l):jz (l.map V.int) ((l.idxOf x:Int) - 1) = some (V.int (pre l x)):=by
 have ix:=List.idxOf_lt_length_of_mem h
 exact fg (by omega) (by omega) (.inr (by omega))
section
variable {L:List (List Int)} {d e:au}
theorem Dt.back (h:Dt L d) (m:aA L):0≤d.2∧d.2 < L.length∧d.2≠d.1∧d.1∈rowOf L d.2:=by
 have r:=aD h.lo h.hi
 have g:=m.rg _ _ r _ h.mem
 have e1:((d.1.toNat:Nat):Int) = d.1:=Int.toNat_of_nonneg h.lo
 refine ⟨g.1,g.2.1,by rw [e1] at g; exact g.2.2,?_⟩
 have:=m.sy _ _ r _ h.mem d.2.toNat (by omega) _ (aD g.1 g.2.1)
 rwa [e1] at this
theorem Dt.nx (h:Dt L d) (m:aA L):Dt L (nx L d):=by
 obtain ⟨a,b,c,f⟩:=h.back m
 exact ⟨a,b,uS f⟩
theorem cA (m:aA L) (h1:Dt L d) (h2:Dt L e) (h:Gm.nx L d = Gm.nx L e):d = e:=by
 obtain ⟨a,b,c,f⟩:=h1.back m
 obtain ⟨a',b',c',f'⟩:=h2.back m
 unfold Gm.nx at h
 have e2:d.2 = e.2:=congrArg Prod.fst h
 have e3:pre (rowOf L d.2) d.1 = pre (rowOf L e.2) e.1:=congrArg Prod.snd h
 rw [← e2] at e3 f'
 exact Prod.ext (uT (m.nd _ _ (aD a b)) f f' e3) e2
def dE (L:List (List Int)):Nat→List au
 | 0=>[]
 | k + 1=>dE L k ++ (rowOf L k).map fun x=>((k:Int),x)
theorem iC:∀ {k:Nat},d∈dE L k↔0≤d.1∧d.1 < k∧d.2∈rowOf L d.1
 | 0=>by simp only [dE,List.not_mem_nil,false_iff]; intro h; omega
 | k + 1=>by
  rw [dE,List.mem_append,iC,List.mem_map]
  constructor
  ·rintro (⟨h1,h2,h3⟩ | ⟨x,hx,rfl⟩)
   ·exact ⟨h1,by omega,h3⟩
   ·exact ⟨by simp,by simp; omega,hx⟩
  ·rintro ⟨h1,h2,h3⟩
   by_cases e:d.1 = k
   ·right
    rw [e] at h3
    exact ⟨d.2,h3,Prod.ext e.symm rfl⟩
   ·left; exact ⟨h1,by omega,h3⟩
theorem cF (m:aA L):∀ {k:Nat},k≤L.length→(dE L k).Nodup
 | 0,_=>.nil
 | k + 1,h=>by
  rw [dE,List.nodup_append]
  refine ⟨cF m (by omega),?_,fun a ha b hb z=>?_⟩
  ·have n:=m.nd _ _ (aD (L:=L) (a:=(k:Int)) (by omega) (by omega))
   exact List.Pairwise.map _ (fun x y pU z=>pU (congrArg Prod.snd z)) n
  ·have:=(iC.mp ha).2.1
   obtain ⟨x,_,rfl⟩:=List.mem_map.mp hb
   rw [z] at this
   simp at this
theorem Dt.all (h:Dt L d):d∈dE L L.length:=iC.mpr ⟨h.lo,h.hi,h.mem⟩
theorem Dt.of (h:d∈dE L L.length):Dt L d:=by have:=iC.mp h; exact ⟨this.1,this.2.1,this.2.2⟩
def it (L:List (List Int)) (d:au):Nat→au
 | 0=>d
 | k + 1=>Gm.nx L (it L d k)
theorem ji (m:aA L) (h:Dt L d):∀ k,Dt L (it L d k)
 | 0=>h
 | k + 1=>(ji m h k).nx m
theorem lW (i:Nat):∀ k,it L d (i + k) = it L (it L d i) k
 | 0=>rfl
 | k + 1=>by show Gm.nx L (it L d (i + k)) = Gm.nx L (it L (it L d i) k); rw [lW i k]
theorem pR (m:aA L) (h:Dt L d) {k:Nat}:∀ i,it L d i = it L d (i + k)→it L d k = d
 | 0,e=>by rw [Nat.zero_add] at e; exact e.symm
 | i + 1,e=>by
  rw [Nat.add_right_comm] at e
  exact pR m h i (cA m (ji m h _) (ji m h _) e)
def kL (L:List (List Int)) (d:au) (k:Nat):Prop:=∀ i,0 < i→i < k→it L d i≠d
def tr (L:List (List Int)) (d:au) (k:Nat):List au:=(List.range k).map (it L d)
theorem iN (m:aA L) (h:Dt L d) {k:Nat} (n:kL L d k):(tr L d k).Nodup:=by
 unfold tr
 refine List.Pairwise.map _ (R:=fun a b=>a < b∧a < k∧b < k) (fun a b Iy z=>?_) ?_
 ·obtain ⟨j,rfl⟩:∃ j,b = a + j:=⟨b - a,by omega⟩
  exact n j (by omega) (by omega) (pR m h a z)
 ·have:=List.pairwise_lt_range (n:=k)
  refine List.Pairwise.imp_of_mem (fun ha hb Iy=>⟨Iy,List.mem_range.mp ha,List.mem_range.mp hb⟩) this
theorem sN (m:aA L) (h:Dt L d) {k:Nat} (n:kL L d k):k≤(dE L L.length).length:=by
 have:=eB (iN m h n) (r:=dE L L.length) fun x hx=>by
  obtain ⟨i,_,rfl⟩:=List.mem_map.mp hx
  exact (ji m h i).all
 simpa [tr] using this
def dj (r:List Int) (j:Nat):au:=(cy r j,cy r (j + 1))
structure Good (L:List (List Int)) (r:List Int):Prop where
 two:2≤r.length
 dt:∀ j,Dt L (dj r j)
 st:∀ j,Gm.nx L (dj r j) = dj r (j + 1)
def sh (s:Nat) (r:List Int):List au:=(List.range r.length).map fun j=>dj r (j + s)
theorem dz {r:List Int} {i j:Nat} (h:i % r.length = j % r.length):dj r i = dj r j:=by
 unfold dj
 rw [ff h,ff (show (i + 1) % r.length = (j + 1) % r.length by rw [Nat.add_mod,h,← Nat.add_mod])]
def aW (L:List (List Int)) (d:au) (k:Nat):List Int:=(List.range k).map fun i=>(it L d i).1
theorem yj {k:Nat} (e:it L d k = d) (j:Nat):it L d (j + k) = it L d j:=by rw [Nat.add_comm,lW,e]
theorem tm {k:Nat} (e:it L d k = d) (j:Nat):it L d (j % k) = it L d j:=by
 have go:∀ q,it L d (j % k + k * q) = it L d (j % k):=by
  intro q
  induction q with
  | zero=>rfl
  | succ q ih=>rw [Nat.mul_succ,← Nat.add_assoc,yj e,ih]
 rw [← go (j / k),Nat.mod_add_div]
theorem qd {k:Nat} (hk:0 < k) (e:it L d k = d) (j:Nat):cy (aW L d k) j = (it L d j).1:=by
 have hl:(aW L d k).length = k:=by unfold aW; simp
 have hm:=Nat.mod_lt j hk
 unfold cy
 rw [hl]
 unfold aW
 rw [List.getD_eq_getElem?_getD,List.getElem?_map,List.getElem?_range hm]
 show (it L d (j % k)).1 = _
 rw [tm e]
theorem iF {k:Nat} (hk:0 < k) (e:it L d k = d) (j:Nat):dj (aW L d k) j = it L d j:=by
 unfold dj
 rw [qd hk e,qd hk e]
 rfl
theorem qy (m:aA L) (h:Dt L d) {k:Nat} (hk:0 < k) (e:it L d k = d):Good L (aW L d k):=by
 refine ⟨?_,fun j=>by rw [iF hk e]; exact ji m h j,fun j=>by rw [iF hk e,iF hk e]; rfl⟩
 have hl:(aW L d k).length = k:=by unfold aW; simp
 rw [hl]
 by_cases z:k = 1
 ·subst z
  have:=(h.back m).2.2.1
  exact absurd (congrArg Prod.fst e) this
 ·omega
def ug (r:List Int):Prop:=∀ k,k < r.length→Le r (B1 r k)
structure Je (L R:List (List Int)):Prop where
 good:∀ r∈R,Good L r
 least:∀ r∈R,ug r
 sorted:R.Pairwise (fun a b=>HT.lexLt a b = true)
 nd:(R.flatMap (sh 0)).Nodup
 all:∀ d,Dt L d→d∈R.flatMap (sh 0)
structure Lp (L R:List (List Int)) (ks:List au):Prop where
 good:∀ r∈R,Good L r
 least:∀ r∈R,ug r
 nd:ks.Nodup
 pm:ks.Perm (R.flatMap (sh 0))
 two:2 * R.length≤ks.length
end
end Gm
end
section
namespace Gm
open PySem L2
def gU (d:au):List Key:=[.inl d.1,.inl d.2]
def kD (ks:List au):List (List Key×V):=ks.map fun d=>(gU d,V.bl true)
theorem tf {d e:au} (h:gU d = gU e):d = e:=by
 unfold gU at h
 simp only [List.cons.injEq,Sum.inl.injEq,and_true] at h
 exact Prod.ext h.1 h.2
theorem fj:∀ (ks:List au) (d:au),(dC (kD ks) (gU d)).isSome = decide (d∈ks)
 | [],d=>rfl
 | e :: ks,d=>by
  unfold kD
  rw [List.map_cons]
  by_cases z:e = d
  ·subst z
   rw [dS rfl]
   simp
  ·rw [dU (fun y=>z (tf y))]
   have:=fj ks d
   unfold kD at this
   rw [this]
   have z2:¬ d = e:=fun y=>z y.symm
   simp [z2]
theorem sq {ks:List au} {d:au} (h:d∉ks):putK (kD ks) (gU d) (.bl true) = kD (ks ++ [d]):=by
 rw [iY]
 ·unfold kD; rw [List.map_append]; rfl
 ·have:=fj ks d
  rw [decide_eq_false h] at this
  exact Option.isNone_iff_eq_none.mp (by rw [← Option.not_isSome,this]; rfl)
theorem yh (ks:List au):(kD ks).length = ks.length:=by unfold kD; simp
section
variable {σ : St} {H:Hp} {Q:VK} {K:PySem.W.Frag}
theorem iW {ty td:TE} (h:ty σ H fun y H1=>td σ H1 fun x H2=>∃ a o,x = .ref a∧cz H2 a y o∧Q (.bl (!o.isSome)) H2):oJ ty td σ H Q:=h
theorem sf {ty td:TE} (h:ty σ H fun y H1=>td σ H1 fun x H2=>∃ a o,x = .ref a∧cz H2 a y o∧Q (.bl o.isSome) H2):zL ty td σ H Q:=h
theorem n9 {td ty tv:TE} {D:Ends} (h:tv σ H fun v H1=>td σ H1 fun x H2=>ty σ H2 fun y H3=>∃ a H4,x = .ref a∧fJ H3 a y v H4∧D.nx σ H4):wg td ty tv D σ H:=h
end
theorem aU.snoc {H:Hp} {t b:Addr} {bs:List Addr} {R:List (List Int)} {l:List Int} (g:aU H t bs R) (nt:t∉bs) (nb:b≠t) (hb:H b = some (.lst (l.map V.int))):aU (upd H t (.lst (bs.map V.ref ++ [.ref b]))) t (bs ++ [b]) (R ++ [l]):=by
 refine ⟨by rw [List.map_append]; exact af,by rw [List.length_append,List.length_append,g.len]; rfl,fun i a m h1 h2=>?_⟩
 rcases Nat.lt_or_ge i bs.length with hi | hi
 ·rw [List.getElem?_append_left hi] at h1
  rw [List.getElem?_append_left (by rw [← g.len]; exact hi)] at h2
  have am:=List.mem_of_getElem? h1
  have ne:a≠t:=fun z=>nt (by rw [← z]; exact am)
  rw [ai ne]
  exact g.row i a m h1 h2
 ·rw [List.getElem?_append_right hi] at h1
  rw [List.getElem?_append_right (by rw [← g.len]; exact hi),← g.len] at h2
  have:i - bs.length = 0:=by
   have:=(List.getElem?_eq_some_iff.mp h1).1
   rw [List.length_singleton] at this
   omega
  rw [this] at h1 h2
  simp at h1 h2
  subst h1 h2
  rw [ai nb]
  exact hb
theorem aU.other {H:Hp} {t g:Addr} {bs:List Addr} {R:List (List Int)} {aj:List (List Key×V)} {o:HO} (h:aU H t bs R) (hg:H g = some (.dT aj)):aU (upd H g o) t bs R:=by
 refine ⟨?_,h.len,fun i a l h1 h2=>?_⟩
 ·rw [ai (fun z=>by have:=h.top; rw [z,hg] at this; cases this)]; exact h.top
 ·have:=h.row i a l h1 h2
  rw [ai (fun z=>by rw [z,hg] at this; cases this)]; exact this
theorem aU.hV {H:Hp} {t b:Addr} {bs:List Addr} {R:List (List Int)} (g:aU H t bs R) (hb:H b = none):b∉t :: bs:=fun z=>by
 rcases List.mem_cons.mp z with z | z
 ·rw [z,g.top] at hb; cases hb
 ·obtain ⟨k,hk,AS⟩:=List.mem_iff_getElem.mp z
  have kl:k < R.length:=by rw [← g.len]; exact hk
  have:=g.row k b _ (by rw [List.getElem?_eq_getElem hk,AS]) (List.getElem?_eq_getElem kl)
  rw [hb] at this; cases this
theorem gC {α : Type} {A B:List α} {x : α} {j:Nat} (h:(A ++ B).Nodup) (e:B[j]? = some x):x∉A ++ B.take j:=by
 obtain ⟨h1,h2,h3⟩:=List.nodup_append.mp h
 intro z
 rcases List.mem_append.mp z with z | z
 ·exact h3 x z x (List.mem_of_getElem? e) rfl
 ·obtain ⟨hj,ex⟩:=List.getElem?_eq_some_iff.mp e
  obtain ⟨i,hi,ei⟩:=List.mem_iff_getElem.mp z
  rw [List.getElem_take] at ei
  rw [List.length_take] at hi
  have:=(List.getElem_inj h2).mp (ei.trans ex.symm)
  omega
theorem kY (s:Nat) (r:List Int):(sh s r).length = r.length:=by unfold sh; simp
theorem zS {s:Nat} {r:List Int} {j:Nat} (h:j < r.length):(sh s r)[j]? = some (dj r (j + s)):=by unfold sh; simp [h]
theorem take_snoc {α : Type} {l:List α} {j:Nat} {x : α} (h:l[j]? = some x):l.take (j + 1) = l.take j ++ [x]:=by rw [List.take_succ,h]; rfl
theorem gj {l:List Addr} {x:Addr}:(l ++ [x]).Nodup↔x∉l∧l.Nodup:=by rw [(List.perm_append_singleton x l).nodup_iff,List.nodup_cons]
def Pz (g:Addr) (H H':Hp):Prop:=∀ b o,b≠g→H b = some o→H' b = some o
def fl (R:List (List Int)) (k:Nat):List au:=(R.take k).flatMap fun r=>sh (r.length - 2) r
theorem tN {L:List (List Int)} (m:aA L):∀ {k:Nat},k≤L.length→(dE L k).length≤k * (L.length - 1)
 | 0,_=>Nat.zero_le _
 | k + 1,h=>by
  have i:=tN m (k:=k) (by omega)
  have e:=aD (L:=L) (a:=(k:Int)) (by omega) (by omega)
  have n:(rowOf L (k:Int)).length≤L.length - 1:=by
   have n1:((k:Int) :: rowOf L (k:Int)).Nodup:=List.nodup_cons.mpr ⟨fun z=>by have:=m.rg _ _ e _ z; rw [Int.toNat_natCast] at this; exact this.2.2 rfl,m.nd _ _ e⟩
   have:=cx (n:=L.length) n1 fun x hx=>by
    rcases List.mem_cons.mp hx with z | z
    ·omega
    ·have:=m.rg _ _ e _ z; exact ⟨this.1,this.2.1⟩
   rw [List.length_cons] at this
   omega
  rw [dE,List.length_append,List.length_map,Nat.succ_mul]
  omega
theorem qR {L:List (List Int)} (m:aA L) (h:L.length≤11):(dE L L.length).length < 128:=by
 have h1:=tN m (Nat.le_refl L.length)
 have h2:L.length * (L.length - 1)≤11 * 10:=Nat.mul_le_mul h (by omega)
 omega
end Gm
end
section
namespace Gm
open PySem L2
def cM:Int→List Int→Int→Int
 | p,[],_=>p
 | p,h :: t,x=>if h = x then p else cM h t x
def lst (l:List Int):Int:=l.getD (l.length - 1) 0
theorem jd (h:Int) {t:List Int} (n:t≠[]):lst (h :: t) = lst t:=by
 unfold lst
 cases t with
 | nil=>exact absurd rfl n
 | cons a t=>simp
theorem ez (u:List Int) {v:List Int} (n:v≠[]):lst (u ++ v) = lst v:=by
 induction u with
 | nil=>rfl
 | cons h t ih=>rw [List.cons_append,jd h (by simp [n]),ih]
theorem u9 {l:List Int} (n:l≠[]):lst l∈l:=by
 unfold lst
 have:l.length - 1 < l.length:=by have:=List.length_pos_iff.mpr n; omega
 simp [this]
theorem pN:∀ {l:List Int} {p x:Int},x∈l→cM p l x = if l.idxOf x = 0 then p else l.getD (l.idxOf x - 1) 0
 | [],_,_,h=>by cases h
 | h :: t,p,x,hx=>by
  unfold cM
  rw [List.idxOf_cons]
  by_cases e:h = x
  ·rw [if_pos e,e]; simp
  ·rw [if_neg e]
   have e2:(h == x) = false:=beq_false_of_ne e
   rw [e2]
   have pV:x∈t:=(List.mem_cons.mp hx).resolve_left (fun z=>e z.symm)
   rw [pN pV]
   simp only [cond_false]
   rw [if_neg (Nat.succ_ne_zero _)]
   cases q:t.idxOf x with
   | zero=>simp
   | succ k=>simp
theorem gs {l:List Int} {x:Int} (h:x∈l):pre l x = cM (lst l) l x:=by
 have ix:=List.idxOf_lt_length_of_mem h
 rw [pN h]
 unfold pre cy lst
 rw [md ix]
 split <;> rfl
theorem lI:∀ (l:List Int) (p x:Int),cM p l x = p∨cM p l x∈l
 | [],p,x=>.inl rfl
 | h :: t,p,x=>by
  unfold cM
  by_cases e:h = x
  ·rw [if_pos e]; exact .inl rfl
  ·rw [if_neg e]
   rcases lI t h x with z | z
   ·rw [z]; exact .inr List.mem_cons_self
   ·exact .inr (List.mem_cons_of_mem _ z)
theorem kb:∀ {l:List Int} {p x y:Int},l.Nodup→p≠y→x∈l→x≠y→cM p (l.erase y) x = if cM p l x = y then cM p l y else cM p l x
 | [],_,_,_,_,_,h,_=>by cases h
 | h :: t,p,x,y,n,hp,hx,pU=>by
  obtain ⟨n1,n2⟩:=List.nodup_cons.mp n
  by_cases e:h = y
  ·subst e
   rw [List.erase_cons_head]
   have pV:x∈t:=(List.mem_cons.mp hx).resolve_left pU
   have a1:cM p (h :: t) x = cM h t x:=by show (if h = x then p else cM h t x) = _; rw [if_neg (fun z=>pU z.symm)]
   have a2:cM p (h :: t) h = p:=by show (if h = h then p else cM h t h) = _; rw [if_pos rfl]
   rw [a1,a2]
   cases t with
   | nil=>cases pV
   | cons k s=>
    by_cases e2:k = x
    ·have b1:cM p (k :: s) x = p:=by show (if k = x then p else cM k s x) = _; rw [if_pos e2]
     have b2:cM h (k :: s) x = h:=by show (if k = x then h else cM k s x) = _; rw [if_pos e2]
     rw [b1,b2,if_pos rfl]
    ·have b1:cM p (k :: s) x = cM k s x:=by show (if k = x then p else cM k s x) = _; rw [if_neg e2]
     have b2:cM h (k :: s) x = cM k s x:=by show (if k = x then h else cM k s x) = _; rw [if_neg e2]
     rw [b1,b2,if_neg]
     intro z
     rcases lI s k x with y | y
     ·rw [y] at z; exact n1 (by rw [← z]; exact List.mem_cons_self)
     ·rw [z] at y; exact n1 (List.mem_cons_of_mem _ y)
  ·rw [List.erase_cons_tail (by simpa using e)]
   by_cases e2:h = x
   ·have b1:∀ s,cM p (h :: s) x = p:=fun s=>by show (if h = x then p else cM h s x) = _; rw [if_pos e2]
    rw [b1,b1,if_neg hp]
   ·have pV:x∈t:=(List.mem_cons.mp hx).resolve_left (fun z=>e2 z.symm)
    have b1:∀ s,cM p (h :: s) x = cM h s x:=fun s=>by show (if h = x then p else cM h s x) = _; rw [if_neg e2]
    have b2:cM p (h :: t) y = cM h t y:=by show (if h = y then p else cM h t y) = _; rw [if_neg e]
    rw [b1,b1,b2]
    exact kb n2 e pV pU
theorem mV:∀ {u:List Int} {w:List Int} {p x:Int},x∈u→cM p (u ++ w) x = cM p u x
 | [],_,_,_,h=>by cases h
 | h :: t,w,p,x,hx=>by
  show (if h = x then p else cM h (t ++ w) x) = if h = x then p else cM h t x
  by_cases e:h = x
  ·rw [if_pos e,if_pos e]
  ·rw [if_neg e,if_neg e]
   exact mV ((List.mem_cons.mp hx).resolve_left (fun z=>e z.symm))
theorem pO:∀ {u:List Int} {p y:Int},y∉u→cM p (u ++ [y]) y = if u = [] then p else lst u
 | [],p,y,_=>by show (if y = y then p else cM y [] y) = _; rw [if_pos rfl,if_pos rfl]
 | h :: t,p,y,n=>by
  have e:h≠y:=fun z=>n (by rw [z]; exact List.mem_cons_self)
  show (if h = y then p else cM h (t ++ [y]) y) = _
  rw [if_neg e,if_neg (by simp),pO (fun z=>n (List.mem_cons_of_mem _ z))]
  by_cases q:t = []
  ·subst q; rw [if_pos rfl]; rfl
  ·rw [if_neg q,jd h q]
theorem j9 {l:List Int} {x y:Int} (n:l.Nodup) (hx:x∈l) (hy:y∈l) (pU:x≠y):pre (l.erase y) x = if pre l x = y then pre l y else pre l x:=by
 have L0:x∈l.erase y:=(List.mem_erase_of_ne pU).mpr hx
 rw [gs L0,gs hx,gs hy]
 obtain ⟨u,v,rfl⟩:=List.append_of_mem hy
 obtain ⟨n1,n2,n3⟩:=List.nodup_append.mp n
 obtain ⟨n4,n5⟩:=List.nodup_cons.mp n2
 have yu:y∉u:=fun z=>n3 y z y List.mem_cons_self rfl
 have ee:(u ++ y :: v).erase y = u ++ v:=by rw [List.erase_append_right _ yu,List.erase_cons_head]
 by_cases q:v = []
 ·subst q
  rw [ee,List.append_nil]
  have xu:x∈u:=by
   rcases List.mem_append.mp hx with z | z
   ·exact z
   ·exact absurd (List.mem_singleton.mp z) pU
  have u0:u≠[]:=fun z=>by rw [z] at xu; cases xu
  rw [ez u (v:=[y]) (by simp),mV xu,pO yu,if_neg u0]
  show cM (lst u) u x = if cM y u x = y then lst u else cM y u x
  cases u with
  | nil=>cases xu
  | cons h t=>
   by_cases e:h = x
   ·have b:∀ q,cM q (h :: t) x = q:=fun q=>by show (if h = x then q else cM h t x) = _; rw [if_pos e]
    rw [b,b,if_pos rfl]
   ·have b:∀ q,cM q (h :: t) x = cM h t x:=fun q=>by show (if h = x then q else cM h t x) = _; rw [if_neg e]
    rw [b,b,if_neg]
    intro z
    rcases lI t h x with w | w
    ·rw [w] at z; exact yu (by rw [← z]; exact List.mem_cons_self)
    ·rw [z] at w; exact yu (List.mem_cons_of_mem _ w)
 ·have e1:lst (u ++ y :: v) = lst v:=by rw [ez u (by simp),jd y q]
  have e2:lst ((u ++ y :: v).erase y) = lst v:=by rw [ee,ez u q]
  rw [e1,e2]
  exact kb n (fun z=>n4 (by rw [← z]; exact u9 q)) hx pU
theorem i5 {l:List Int} {x:Int} (n:l.Nodup) (hx:x∈l) (h:pre l x = x):l = [x]:=by
 have ix:=List.idxOf_lt_length_of_mem hx
 unfold pre cy at h
 have mx:=Nat.mod_lt (l.idxOf x + l.length - 1) (show 0 < l.length by omega)
 have e1:l.getD ((l.idxOf x + l.length - 1) % l.length) 0 = l[(l.idxOf x + l.length - 1) % l.length]:=by simp [mx]
 rw [e1] at h
 have g:=List.getElem_idxOf ix
 have e:=(List.getElem_inj n).mp (h.trans g.symm)
 rw [md ix] at e
 have l1:l.length = 1:=by split at e <;> omega
 match l,l1,hx with
 | [z],_,hx=>rw [List.mem_singleton.mp hx]
theorem gE {L:List (List Int)} (h:∀ x:Int,0≤x→x < L.length→(rowOf L x).Nodup∧∀ y∈rowOf L x,0≤y∧y < L.length∧y≠x∧x∈rowOf L y):aA L:=by
 have at_:∀ (i:Nat) (l:List Int),L[i]? = some l→rowOf L (i:Int) = l∧(i:Int) < L.length:=fun i l e=>by
  have hi:=(List.getElem?_eq_some_iff.mp e).1
  have:=aD (L:=L) (a:=(i:Int)) (by omega) (by omega)
  rw [Int.toNat_natCast,e] at this
  exact ⟨(Option.some.inj this).symm,by omega⟩
 refine ⟨fun i l e=>?_,fun i l e x hx=>?_,fun i l e x hx j hj m em=>?_⟩
 ·obtain ⟨e1,e2⟩:=at_ i l e
  rw [← e1]; exact (h i (by omega) e2).1
 ·obtain ⟨e1,e2⟩:=at_ i l e
  rw [← e1] at hx
  have:=(h i (by omega) e2).2 x hx
  exact ⟨this.1,this.2.1,this.2.2.1⟩
 ·obtain ⟨e1,e2⟩:=at_ i l e
  obtain ⟨e3,e4⟩:=at_ j m em
  rw [← e1] at hx
  have:=((h i (by omega) e2).2 x hx).2.2.2
  rw [hj,e3] at this
  exact this
def rem (L:List (List Int)) (a b:Int):List (List Int):=(L.set a.toNat ((rowOf L a).erase b)).set b.toNat ((rowOf L b).erase a)
section
variable {L:List (List Int)} {a b:Int}
theorem iz:(rem L a b).length = L.length:=by unfold rem; simp
theorem lq (m:aA L) (h:Dt L (a,b)) {x:Int} (hx:0≤x):rowOf (rem L a b) x = if x = b then (rowOf L b).erase a else if x = a then (rowOf L a).erase b else rowOf L x:=by
 obtain ⟨b0,b1,b2,b3⟩:=h.back m
 have a0:=h.lo
 have a1:=h.hi
 dsimp only at a0 a1 b0 b1 b2 b3
 show (rem L a b).getD x.toNat [] = _
 unfold rem
 rw [List.getD_eq_getElem?_getD,List.getElem?_set]
 by_cases e:x = b
 ·subst e
  rw [if_pos rfl,if_pos rfl,if_pos (by rw [List.length_set]; omega)]
  rfl
 ·rw [if_neg (by omega),if_neg e,List.getElem?_set]
  by_cases e2:x = a
  ·subst e2
   rw [if_pos rfl,if_pos rfl,if_pos (by omega)]
   rfl
  ·rw [if_neg (by omega),if_neg e2,← List.getD_eq_getElem?_getD]
   rfl
theorem iw (m:aA L) (h:Dt L (a,b)) {x y:Int} (hx:0≤x) (Ic:x < L.length):y∈rowOf (rem L a b) x↔y∈rowOf L x∧¬ (x = a∧y = b)∧¬ (x = b∧y = a):=by
 obtain ⟨b0,b1,b2,b3⟩:=h.back m
 have a0:=h.lo
 have a1:=h.hi
 dsimp only at a0 a1 b0 b1 b2 b3
 rw [lq m h hx]
 by_cases e:x = b
 ·subst e
  rw [if_pos rfl,(m.nd _ _ (aD hx Ic)).mem_erase_iff]
  constructor
  ·rintro ⟨h1,h2⟩; exact ⟨h2,fun z=>b2 z.1,fun z=>h1 z.2⟩
  ·rintro ⟨h1,h2,h3⟩; exact ⟨fun z=>h3 ⟨rfl,z⟩,h1⟩
 ·rw [if_neg e]
  by_cases e2:x = a
  ·subst e2
   rw [if_pos rfl,(m.nd _ _ (aD hx Ic)).mem_erase_iff]
   constructor
   ·rintro ⟨h1,h2⟩; exact ⟨h2,fun z=>h1 z.2,fun z=>e z.1⟩
   ·rintro ⟨h1,h2,h3⟩; exact ⟨fun z=>h2 ⟨rfl,z⟩,h1⟩
  ·rw [if_neg e2]
   exact ⟨fun z=>⟨z,fun y=>e2 y.1,fun y=>e y.1⟩,fun z=>z.1⟩
theorem bZ (m:aA L) (h:Dt L (a,b)) {d:au}:Dt (rem L a b) d↔Dt L d∧d≠(a,b)∧d≠(b,a):=by
 constructor
 ·intro q
  have hi:=q.hi
  rw [iz] at hi
  have:=(iw m h q.lo hi).mp q.mem
  exact ⟨⟨q.lo,hi,this.1⟩,fun z=>this.2.1 ⟨congrArg Prod.fst z,congrArg Prod.snd z⟩,fun z=>this.2.2 ⟨congrArg Prod.fst z,congrArg Prod.snd z⟩⟩
 ·rintro ⟨q,h1,h2⟩
  refine ⟨q.lo,by rw [iz]; exact q.hi,(iw m h q.lo q.hi).mpr ⟨q.mem,fun z=>h1 (Prod.ext z.1 z.2),fun z=>h2 (Prod.ext z.1 z.2)⟩⟩
theorem uG (m:aA L) (h:Dt L (a,b)):aA (rem L a b):=by
 refine gE fun x x0 x1=>?_
 rw [iz] at x1
 have n:=m.nd _ _ (aD x0 x1)
 refine ⟨?_,fun y hy=>?_⟩
 ·rw [lq m h x0]
  split
  ·rename_i e; rw [← e]; exact n.erase _
  ·split
   ·rename_i e; rw [← e]; exact n.erase _
   ·exact n
 ·have q:=(iw m h x0 x1).mp hy
  obtain ⟨c0,c1,c2,c3⟩:=Dt.back (d:=(x,y)) ⟨x0,x1,q.1⟩ m
  rw [iz]
  refine ⟨c0,c1,c2,(iw m h c0 c1).mpr ⟨c3,fun z=>q.2.2 ⟨z.2,z.1⟩,fun z=>q.2.1 ⟨z.2,z.1⟩⟩⟩
theorem fO (m:aA L) (h:Dt L (a,b)) {d:au} (hd:Dt (rem L a b) d) :
  nx (rem L a b) d = if nx L d = (b,a) then nx L (a,b) else if nx L d = (a,b) then nx L (b,a) else nx L d:=by
 obtain ⟨q,h1,h2⟩:=(bZ m h).mp hd
 obtain ⟨b0,b1,b2,b3⟩:=h.back m
 obtain ⟨c0,c1,c2,c3⟩:=q.back m
 obtain ⟨x,y⟩:=d
 dsimp only at b0 b1 b2 b3 c0 c1 c2 c3
 have AL:=h.mem
 dsimp only at AL
 unfold nx
 dsimp only
 rw [lq m h c0]
 by_cases e:y = b
 ·subst e
  have xa:x≠a:=fun z=>h1 (by rw [z])
  rw [if_pos rfl,j9 (m.nd _ _ (aD c0 c1)) c3 b3 xa]
  by_cases z:pre (rowOf L y) x = a
  ·rw [if_pos z,z,if_pos rfl]
  ·rw [if_neg z,if_neg (fun w=>z (congrArg Prod.snd w)),if_neg (fun w=>b2 (congrArg Prod.fst w))]
 ·rw [if_neg e]
  by_cases e2:y = a
  ·subst e2
   have xb:x≠b:=fun z=>h2 (by rw [z])
   rw [if_pos rfl,j9 (m.nd _ _ (aD c0 c1)) c3 AL xb]
   rw [if_neg (fun w=>e (congrArg Prod.fst w))]
   by_cases z:pre (rowOf L y) x = b
   ·rw [if_pos z,z,if_pos rfl]
   ·rw [if_neg z,if_neg (fun w=>z (congrArg Prod.snd w))]
  ·rw [if_neg e2,if_neg (fun w=>e (congrArg Prod.fst w)),if_neg (fun w=>e2 (congrArg Prod.fst w))]
end
end Gm
end
section
namespace Gm
open PySem L2
inductive Wk (f:au→au):au→List au→au→Prop where
 | nil (x:au):Wk f x [] x
 | cons {x y:au} {l:List au}:Wk f (f x) l y→Wk f x (x :: l) y
section
variable {f g:au→au} {x y z w d:au} {l m:List au}
theorem Wk.append (h:Wk f x l y) (k:Wk f y m z):Wk f x (l ++ m) z:=by
 induction h with
 | nil _=>exact k
 | cons _ ih=>exact .cons (ih k)
theorem Wk.split:∀ {l:List au} {x:au},Wk f x (l ++ m) z→∃ y,Wk f x l y∧Wk f y m z
 | [],x,h=>⟨x,.nil x,h⟩
 | a :: l,x,h=>by
  cases h with
  | cons h=>
   obtain ⟨y,h1,h2⟩:=Wk.split h
   exact ⟨y,.cons h1,h2⟩
theorem Wk.nil_eq (h:Wk f x [] y):x = y:=by cases h; rfl
theorem Wk.hd (h:Wk f x (d :: l) y):d = x:=by cases h; rfl
theorem Wk.tl (h:Wk f x (d :: l) y):Wk f (f x) l y:=by cases h; assumption
theorem Wk.on (h:Wk f x l y):∀ d∈l,f d∈l∨f d = y:=by
 induction h with
 | nil _=>intro d hd; cases hd
 | @cons x y l h ih=>
  intro d hd
  rcases List.mem_cons.mp hd with e | e
  ·subst e
   cases h with
   | nil _=>exact .inr rfl
   | cons h=>exact .inl (List.mem_cons_of_mem _ List.mem_cons_self)
  ·rcases ih d e with q | q
   ·exact .inl (List.mem_cons_of_mem _ q)
   ·exact .inr q
theorem Wk.new (h:Wk f x l y) (n:l≠[]) (hy:y∉l) (h1:∀ d∈l,f d = y→g d = w) (h2:∀ d∈l,f d≠y→g d = f d):Wk g x l w:=by
 induction h with
 | nil _=>exact absurd rfl n
 | @cons x y l h ih=>
  cases h with
  | nil _=>
   have:g x = w:=h1 x List.mem_cons_self rfl
   rw [← this]
   exact .cons (.nil _)
  | @cons _ _ l2 h=>
   have ne:f x≠y:=fun q=>hy (by rw [← q]; exact List.mem_cons_of_mem _ List.mem_cons_self)
   have e:=h2 x List.mem_cons_self ne
   refine .cons ?_
   rw [e]
   exact ih (by simp) (fun q=>hy (List.mem_cons_of_mem _ q)) (fun d hd=>h1 d (List.mem_cons_of_mem _ hd)) fun d hd=>h2 d (List.mem_cons_of_mem _ hd)
theorem Wk.congr (h:Wk f x l y) (e:∀ d∈l,g d = f d):Wk g x l y:=by
 induction h with
 | nil _=>exact .nil _
 | @cons x y l h ih=>
  refine .cons ?_
  rw [e x List.mem_cons_self]
  exact ih fun d hd=>e d (List.mem_cons_of_mem _ hd)
end
def hX (f:au→au) (c:List au):Prop:=∃ x l,c = x :: l∧Wk f x c x
section
variable {f:au→au} {c:List au} {d:au}
theorem hX.ne (h:hX f c):c≠[]:=by obtain ⟨x,l,rfl,_⟩:=h; simp
theorem hX.on (h:hX f c) (hd:d∈c):f d∈c:=by
 obtain ⟨x,l,rfl,k⟩:=h
 rcases k.on d hd with q | q
 ·exact q
 ·rw [q]; exact List.mem_cons_self
theorem hX.turn (h:hX f c) (hd:d∈c):∃ v,(d :: v).Perm c∧Wk f (f d) v d:=by
 obtain ⟨x,l,e,k⟩:=h
 obtain ⟨u,v,rfl⟩:=List.append_of_mem hd
 obtain ⟨y,k1,k2⟩:=k.split
 have:=k2.hd
 subst this
 exact ⟨v ++ u,by rw [← List.cons_append]; exact List.perm_append_comm,k2.tl.append k1⟩
end
structure Dec (L:List (List Int)) (R:List (List au)):Prop where
 jE:∀ c∈R,hX (nx L) c
 nd:R.flatten.Nodup
 mem:∀ d,d∈R.flatten↔Dt L d
theorem i7 {α : Type} {x : α} {l:List α} (h:x∈l):∃ r,l.Perm (x :: r):=by
 obtain ⟨u,v,rfl⟩:=List.append_of_mem h
 exact ⟨u ++ v,List.perm_middle⟩
theorem Dec.perm {L:List (List Int)} {R S:List (List au)} (h:Dec L R) (p:R.Perm S):Dec L S:=
 ⟨fun c hc=>h.jE c (p.mem_iff.mpr hc),(p.flatten.nodup_iff).mp h.nd,fun d=>by rw [← p.flatten.mem_iff]; exact h.mem d⟩
theorem Dec.swap {L:List (List Int)} {R:List (List au)} {c e:List au} (h:Dec L (c :: R)) (p:e.Perm c) (k:hX (nx L) e):Dec L (e :: R):=by
 have q:(e :: R).flatten.Perm (c :: R).flatten:=by rw [List.flatten_cons,List.flatten_cons]; exact p.append_right _
 refine ⟨fun s hs=>?_,q.nodup_iff.mpr h.nd,fun d=>by rw [q.mem_iff]; exact h.mem d⟩
 rcases List.mem_cons.mp hs with z | z
 ·rw [z]; exact k
 ·exact h.jE s (List.mem_cons_of_mem _ z)
theorem Dec.front {L:List (List Int)} {R:List (List au)} {d:au} (h:Dec L R) (hd:Dt L d):∃ v S,Dec L ((d :: v) :: S)∧R.length = S.length + 1∧Wk (nx L) (nx L d) v d∧(∀ c∈S,c∈R):=by
 obtain ⟨c,hc,MD⟩:=List.mem_flatten.mp ((h.mem d).mpr hd)
 obtain ⟨S,p⟩:=i7 hc
 obtain ⟨v,pv,k⟩:=(h.jE c hc).turn MD
 exact ⟨v,S,(h.perm p).swap pv ⟨d,v,rfl,.cons k⟩,p.length_eq,k,fun s hs=>p.mem_iff.mpr (List.mem_cons_of_mem _ hs)⟩
section
variable {L:List (List Int)} {a b:Int}
theorem mP (m:aA L) (h:Dt L (a,b)):(dE L L.length).Perm ((a,b) :: (b,a) :: dE (rem L a b) (rem L a b).length)∧(dE L L.length).length = (dE (rem L a b) (rem L a b).length).length + 2:=by
 obtain ⟨b0,b1,b2,b3⟩:=h.back m
 have hb:Dt L (b,a):=⟨b0,b1,b3⟩
 have n2:((a,b) :: (b,a) :: dE (rem L a b) (rem L a b).length).Nodup:=by
  refine List.nodup_cons.mpr ⟨fun z=>?_,List.nodup_cons.mpr ⟨fun z=>?_,cF (uG m h) (Nat.le_refl _)⟩⟩
  ·rcases List.mem_cons.mp z with z | z
   ·exact b2 (congrArg Prod.fst z).symm
   ·exact ((bZ m h).mp (Dt.of z)).2.1 rfl
  ·exact ((bZ m h).mp (Dt.of z)).2.2 rfl
 have e:∀ x,x∈dE L L.length↔x∈(a,b) :: (b,a) :: dE (rem L a b) (rem L a b).length:=fun x=>by
  constructor
  ·intro z
   by_cases e1:x = (a,b)
   ·rw [e1]; exact List.mem_cons_self
   ·by_cases e2:x = (b,a)
    ·rw [e2]; exact List.mem_cons_of_mem _ List.mem_cons_self
    ·exact List.mem_cons_of_mem _ (List.mem_cons_of_mem _ ((bZ m h).mpr ⟨Dt.of z,e1,e2⟩).all)
  ·intro z
   rcases List.mem_cons.mp z with z | z
   ·rw [z]; exact h.all
   ·rcases List.mem_cons.mp z with z | z
    ·rw [z]; exact hb.all
    ·exact ((bZ m h).mp (Dt.of z)).1.all
 have n1:=cF m (Nat.le_refl L.length)
 have l:=len_eq n1 n2 e
 refine ⟨?_,by rw [l]; rfl⟩
 exact (List.perm_iff_count.mpr fun x=>by
  have c:∀ {l:List au},l.Nodup→l.count x = if x∈l then 1 else 0:=fun {l} hn=>by
   by_cases hx:x∈l
   ·rw [if_pos hx]
    have h1:=List.nodup_iff_count.mp hn x
    have h2:=List.count_pos_iff.mpr hx
    omega
   ·rw [if_neg hx,List.count_eq_zero.mpr hx]
  rw [c n1,c n2]
  by_cases hx:x∈dE L L.length
  ·rw [if_pos hx,if_pos ((e x).mp hx)]
  ·rw [if_neg hx,if_neg (fun z=>hx ((e x).mpr z))])
theorem oY {R:List (List au)} (m:aA L) (h:Dt L (a,b)) (D:Dec L R) :
  (∃ A B S,Dec (rem L a b) ((if A = [] then [] else [A]) ++ (if B = [] then [] else [B]) ++ S)∧R.length = S.length + 1∧Wk (nx L) (nx L (a,b)) A (b,a)∧Wk (nx L) (nx L (b,a)) B (a,b))∨
  (∃ A B S,Dec (rem L a b) ((A ++ B) :: S)∧R.length = S.length + 2∧A≠[]∧B≠[]∧Wk (nx (rem L a b)) (nx L (a,b)) A (nx L (b,a))∧Wk (nx (rem L a b)) (nx L (b,a)) B (nx L (a,b))∧(∀ d∈A ++ B,Dt (rem L a b) d)):=by
 obtain ⟨b0,b1,b2,b3⟩:=h.back m
 have hb:Dt L (b,a):=⟨b0,b1,b3⟩
 have ne:(a,b)≠(b,a):=fun z=>b2 (congrArg Prod.fst z).symm
 have spec:∀ d,Dt L d→d≠(a,b)→d≠(b,a)→nx (rem L a b) d = if nx L d = (b,a) then nx L (a,b) else if nx L d = (a,b) then nx L (b,a) else nx L d:=fun d h0 h1 h2=>fO m h ((bZ m h).mpr ⟨h0,h1,h2⟩)
 obtain ⟨v,S,D1,Ar,kv,_⟩:=D.front h
 have qE:=D1.nd
 rw [List.flatten_cons,List.cons_append,List.nodup_cons,List.mem_append] at qE
 obtain ⟨ot,u7⟩:=qE
 obtain ⟨Li,Lj,Lh⟩:=List.nodup_append.mp u7
 have Bk:∀ d∈v,Dt L d:=fun d hd=>(D1.mem d).mp (by rw [List.flatten_cons]; exact List.mem_append_left _ (List.mem_cons_of_mem _ hd))
 by_cases q:(b,a)∈v
 ·left
  obtain ⟨A,B,rfl⟩:=List.append_of_mem q
  obtain ⟨y,kA,kB⟩:=kv.split
  have:=kB.hd
  subst this
  have kB:=kB.tl
  obtain ⟨nA,nB,nX⟩:=List.nodup_append.mp Li
  obtain ⟨EO,OP⟩:=List.nodup_cons.mp nB
  have GF:(b,a)∉A:=fun z=>nX _ z _ List.mem_cons_self rfl
  have GX:(a,b)∉A:=fun z=>ot (.inl (List.mem_append_left _ z))
  have GW:(a,b)∉B:=fun z=>ot (.inl (List.mem_append_right _ (List.mem_cons_of_mem _ z)))
  refine ⟨A,B,S,⟨fun c hc=>?_,?_,fun d=>?_⟩,Ar,kA,kB⟩
  ·rcases List.mem_append.mp hc with hc | hc
   ·rcases List.mem_append.mp hc with hc | hc
    ·by_cases z:A = []
     ·rw [if_pos z] at hc; cases hc
     ·rw [if_neg z] at hc
      rw [List.mem_singleton.mp hc]
      have k2:Wk (nx (rem L a b)) (nx L (a,b)) A (nx L (a,b)):=kA.new z GF (fun d hd e=>by rw [spec d (Bk d (List.mem_append_left _ hd)) (fun y=>GX (y▸hd)) (fun y=>GF (y▸hd)),if_pos e]) fun d hd e=>by
       rw [spec d (Bk d (List.mem_append_left _ hd)) (fun y=>GX (y▸hd)) (fun y=>GF (y▸hd)),if_neg e,if_neg]
       intro y
       rcases kA.on d hd with w | w
       ·exact GX (y▸w)
       ·exact e w
      cases A with
      | nil=>exact absurd rfl z
      | cons p A=>have:=k2.hd; subst this; exact ⟨_,_,rfl,k2⟩
    ·by_cases z:B = []
     ·rw [if_pos z] at hc; cases hc
     ·rw [if_neg z] at hc
      rw [List.mem_singleton.mp hc]
      have dB:∀ d∈B,Dt L d:=fun d hd=>Bk d (List.mem_append_right _ (List.mem_cons_of_mem _ hd))
      have k2:Wk (nx (rem L a b)) (nx L (b,a)) B (nx L (b,a)):=kB.new z GW (fun d hd e=>by rw [spec d (dB d hd) (fun y=>GW (y▸hd)) (fun y=>EO (y▸hd)),e,if_neg ne,if_pos rfl]) fun d hd e=>by
       rw [spec d (dB d hd) (fun y=>GW (y▸hd)) (fun y=>EO (y▸hd)),if_neg,if_neg e]
       intro y
       rcases kB.on d hd with w | w
       ·exact EO (y▸w)
       ·exact e w
      cases B with
      | nil=>exact absurd rfl z
      | cons p B=>have:=k2.hd; subst this; exact ⟨_,_,rfl,k2⟩
   ·have cy:=D1.jE c (List.mem_cons_of_mem _ hc)
    have Fb:∀ d∈c,d∈S.flatten:=fun d hd=>List.mem_flatten.mpr ⟨c,hc,hd⟩
    have Al:(a,b)∉c:=fun z=>ot (.inr (Fb _ z))
    have Ak:(b,a)∉c:=fun z=>Lh _ q _ (Fb _ z) rfl
    obtain ⟨p,r,rfl,k⟩:=id cy
    refine ⟨p,r,rfl,k.congr fun d hd=>?_⟩
    have dd:Dt L d:=(D1.mem d).mp (by rw [List.flatten_cons]; exact List.mem_append_right _ (Fb d hd))
    have on:=cy.on hd
    have o1:nx L d≠(b,a):=fun y=>Ak (by rw [← y]; exact on)
    have o2:nx L d≠(a,b):=fun y=>Al (by rw [← y]; exact on)
    rw [spec d dd (fun y=>Al (y▸hd)) (fun y=>Ak (y▸hd)),if_neg o1,if_neg o2]
  ·have fA:∀ A:List au,(if A = [] then ([]:List (List au)) else [A]).flatten = A:=fun A=>by
    by_cases z:A = []
    ·rw [if_pos z,z]; rfl
    ·rw [if_neg z]; simp
   rw [List.flatten_append,List.flatten_append,fA,fA,List.append_assoc]
   have:(A ++ (B ++ S.flatten)).Perm (A ++ (B ++ S.flatten)):=List.Perm.refl _
   have e:((A ++ (b,a) :: B) ++ S.flatten).Perm ((b,a) :: (A ++ (B ++ S.flatten))):=by
    rw [List.append_assoc,List.cons_append]
    exact List.perm_middle
   exact (List.nodup_cons.mp (e.nodup_iff.mp u7)).2
  ·have fA:∀ A:List au,(if A = [] then ([]:List (List au)) else [A]).flatten = A:=fun A=>by
    by_cases z:A = []
    ·rw [if_pos z,z]; rfl
    ·rw [if_neg z]; simp
   rw [List.flatten_append,List.flatten_append,fA,fA,List.append_assoc,bZ m h,← D1.mem]
   have e:((A ++ (b,a) :: B) ++ S.flatten).Perm ((b,a) :: (A ++ (B ++ S.flatten))):=by
    rw [List.append_assoc,List.cons_append]
    exact List.perm_middle
   have e2:=List.nodup_cons.mp (e.nodup_iff.mp u7)
   rw [List.flatten_cons,List.cons_append]
   have e3:(a,b)∉A ++ (B ++ S.flatten):=fun z=>ot (List.mem_append.mp (e.mem_iff.mpr (List.mem_cons_of_mem _ z)))
   constructor
   ·intro z
    exact ⟨List.mem_cons_of_mem _ (e.mem_iff.mpr (List.mem_cons_of_mem _ z)),fun y=>e3 (y▸z),fun y=>e2.1 (y▸z)⟩
   ·rintro ⟨z,z1,z2⟩
    rcases List.mem_cons.mp z with z | z
    ·exact absurd z z1
    ·rcases List.mem_cons.mp (e.mem_iff.mp z) with z | z
     ·exact absurd z z2
     ·exact z
 ·right
  have q2:(b,a)∈S.flatten:=by
   have:=(D1.mem (b,a)).mpr hb
   rw [List.flatten_cons,List.cons_append] at this
   rcases List.mem_cons.mp this with z | z
   ·exact absurd z.symm ne
   ·rcases List.mem_append.mp z with z | z
    ·exact absurd z q
    ·exact z
  obtain ⟨c,hc,MI⟩:=List.mem_flatten.mp q2
  obtain ⟨T,pT⟩:=i7 hc
  obtain ⟨w,pw,kw⟩:=(D1.jE c (List.mem_cons_of_mem _ hc)).turn MI
  have pS:S.flatten.Perm (((b,a) :: w) ++ T.flatten):=by
   refine pT.flatten.trans ?_
   rw [List.flatten_cons]
   exact pw.symm.append_right _
  have nS:=pS.nodup_iff.mp Lj
  rw [List.cons_append,List.nodup_cons,List.mem_append] at nS
  obtain ⟨Lk,OO⟩:=nS
  have NS:(a,b)∉S.flatten:=fun z=>ot (.inr z)
  have GS:(a,b)∉w:=fun z=>NS (pS.mem_iff.mpr (List.mem_append_left _ (List.mem_cons_of_mem _ z)))
  have GD:(b,a)∉w:=fun z=>Lk (.inl z)
  have GU:(a,b)∉v:=fun z=>ot (.inl z)
  have IP:∀ d∈w,Dt L d:=fun d hd=>(D1.mem d).mp (by rw [List.flatten_cons]; exact List.mem_append_right _ (pS.mem_iff.mpr (List.mem_append_left _ (List.mem_cons_of_mem _ hd))))
  have v0:v≠[]:=fun z=>by
   rw [z] at kv
   have:nx L (a,b) = (a,b):=kv.nil_eq
   exact b2 (congrArg Prod.fst this)
  have w0:w≠[]:=fun z=>by
   rw [z] at kw
   have:nx L (b,a) = (b,a):=kw.nil_eq
   exact b2 (congrArg Prod.fst this).symm
  have k1:Wk (nx (rem L a b)) (nx L (a,b)) v (nx L (b,a)):=kv.new v0 GU (fun d hd e=>by rw [spec d (Bk d hd) (fun y=>GU (y▸hd)) (fun y=>q (y▸hd)),e,if_neg ne,if_pos rfl]) fun d hd e=>by
   rw [spec d (Bk d hd) (fun y=>GU (y▸hd)) (fun y=>q (y▸hd)),if_neg,if_neg e]
   intro y
   rcases kv.on d hd with u | u
   ·exact q (y▸u)
   ·exact e u
  have k2:Wk (nx (rem L a b)) (nx L (b,a)) w (nx L (a,b)):=kw.new w0 GD (fun d hd e=>by rw [spec d (IP d hd) (fun y=>GS (y▸hd)) (fun y=>GD (y▸hd)),if_pos e]) fun d hd e=>by
   rw [spec d (IP d hd) (fun y=>GS (y▸hd)) (fun y=>GD (y▸hd)),if_neg e,if_neg]
   intro y
   rcases kw.on d hd with u | u
   ·exact GS (y▸u)
   ·exact e u
  have pe:((a,b) :: (v ++ S.flatten)).Perm ((a,b) :: (b,a) :: ((v ++ w) ++ T.flatten)):=by
   refine List.Perm.cons _ ?_
   rw [List.append_assoc]
   exact (pS.append_left v).trans (by rw [List.cons_append]; exact List.perm_middle)
  have nA:((a,b) :: (b,a) :: ((v ++ w) ++ T.flatten)).Nodup:=pe.nodup_iff.mp (List.nodup_cons.mpr ⟨fun z=>ot (List.mem_append.mp z),u7⟩)
  obtain ⟨HR,Lm⟩:=List.nodup_cons.mp nA
  obtain ⟨HQ,Ll⟩:=List.nodup_cons.mp Lm
  have mm:∀ d,d∈(v ++ w) ++ T.flatten↔Dt (rem L a b) d:=fun d=>by
   rw [bZ m h,← D1.mem,List.flatten_cons,List.cons_append,pe.mem_iff]
   constructor
   ·intro z
    exact ⟨List.mem_cons_of_mem _ (List.mem_cons_of_mem _ z),fun y=>HR (List.mem_cons_of_mem _ (y▸z)),fun y=>HQ (y▸z)⟩
   ·rintro ⟨z,z1,z2⟩
    rcases List.mem_cons.mp z with z | z
    ·exact absurd z z1
    ·rcases List.mem_cons.mp z with z | z
     ·exact absurd z z2
     ·exact z
  refine ⟨v,w,T,⟨fun s hs=>?_,by rw [List.flatten_cons]; exact Ll,fun d=>by rw [List.flatten_cons]; exact mm d⟩,by rw [Ar,pT.length_eq]; rfl,v0,w0,k1,k2,fun d hd=>(mm d).mp (List.mem_append_left _ hd)⟩
  rcases List.mem_cons.mp hs with z | z
  ·rw [z]
   have k:=k1.append k2
   cases v with
   | nil=>exact absurd rfl v0
   | cons p v=>have:=k1.hd; subst this; exact ⟨_,_,rfl,k⟩
  ·have Mb:s∈S:=pT.mem_iff.mpr (List.mem_cons_of_mem _ z)
   have cy:=D1.jE s (List.mem_cons_of_mem _ Mb)
   have E9:∀ d∈s,d∈T.flatten:=fun d hd=>List.mem_flatten.mpr ⟨s,z,hd⟩
   have Al:(a,b)∉s:=fun y=>HR (List.mem_cons_of_mem _ (List.mem_append_right _ (E9 _ y)))
   have Ak:(b,a)∉s:=fun y=>HQ (List.mem_append_right _ (E9 _ y))
   obtain ⟨p,r,rfl,k⟩:=id cy
   refine ⟨p,r,rfl,k.congr fun d hd=>?_⟩
   have dd:Dt L d:=((bZ m h).mp ((mm d).mp (List.mem_append_right _ (E9 d hd)))).1
   have on:=cy.on hd
   have o1:nx L d≠(b,a):=fun y=>Ak (by rw [← y]; exact on)
   have o2:nx L d≠(a,b):=fun y=>Al (by rw [← y]; exact on)
   rw [spec d dd (fun y=>Al (y▸hd)) (fun y=>Ak (y▸hd)),if_neg o1,if_neg o2]
end
end Gm
end
section
namespace Gm
open PySem L2
def iso (L:List (List Int)):Nat:=L.countP (·.isEmpty)
def wZ (L:List (List Int)) (S:List Int):Prop:=∀ x:Int,0≤x→x < L.length→∃ s∈S,Reach L s x
theorem Reach.one {L:List (List Int)} {s:Int} {d:au} (h:Reach L s d.1) (q:Dt L d):Reach L s d.2:=by
 have e:((d.1.toNat:Nat):Int) = d.1:=Int.toNat_of_nonneg q.lo
 exact .step (i:=d.1.toNat) (by rw [e]; exact h) (aD q.lo q.hi) q.mem
theorem Reach.yH {L:List (List Int)} {i:Nat} {l:List Int} {x:Int} (e:L[i]? = some l) (hx:x∈l):Dt L ((i:Int),x):=by
 have hi:=(List.getElem?_eq_some_iff.mp e).1
 have:=aD (L:=L) (a:=(i:Int)) (by omega) (by omega)
 rw [Int.toNat_natCast,e] at this
 exact ⟨by simp,by simpa using hi,by rw [← Option.some.inj this]; exact hx⟩
section
variable {L:List (List Int)} {a b:Int}
theorem oW (m:aA L) (h:Dt L (a,b)):iso (rem L a b) = iso L + (if (rowOf L b).erase a = [] then 1 else 0) + (if (rowOf L a).erase b = [] then 1 else 0):=by
 obtain ⟨b0,b1,b2,b3⟩:=h.back m
 have a0:=h.lo
 have a1:=h.hi
 have hm:=h.mem
 dsimp only at a0 a1 b0 b1 b2 b3 hm
 have la:a.toNat < L.length:=by omega
 have lb:b.toNat < L.length:=by omega
 have ea:L[a.toNat] = rowOf L a:=by have:=aD a0 a1; rw [List.getElem?_eq_getElem la] at this; exact Option.some.inj this
 have eb:L[b.toNat] = rowOf L b:=by have:=aD b0 b1; rw [List.getElem?_eq_getElem lb] at this; exact Option.some.inj this
 have na:(rowOf L a).isEmpty = false:=by cases q:rowOf L a with | nil=>rw [q] at hm; cases hm | cons _ _=>rfl
 have nb:(rowOf L b).isEmpty = false:=by cases q:rowOf L b with | nil=>rw [q] at b3; cases b3 | cons _ _=>rfl
 have iE:∀ l:List Int,(if l.isEmpty = true then 1 else 0) = (if l = [] then 1 else 0):=fun l=>by cases l <;> simp
 unfold iso rem
 have nu:¬ a.toNat = b.toNat:=by omega
 have e1:(L.set a.toNat ((rowOf L a).erase b))[b.toNat]'(by rw [List.length_set]; exact lb) = rowOf L b:=by rw [List.getElem_set,if_neg nu,eb]
 rw [List.countP_set (by rw [List.length_set]; exact lb),List.countP_set la,e1,ea,na,nb,iE,iE]
 simp only [Bool.false_eq_true,if_false,Nat.sub_zero]
 omega
theorem fq (m:aA L) (h:Dt L (a,b)):(rowOf L b).erase a = []↔nx L (a,b) = (b,a):=by
 obtain ⟨b0,b1,b2,b3⟩:=h.back m
 dsimp only at b0 b1 b2 b3
 have n:=m.nd _ _ (aD b0 b1)
 constructor
 ·intro z
  have:rowOf L b = [a]:=by
   obtain ⟨u,v,e⟩:=List.append_of_mem b3
   rw [e] at z n ⊢
   have yu:a∉u:=fun y=>(List.nodup_append.mp n).2.2 a y a List.mem_cons_self rfl
   rw [List.erase_append_right _ yu,List.erase_cons_head] at z
   obtain ⟨z1,z2⟩:=List.append_eq_nil_iff.mp z
   rw [z1,z2]; rfl
  unfold nx
  rw [this]
  refine Prod.ext rfl ?_
  show pre [a] a = a
  unfold pre cy
  simp [Nat.mod_one]
 ·intro z
  have e:pre (rowOf L b) a = a:=congrArg Prod.snd z
  rw [i5 n b3 e]
  simp
end
end Gm
end
section
namespace Gm
open PySem L2
theorem Wk.all {f:au→au} {x y:au} {l:List au} {P:au→Prop} (h:Wk f x l y) (hx:P x) (s:∀ d∈l,P d→P (f d)):∀ d∈l,P d:=by
 induction h with
 | nil _=>intro d hd; cases hd
 | @cons x y l _ ih=>
  intro d hd
  rcases List.mem_cons.mp hd with e | e
  ·rw [e]; exact hx
  ·exact ih (s x List.mem_cons_self hx) (fun d hd=>s d (List.mem_cons_of_mem _ hd)) d e
theorem hX.conn {f:au→au} {c:List au} {x y:au} {P:au→Prop} (h:hX f c) (hx:x∈c) (hy:y∈c) (px:P x) (s:∀ d∈c,P d→P (f d)):P y:=by
 obtain ⟨v,p,k⟩:=h.turn hx
 have k2:Wk f x (x :: v) x:=.cons k
 exact k2.all px (fun d hd=>s d (p.mem_iff.mp hd)) y (p.mem_iff.mpr hy)
theorem qQ {R:List (List au)} (n:R.flatten.Nodup) {c e:List au} {d:au} (hc:c∈R) (he:e∈R) (h1:d∈c) (h2:d∈e):c = e:=by
 have p:=(List.pairwise_flatten.mp n).2
 obtain ⟨i,hi,rfl⟩:=List.mem_iff_getElem.mp hc
 obtain ⟨j,hj,rfl⟩:=List.mem_iff_getElem.mp he
 have q:=List.pairwise_iff_getElem.mp p
 rcases Nat.lt_trichotomy i j with z | z | z
 ·exact absurd rfl (q i j hi hj z d h1 d h2)
 ·subst z; rfl
 ·exact absurd rfl (q j i hj hi z d h2 d h1)
def yy (c:List au):au:=c.headD (0,0)
def rep (R:List (List au)) (d:au):au:=((R.find? fun c=>decide (d∈c)).map yy).getD (0,0)
theorem n6 {R:List (List au)} {d:au} (h:d∈R.flatten):∃ c∈R,d∈c∧rep R d = yy c:=by
 obtain ⟨c,hc,hd⟩:=List.mem_flatten.mp h
 unfold rep
 cases q:R.find? fun c=>decide (d∈c) with
 | none=>have:=List.find?_eq_none.mp q c hc; simp [hd] at this
 | some e=>
  have h1:=List.find?_some q
  exact ⟨e,List.mem_of_find?_eq_some q,by simpa using h1,rfl⟩
theorem jo {c:List au} (h:c≠[]):yy c∈c:=by cases c with | nil=>exact absurd rfl h | cons a l=>exact List.mem_cons_self
theorem Dec.le {L:List (List Int)} {R S:List (List au)} (h:Dec L R) (k:Dec L S):R.length≤S.length:=by
 have hm:∀ c∈R,yy c∈S.flatten:=fun c hc=>(k.mem _).mpr ((h.mem _).mp (List.mem_flatten.mpr ⟨c,hc,jo (h.jE c hc).ne⟩))
 have n:(R.map fun c=>rep S (yy c)).Nodup:=by
  have p:=(List.pairwise_flatten.mp h.nd).2
  refine List.Pairwise.map _ (fun x y pU=>pU) (List.Pairwise.imp_of_mem (fun {c e} hc he MF z=>?_) p)
  obtain ⟨c',h1,h2,h3⟩:=n6 (hm c hc)
  obtain ⟨e',g1,g2,g3⟩:=n6 (hm e he)
  rw [h3,g3] at z
  have ee:c' = e':=qQ k.nd h1 g1 (jo (k.jE c' h1).ne) (by rw [z]; exact jo (k.jE e' g1).ne)
  subst ee
  have:yy e∈c:=(k.jE c' h1).conn (P:=fun d=>d∈c) h2 g2 (jo (h.jE c hc).ne) fun d _ hd=>(h.jE c hc).on hd
  exact MF _ this _ (jo (h.jE e he).ne) rfl
 have:=eB n (r:=S.map yy) fun x hx=>by
  obtain ⟨c,hc,rfl⟩:=List.mem_map.mp hx
  obtain ⟨c',h1,h2,h3⟩:=n6 (hm c hc)
  rw [h3]
  exact List.mem_map.mpr ⟨c',h1,rfl⟩
 simpa using this
theorem Dec.count {L:List (List Int)} {R S:List (List au)} (h:Dec L R) (k:Dec L S):R.length = S.length:=Nat.le_antisymm (h.le k) (k.le h)
theorem cN {L:List (List Int)}:∀ {k:Nat} {d:au},k≤L.length→(d∈cT L k↔0≤d.1∧d.1 < k∧d.1 < d.2∧d.2 < L.length∧d.2∈rowOf L d.1)
 | 0,d,_=>by simp only [cT,List.not_mem_nil,false_iff]; intro h; omega
 | k + 1,d,hk=>by
  rw [cT,List.mem_append,cN (by omega),List.mem_map]
  have er:L.getD k [] = rowOf L (k:Int):=rfl
  rw [er]
  constructor
  ·rintro (⟨h1,h2,h3⟩ | ⟨x,hx,rfl⟩)
   ·exact ⟨h1,by omega,h3⟩
   ·have:=eT.mp hx
    exact ⟨by simp,by simp; omega,this.1,by have:=this.2.1; dsimp only; omega,this.2.2⟩
  ·rintro ⟨h1,h2,h3,h4,h5⟩
   by_cases e:d.1 = k
   ·right
    rw [e] at h5 h3
    exact ⟨d.2,eT.mpr ⟨h3,by omega,h5⟩,Prod.ext e.symm rfl⟩
   ·left; exact ⟨h1,by omega,h3,h4,h5⟩
theorem jc {L:List (List Int)}:∀ {k:Nat},k≤L.length→(cT L k).Nodup
 | 0,_=>.nil
 | k + 1,hk=>by
  rw [cT,List.nodup_append]
  refine ⟨jc (by omega),?_,fun a ha b hb z=>?_⟩
  ·exact List.Pairwise.map _ (fun x y pU z=>by have:=congrArg Prod.snd z; dsimp only at this; omega) (eK (i:=k) (l:=L.getD k []) (L.length - (k + 1)))
  ·have:=((cN (by omega)).mp ha).2.1
   obtain ⟨x,_,rfl⟩:=List.mem_map.mp hb
   rw [z] at this
   simp at this
theorem nE:∀ (l:List au) (p:au→Bool),l.length = (l.filter p).length + (l.filter fun d=>!p d).length
 | [],_=>rfl
 | x :: l,p=>by
  have:=nE l p
  cases q:p x with
  | true=>rw [List.filter_cons_of_pos q,List.filter_cons_of_neg (by simp [q]),List.length_cons,List.length_cons]; omega
  | false=>rw [List.filter_cons_of_neg (by simp [q]),List.filter_cons_of_pos (by simp [q]),List.length_cons,List.length_cons]; omega
theorem fe {L:List (List Int)} (m:aA L):(dE L L.length).length = 2 * (cT L L.length).length:=by
 have n:=cF m (Nat.le_refl L.length)
 have nd:=jc (L:=L) (Nat.le_refl L.length)
 have s:=nE (dE L L.length) (fun d:au=>decide (d.1 < d.2))
 have e1:((dE L L.length).filter fun d=>decide (d.1 < d.2)).length = (cT L L.length).length:=by
  refine len_eq (n.filter _) nd fun d=>?_
  rw [List.mem_filter,cN (Nat.le_refl _)]
  constructor
  ·rintro ⟨h1,h2⟩
   have q:=Dt.of h1
   exact ⟨q.lo,q.hi,by simpa using h2,(q.back m).2.1,q.mem⟩
  ·rintro ⟨h1,h2,h3,h4,h5⟩
   exact ⟨Dt.all ⟨h1,h2,h5⟩,by simpa using h3⟩
 have e2:((dE L L.length).filter fun d=>!decide (d.1 < d.2)).length = ((cT L L.length).map fun d=>(d.2,d.1)).length:=by
  have x6:((cT L L.length).map fun d=>(d.2,d.1)).Nodup:=List.Pairwise.map _ (fun x y pU z=>pU (Prod.ext (congrArg Prod.snd z) (congrArg Prod.fst z))) nd
  refine len_eq (n.filter _) x6 fun d=>?_
  ·rw [List.mem_filter,List.mem_map]
   constructor
   ·rintro ⟨h1,h2⟩
    have q:=Dt.of h1
    obtain ⟨b0,b1,b2,b3⟩:=q.back m
    refine ⟨(d.2,d.1),(cN (Nat.le_refl _)).mpr ⟨b0,b1,?_,q.hi,b3⟩,rfl⟩
    have:¬ d.1 < d.2:=by simpa using h2
    dsimp only
    omega
   ·rintro ⟨e,he,rfl⟩
    obtain ⟨h1,h2,h3,h4,h5⟩:=(cN (Nat.le_refl _)).mp he
    obtain ⟨b0,b1,b2,b3⟩:=Dt.back (d:=e) ⟨h1,h2,h5⟩ m
    refine ⟨Dt.all ⟨b0,b1,b3⟩,?_⟩
    have:¬ e.2 < e.1:=by omega
    simpa using this
 rw [List.length_map] at e2
 omega
theorem vR {L:List (List Int)} {d:au}:∀ k,Wk (nx L) d (tr L d k) (it L d k)
 | 0=>.nil _
 | k + 1=>by
  have e:tr L d (k + 1) = tr L d k ++ [it L d k]:=by unfold tr; rw [List.range_succ,List.map_append]; rfl
  rw [e]
  exact (vR k).append (.cons (.nil _))
theorem xg {L:List (List Int)} {d:au} {k:Nat} (hk:0 < k) (e:it L d k = d):hX (nx L) (tr L d k):=by
 have w:=vR (L:=L) (d:=d) k
 rw [e] at w
 obtain ⟨j,rfl⟩:∃ j,k = j + 1:=⟨k - 1,by omega⟩
 have e2:tr L d (j + 1) = d :: (tr L d (j + 1)).tail:=by unfold tr; rw [List.range_succ_eq_map]; rfl
 exact ⟨d,_,e2,w⟩
theorem jv {L:List (List Int)} {d:au} (m:aA L) (h:Dt L d):∃ k,0 < k∧it L d k = d∧kL L d k:=by
 have go:∀ n,(∃ k,0 < k∧it L d k = d∧kL L d k)∨kL L d (n + 1):=by
  intro n
  induction n with
  | zero=>exact .inr fun i h1 h2=>by omega
  | succ n ih=>
   rcases ih with z | z
   ·exact .inl z
   ·by_cases e:it L d (n + 1) = d
    ·exact .inl ⟨n + 1,by omega,e,z⟩
    ·refine .inr fun i h1 h2=>?_
     by_cases q:i = n + 1
     ·rw [q]; exact e
     ·exact z i h1 (by omega)
 rcases go (dE L L.length).length with z | z
 ·exact z
 ·have:=sN m h z
  omega
structure Dp (L:List (List Int)) (R:List (List au)):Prop where
 jE:∀ c∈R,hX (nx L) c
 nd:R.flatten.Nodup
 dt:∀ d∈R.flatten,Dt L d
section
variable {L:List (List Int)} {R:List (List au)} {d:au} {k:Nat}
theorem Dp.start:Dp L []:=⟨by simp,.nil,by simp⟩
theorem Dp.on (p:Dp L R) (h:d∈R.flatten):∀ t,it L d t∈R.flatten
 | 0=>h
 | t + 1=>by
  obtain ⟨c,hc,hd⟩:=List.mem_flatten.mp (p.on h t)
  exact List.mem_flatten.mpr ⟨c,hc,(p.jE c hc).on hd⟩
theorem Dp.new (p:Dp L R) (hk:0 < k) (e:it L d k = d) (n:d∉R.flatten) (j:Nat):it L d j∉R.flatten:=by
 intro h
 refine n ?_
 have:=p.on h (k * j - j)
 rw [← lW,show j + (k * j - j) = k * j from by have:=Nat.le_mul_of_pos_left j hk; omega,Nat.mul_comm] at this
 have z:=tm e (j * k)
 rw [Nat.mul_mod_left] at z
 rw [← z] at this
 exact this
theorem Dp.add (m:aA L) (p:Dp L R) (h:Dt L d) (hk:0 < k) (e:it L d k = d) (nr:kL L d k) (n:d∉R.flatten):Dp L (R ++ [tr L d k]):=by
 refine ⟨fun c hc=>?_,?_,fun x hx=>?_⟩
 ·rcases List.mem_append.mp hc with z | z
  ·exact p.jE c z
  ·rw [List.mem_singleton.mp z]; exact xg hk e
 ·rw [List.flatten_append,List.flatten_singleton,List.nodup_append]
  refine ⟨p.nd,iN m h nr,fun x hx y hy z=>?_⟩
  obtain ⟨j,_,rfl⟩:=List.mem_map.mp hy
  exact p.new hk e n j (z▸hx)
 ·rw [List.flatten_append,List.flatten_singleton] at hx
  rcases List.mem_append.mp hx with z | z
  ·exact p.dt x z
  ·obtain ⟨j,_,rfl⟩:=List.mem_map.mp z
   exact ji m h j
theorem Dp.len (p:Dp L R):R.flatten.length≤(dE L L.length).length:=eB p.nd fun x hx=>(p.dt x hx).all
theorem Dp.oA:∀ {R:List (List au)},(∀ c∈R,c≠[])→R.length≤R.flatten.length
 | [],_=>Nat.le_refl _
 | c :: R,h=>by
  have:=Dp.oA (R:=R) fun x hx=>h x (List.mem_cons_of_mem _ hx)
  have:=List.length_pos_iff.mpr (h c List.mem_cons_self)
  rw [List.flatten_cons,List.length_append,List.length_cons]
  omega
theorem Dp.dec (p:Dp L R) (all:∀ d,Dt L d→d∈R.flatten):Dec L R:=⟨p.jE,p.nd,fun d=>⟨p.dt d,all d⟩⟩
end
theorem aU.away {H:Hp} {t b:Addr} {bs:List Addr} {R:List (List Int)} {o:HO} (g:aU H t bs R) (n:b∉t :: bs):aU (upd H b o) t bs R:=by
 refine ⟨?_,g.len,fun i a l h1 h2=>?_⟩
 ·rw [ai (fun z=>n (by rw [← z]; exact List.mem_cons_self))]; exact g.top
 ·have am:=List.mem_of_getElem? h1
  have ne:a≠b:=fun z=>n (by rw [← z]; exact List.mem_cons_of_mem _ am)
  rw [ai ne]
  exact g.row i a l h1 h2
end Gm
end
section
namespace L2
open PySem PySem.Spec PySem.W PySem.Calls PyProof.Rows
section
variable {X:Cx}
def F9 (ns:List Int):List Int:=ns.foldl step_dedup []
def HB (K:Frag):List V→Hp→VK→Prop:=fun vs H Q=>∃ (a:Addr) (ns:List Int),vs = [.ref a]∧aG K H a (ns.map V.int)∧ns.length≤1000∧∀ (p:Addr) (S:Int→Bool),H p = none→Q (.ref p) (upd H p (.set S (F9 ns).length))
def Km:R2:=fun x y H Q=>∃ a b:Bool,x = .bl a∧y = .bl b∧Q (.bl (a == b)) H
def Ko (K:Frag):R2:=fun x y H Q=>∃ (p l:Addr) (d:Int×Int) (ps:List Addr) (T:List (Int×Int)),x = .ref p∧y = .ref l∧H p = some (.tup [.int d.1,.int d.2])∧H l = some (.lst (ps.map V.ref))∧Gm.PR H ps T∧Q (.bl (decide (d∈T))) H
def B3:V→List V→Hp→VK→Prop:=fun x vs H Q=>∃ (l:Addr) (ns:List Int) (y:Int),x = .ref l∧vs = [.int y]∧H l = some (.lst (ns.map V.int))∧y∈ns∧Q .bK (upd H l (.lst ((ns.erase y).map V.int)))
end
end L2
end
section
namespace Gm
open PySem L2
theorem jw {L:List (List Int)} (m:aA L):∃ R,Dec L R:=by
 have go:∀ ds:List au,(∀ d∈ds,Dt L d)→∃ R,Dp L R∧∀ d∈ds,d∈R.flatten:=by
  intro ds
  induction ds with
  | nil=>intro _; exact ⟨[],Dp.start,by simp⟩
  | cons d ds ih=>
   intro h
   obtain ⟨R,p,q⟩:=ih fun x hx=>h x (List.mem_cons_of_mem _ hx)
   by_cases e:d∈R.flatten
   ·refine ⟨R,p,fun x hx=>?_⟩
    rcases List.mem_cons.mp hx with z | z
    ·rw [z]; exact e
    ·exact q x z
   ·have dt:=h d List.mem_cons_self
    obtain ⟨k,k0,ek,nr⟩:=jv m dt
    refine ⟨_,p.add m dt k0 ek nr e,fun x hx=>?_⟩
    rw [List.flatten_append,List.flatten_singleton]
    rcases List.mem_cons.mp hx with z | z
    ·rw [z]; exact List.mem_append_right _ (List.mem_map.mpr ⟨0,List.mem_range.mpr k0,rfl⟩)
    ·exact List.mem_append_left _ (q x z)
 obtain ⟨R,p,q⟩:=go (dE L L.length) fun d hd=>Dt.of hd
 exact ⟨R,p.dec fun d hd=>q d hd.all⟩
theorem Wk.last {f:au→au} {x y:au} {l:List au} (h:Wk f x l y) (n:l≠[]):∃ d∈l,f d = y:=by
 induction h with
 | nil _=>exact absurd rfl n
 | @cons x y l k ih=>
  cases l with
  | nil=>exact ⟨x,List.mem_cons_self,k.nil_eq⟩
  | cons p l=>
   obtain ⟨d,hd,e⟩:=ih (by simp)
   exact ⟨d,List.mem_cons_of_mem _ hd,e⟩
section
variable {M:List (List Int)} {a b z1 z2:Int}
theorem vE {R R':List (List au)} (m':aA M) (h:Dt M (a,b)) (f1:nx M (z1,a) = (a,b)) (f2:nx M (z2,b) = (b,a)) (d1:Dt (rem M a b) (z1,a)) (d2:Dt (rem M a b) (z2,b)) (D:Dec (rem M a b) R) (D':Dec M R')
  (conn:∀ P:au→Prop,P (z1,a)→(∀ d,Dt (rem M a b) d→P d→P (nx (rem M a b) d))→P (z2,b)):R'.length = R.length + 1∧iso M = iso (rem M a b):=by
 obtain ⟨b0,b1,b2,b3⟩:=h.back m'
 have hb:Dt M (b,a):=⟨b0,b1,b3⟩
 have o1:=(bZ m' h).mp d1
 have o2:=(bZ m' h).mp d2
 have x1:nx M (a,b)≠(b,a):=fun z=>o2.2.1 (cA m' h o2.1 (z.trans f2.symm)).symm
 have x2:nx M (b,a)≠(a,b):=fun z=>o1.2.2 (cA m' hb o1.1 (z.trans f1.symm)).symm
 have i1:¬ (rowOf M b).erase a = []:=fun z=>x1 ((fq m' h).mp z)
 have i2:¬ (rowOf M a).erase b = []:=fun z=>x2 ((fq m' hb).mp z)
 have iE:=oW m' h
 rw [if_neg i1,if_neg i2] at iE
 refine ⟨?_,iE.symm⟩
 rcases oY m' h D' with ⟨A,B,S,DL,lR,kA,kB⟩ | ⟨A,B,S,DL,lR,_⟩
 ·exfalso
  have A0:A≠[]:=fun z=>by rw [z] at kA; exact x1 kA.nil_eq
  have B0:B≠[]:=fun z=>by rw [z] at kB; exact x2 kB.nil_eq
  rw [if_neg A0,if_neg B0] at DL
  have LR:∀ d∈A,Dt M d:=fun d hd=>((bZ m' h).mp ((DL.mem d).mp (List.mem_flatten.mpr ⟨A,by simp,hd⟩))).1
  have LQ:∀ d∈B,Dt M d:=fun d hd=>((bZ m' h).mp ((DL.mem d).mp (List.mem_flatten.mpr ⟨B,by simp,hd⟩))).1
  obtain ⟨p,hp,ep⟩:=kA.last A0
  obtain ⟨q,hq,eq⟩:=kB.last B0
  have pe:p = (z2,b):=cA m' (LR p hp) o2.1 (ep.trans f2.symm)
  have qe:q = (z1,a):=cA m' (LQ q hq) o1.1 (eq.trans f1.symm)
  rw [pe] at hp
  rw [qe] at hq
  have cB:hX (nx (rem M a b)) B:=DL.jE B (by simp)
  have:=conn (fun d=>d∈B) hq fun d _ hd=>cB.on hd
  have nd:=DL.nd
  rw [List.flatten_append,List.flatten_append,List.flatten_singleton,List.flatten_singleton,List.append_assoc] at nd
  exact (List.nodup_append.mp nd).2.2 _ hp _ (List.mem_append_left _ this) rfl
 ·have:=D.count DL
  rw [List.length_cons] at this
  omega
theorem sX {R R':List (List au)} (m':aA M) (h:Dt M (a,b)) (e1:nx M (a,b) = (b,a)) (f1:nx M (z1,a) = (a,b)) (d1:Dt (rem M a b) (z1,a)) (D:Dec (rem M a b) R) (D':Dec M R'):R'.length = R.length∧iso (rem M a b) = iso M + 1:=by
 obtain ⟨b0,b1,b2,b3⟩:=h.back m'
 have hb:Dt M (b,a):=⟨b0,b1,b3⟩
 have o1:=(bZ m' h).mp d1
 have x2:nx M (b,a)≠(a,b):=fun z=>o1.2.2 (cA m' hb o1.1 (z.trans f1.symm)).symm
 have i2:¬ (rowOf M a).erase b = []:=fun z=>x2 ((fq m' hb).mp z)
 have iE:=oW m' h
 rw [if_pos ((fq m' h).mpr e1),if_neg i2] at iE
 refine ⟨?_,iE⟩
 rcases oY m' h D' with ⟨A,B,S,DL,lR,kA,kB⟩ | ⟨A,B,S,DL,lR,A0,B0,kA,kB,dd⟩
 ·have A0:A = []:=by
   cases A with
   | nil=>rfl
   | cons p A=>
    have hp:=kA.hd
    have dt:Dt (rem M a b) p:=(DL.mem p).mp (List.mem_flatten.mpr ⟨p :: A,by simp,List.mem_cons_self⟩)
    rw [hp,e1] at dt
    exact absurd rfl ((bZ m' h).mp dt).2.2
  have B0:B≠[]:=fun z=>by rw [z] at kB; exact x2 kB.nil_eq
  rw [if_pos A0,if_neg B0] at DL
  have:=D.count DL
  rw [List.nil_append,List.singleton_append,List.length_cons] at this
  omega
 ·cases A with
  | nil=>exact absurd rfl A0
  | cons p A=>
   have hp:=kA.hd
   have dt:=dd p (by simp)
   rw [hp,e1] at dt
   exact absurd rfl ((bZ m' h).mp dt).2.2
end
structure bV (L:List (List Int)):Prop where
 map:aA L
 two:2≤L.length
 span:wZ L [0]
 CN:∃ R,Dec L R∧(L.length:Int) + R.length + iso L = (cT L L.length).length + 2
theorem Reach.mono {L M:List (List Int)} (h:∀ d,Dt L d→Dt M d) {s x:Int} (r:Reach L s x):Reach M s x:=by
 induction r with
 | here=>exact .here
 | step r e hx ih=>
  rename_i i l y
  exact Reach.one (d:=((i:Int),y)) ih (h _ (Reach.yH e hx))
def both (L:List (List Int)) (a b:Int) (A B:List Int):List (List Int):=(L.set a.toNat A).set b.toNat B
structure aY (L:List (List Int)) (a b:Int) (A B:List Int):Prop where
 map:aA L
 a0:0≤a
 a1:a < L.length
 b0:0≤b
 b1:b < L.length
 ne:a≠b
 no:b∉rowOf L a
 pa:A.Perm (b :: rowOf L a)
 pb:B.Perm (a :: rowOf L b)
 ea:A.erase b = rowOf L a
 eb:B.erase a = rowOf L b
section
variable {L:List (List Int)} {a b:Int} {A B:List Int}
theorem aY.EK (F:aY L a b A B):a∉rowOf L b:=fun z=>F.no (Dt.back (d:=(b,a)) ⟨F.b0,F.b1,z⟩ F.map).2.2.2
theorem b8:(both L a b A B).length = L.length:=by unfold both; simp
theorem aY.row (F:aY L a b A B) {x:Int} (hx:0≤x):rowOf (both L a b A B) x = if x = b then B else if x = a then A else rowOf L x:=by
 have:=F.a0; have:=F.a1; have:=F.b0; have:=F.b1; have:=F.ne
 show (both L a b A B).getD x.toNat [] = _
 unfold both
 rw [List.getD_eq_getElem?_getD,List.getElem?_set]
 by_cases e:x = b
 ·subst e
  rw [if_pos rfl,if_pos rfl,if_pos (by rw [List.length_set]; omega)]
  rfl
 ·rw [if_neg (by omega),if_neg e,List.getElem?_set]
  by_cases e2:x = a
  ·subst e2
   rw [if_pos rfl,if_pos rfl,if_pos (by omega)]
   rfl
  ·rw [if_neg (by omega),if_neg e2,← List.getD_eq_getElem?_getD]
   rfl
theorem aY.mem (F:aY L a b A B) {x y:Int} (hx:0≤x):y∈rowOf (both L a b A B) x↔y∈rowOf L x∨(x = a∧y = b)∨(x = b∧y = a):=by
 rw [F.row hx]
 by_cases e:x = b
 ·subst e
  rw [if_pos rfl,F.pb.mem_iff,List.mem_cons]
  constructor
  ·rintro (z | z)
   ·exact .inr (.inr ⟨rfl,z⟩)
   ·exact .inl z
  ·rintro (z | z | z)
   ·exact .inr z
   ·exact absurd z.1.symm F.ne
   ·exact .inl z.2
 ·rw [if_neg e]
  by_cases e2:x = a
  ·subst e2
   rw [if_pos rfl,F.pa.mem_iff,List.mem_cons]
   constructor
   ·rintro (z | z)
    ·exact .inr (.inl ⟨rfl,z⟩)
    ·exact .inl z
   ·rintro (z | z | z)
    ·exact .inr z
    ·exact .inl z.2
    ·exact absurd z.1 e
  ·rw [if_neg e2]
   exact ⟨.inl,fun z=>z.elim id fun z=>z.elim (fun w=>absurd w.1 e2) fun w=>absurd w.1 e⟩
theorem aY.eX (F:aY L a b A B):aA (both L a b A B):=by
 have:=F.a0; have:=F.a1; have:=F.b0; have:=F.b1; have ne:=F.ne
 refine gE fun x x0 x1=>?_
 rw [b8] at x1 ⊢
 have n:=F.map.nd _ _ (aD x0 x1)
 refine ⟨?_,fun y hy=>?_⟩
 ·rw [F.row x0]
  split
  ·rename_i e; subst e; exact F.pb.nodup_iff.mpr (List.nodup_cons.mpr ⟨F.EK,n⟩)
  ·split
   ·rename_i e; subst e; exact F.pa.nodup_iff.mpr (List.nodup_cons.mpr ⟨F.no,n⟩)
   ·exact n
 ·rcases (F.mem x0).mp hy with z | ⟨z,w⟩ | ⟨z,w⟩
  ·obtain ⟨c0,c1,c2,c3⟩:=Dt.back (d:=(x,y)) ⟨x0,x1,z⟩ F.map
   exact ⟨c0,c1,c2,(F.mem c0).mpr (.inl c3)⟩
  ·subst z w
   exact ⟨F.b0,F.b1,ne.symm,(F.mem F.b0).mpr (.inr (.inr ⟨rfl,rfl⟩))⟩
  ·subst z w
   exact ⟨F.a0,F.a1,ne,(F.mem F.a0).mpr (.inr (.inl ⟨rfl,rfl⟩))⟩
theorem aY.dt (F:aY L a b A B):Dt (both L a b A B) (a,b):=⟨F.a0,by rw [b8]; exact F.a1,(F.mem F.a0).mpr (.inr (.inl ⟨rfl,rfl⟩))⟩
theorem aY.rem (F:aY L a b A B):rem (both L a b A B) a b = L:=by
 have a0:=F.a0; have a1:=F.a1; have b0:=F.b0; have b1:=F.b1; have ne:=F.ne
 unfold Gm.rem
 rw [F.row a0,F.row b0,if_neg ne,if_pos rfl,if_pos rfl,F.ea,F.eb]
 unfold both
 apply List.ext_getElem?
 intro i
 rw [List.getElem?_set]
 by_cases e:b.toNat = i
 ·rw [if_pos e]
  have:i < L.length:=by omega
  rw [if_pos (by simp; omega),← e,aD b0 b1]
 ·rw [if_neg e,List.getElem?_set]
  by_cases e2:a.toNat = i
  ·rw [if_pos e2,if_pos (by simp; omega),← e2,aD a0 a1]
  ·rw [if_neg e2,List.getElem?_set,if_neg e,List.getElem?_set,if_neg e2]
theorem aY.sub (F:aY L a b A B) (d:au) (h:Dt L d):Dt (both L a b A B) d:=⟨h.lo,by rw [b8]; exact h.hi,(F.mem h.lo).mpr (.inl h.mem)⟩
theorem aY.F7 (F:aY L a b A B):(cT (both L a b A B) L.length).length = (cT L L.length).length + 1:=by
 have h1:=(mP F.eX F.dt).2
 rw [F.rem] at h1
 have h2:=fe F.eX
 have h3:=fe F.map
 rw [b8] at h1 h2
 omega
theorem aY.we (F:aY L a b A B) (s:bV L) {z1 z2:Int} (h1:z1∈rowOf L a) (h2:z2∈rowOf L b) (f1:pre A z1 = b) (f2:pre B z2 = a)
  (conn:∀ P:au→Prop,P (z1,a)→(∀ d,Dt L d→P d→P (nx L d))→P (z2,b)):bV (both L a b A B):=by
 obtain ⟨c0,c1,c2,c3⟩:=Dt.back (d:=(a,z1)) ⟨F.a0,F.a1,h1⟩ F.map
 obtain ⟨e0,e1,e2,e3⟩:=Dt.back (d:=(b,z2)) ⟨F.b0,F.b1,h2⟩ F.map
 obtain ⟨R,D,ch⟩:=s.CN
 obtain ⟨R',D'⟩:=jw F.eX
 have n1:nx (both L a b A B) (z1,a) = (a,b):=by
  unfold nx; dsimp only; rw [F.row F.a0,if_neg F.ne,if_pos rfl,f1]
 have n2:nx (both L a b A B) (z2,b) = (b,a):=by
  unfold nx; dsimp only; rw [F.row F.b0,if_pos rfl,f2]
 obtain ⟨l1,l2⟩:=vE (R:=R) F.eX F.dt n1 n2 (by rw [F.rem]; exact ⟨c0,c1,c3⟩) (by rw [F.rem]; exact ⟨e0,e1,e3⟩) (by rw [F.rem]; exact D) D' (by rw [F.rem]; exact conn)
 rw [F.rem] at l2
 refine ⟨F.eX,by rw [b8]; exact s.two,fun x x0 x1=>?_,R',D',?_⟩
 ·rw [b8] at x1
  obtain ⟨t,ht,r⟩:=s.span x x0 x1
  exact ⟨t,ht,r.mono F.sub⟩
 ·rw [b8,F.F7,l1,l2]
  omega
end
theorem ft:∀ {l:List Int} {k:Nat} {x:Int},x∉l→(put l k x).erase x = l:=fun {l k x} h=>by
 unfold put
 rw [List.erase_append_right _ (fun z=>h (List.mem_of_mem_take z)),List.erase_cons_head,List.take_append_drop]
theorem pM:∀ {l:List Int} {p z x:Int},z∈l→x≠z→cM p (put l (l.idxOf z) x) z = x
 | [],_,_,_,h,_=>by cases h
 | h :: t,p,z,x,hz,hx=>by
  rw [List.idxOf_cons]
  by_cases e:h = z
  ·subst e
   have:(h == h) = true:=by simp
   rw [this]
   show cM p (x :: h :: t) h = x
   show (if x = h then p else if h = h then x else cM h t h) = x
   rw [if_neg hx,if_pos rfl]
  ·have e2:(h == z) = false:=beq_false_of_ne e
   rw [e2]
   show cM p (h :: put t (t.idxOf z) x) z = x
   show (if h = z then p else cM h (put t (t.idxOf z) x) z) = x
   rw [if_neg e]
   exact pM ((List.mem_cons.mp hz).resolve_left (fun w=>e w.symm)) hx
theorem eo {l:List Int} {z x:Int} (hz:z∈l) (hx:x∉l):pre (put l (l.idxOf z) x) z = x:=by
 rw [gs (bW.mpr (.inr hz))]
 exact pM hz (fun w=>hx (w▸hz))
theorem nV {l:List Int} {x:Int} (h:x∉l):(l ++ [x]).erase x = l:=by rw [List.erase_append_right _ h,List.erase_cons_head,List.append_nil]
theorem mT {l:List Int} {y x:Int}:pre ((y :: l) ++ [x]) y = x:=by
 rw [gs (by simp),ez (y :: l) (v:=[x]) (by simp)]
 show (if y = y then lst [x] else _) = x
 rw [if_pos rfl]; rfl
end Gm
end
section
namespace Gm
open PySem L2
theorem Reach.inv {L:List (List Int)} {s x:Int} (r:Reach L s x):x = s∨∃ (j:Nat) (l:List Int),L[j]? = some l∧x∈l:=by
 cases r with
 | here=>exact .inl rfl
 | step r e hx=>exact .inr ⟨_,_,e,hx⟩
theorem bV.Aw {L:List (List Int)} (s:bV L):iso L = 0:=by
 unfold iso
 refine List.countP_eq_zero.mpr fun l hl=>?_
 obtain ⟨i,hi,rfl⟩:=List.mem_iff_getElem.mp hl
 have ei:L[i]? = some L[i]:=List.getElem?_eq_getElem hi
 intro z
 have e0:L[i] = []:=by simpa using z
 have two:=s.two
 by_cases h0:i = 0
 ·subst h0
  obtain ⟨t,ht,r⟩:=s.span 1 (by omega) (by omega)
  have:t = 0:=List.mem_singleton.mp ht
  subst this
  have go:∀ x,Reach L 0 x→x = 0:=fun x r=>by
   induction r with
   | here=>rfl
   | step r e hx ih=>
    rename_i j l y
    have:j = 0:=by omega
    subst this
    rw [ei] at e
    cases e
    rw [e0] at hx
    cases hx
  exact absurd (go 1 r) (by omega)
 ·obtain ⟨t,ht,r⟩:=s.span i (by omega) (by omega)
  have:t = 0:=List.mem_singleton.mp ht
  subst this
  rcases r.inv with w | ⟨j,l,e,hx⟩
  ·omega
  ·have:=s.map.sy _ _ e _ hx i rfl _ ei
   rw [e0] at this
   cases this
theorem bV.three {L:List (List Int)} (s:bV L) (h3:3≤L.length) {R:List (List au)} (D:Dec L R) {c:List au} (hc:c∈R):3≤c.length:=by
 have dt:∀ d∈c,Dt L d:=fun d hd=>(D.mem d).mp (List.mem_flatten.mpr ⟨c,hc,hd⟩)
 obtain ⟨x,l,e,k⟩:=D.jE c hc
 subst e
 have hx:=dt x List.mem_cons_self
 obtain ⟨b0,b1,b2,b3⟩:=hx.back s.map
 have k1:=k.tl
 cases l with
 | nil=>exact absurd (congrArg Prod.fst k1.nil_eq) b2
 | cons y l=>
  cases l with
  | cons w l=>simp
  | nil=>
   exfalso
   have ey:=k1.hd
   have ex:=k1.tl.nil_eq
   rw [← ey] at ex
   have y1:y.1 = x.2:=by rw [ey]; rfl
   have y2:y.2 = x.1:=congrArg Prod.fst ex
   have p1:pre (rowOf L x.2) x.1 = x.1:=by
    have:y.2 = pre (rowOf L x.2) x.1:=by rw [ey]; rfl
    rw [← this,y2]
   have p2:pre (rowOf L x.1) x.2 = x.2:=by
    have:pre (rowOf L y.2) y.1 = x.2:=congrArg Prod.snd ex
    rwa [y1,y2] at this
   have r1:=i5 (s.map.nd _ _ (aD b0 b1)) b3 p1
   have r2:=i5 (s.map.nd _ _ (aD hx.lo hx.hi)) hx.mem p2
   have go:∀ u,Reach L 0 u→((u = x.1∨u = x.2)↔((0:Int) = x.1∨(0:Int) = x.2)):=fun u r=>by
    induction r with
    | here=>exact Iff.rfl
    | step r e hv ih=>
     rename_i i l v
     refine Iff.trans ?_ ih
     have d:=Reach.yH e hv
     obtain ⟨q0,q1,q2,q3⟩:=d.back s.map
     have dm:=d.mem
     dsimp only at q0 q1 q2 q3 dm
     constructor
     ·rintro (z | z)
      ·rw [z,r2] at q3; exact .inr (List.mem_singleton.mp q3)
      ·rw [z,r1] at q3; exact .inl (List.mem_singleton.mp q3)
     ·rintro (z | z)
      ·rw [z,r2] at dm; exact .inr (List.mem_singleton.mp dm)
      ·rw [z,r1] at dm; exact .inl (List.mem_singleton.mp dm)
   have reach:∀ u:Int,0≤u→u < L.length→Reach L 0 u:=fun u h0 h1=>by
    obtain ⟨t,ht,r⟩:=s.span u h0 h1
    rw [List.mem_singleton.mp ht] at r; exact r
   have z0:=(go x.1 (reach x.1 hx.lo hx.hi)).mp (.inl rfl)
   have l1:=hx.lo
   have c0:=(go 0 (reach 0 (by omega) (by omega))).mpr z0
   have c1:=(go 1 (reach 1 (by omega) (by omega))).mpr z0
   have c2:=(go 2 (reach 2 (by omega) (by omega))).mpr z0
   omega
theorem js:∀ {R:List (List au)},(∀ c∈R,3≤c.length)→3 * R.length≤R.flatten.length
 | [],_=>Nat.le_refl _
 | c :: R,h=>by
  have:=js (R:=R) fun x hx=>h x (List.mem_cons_of_mem _ hx)
  have:=h c List.mem_cons_self
  rw [List.flatten_cons,List.length_append,List.length_cons]
  omega
theorem Dec.len {L:List (List Int)} {R:List (List au)} (m:aA L) (D:Dec L R):R.flatten.length = (dE L L.length).length:=
 len_eq D.nd (cF m (Nat.le_refl _)) fun d=>(D.mem d).trans ⟨fun h=>h.all,fun h=>Dt.of h⟩
theorem bV.oA {L:List (List Int)} (s:bV L) (h:L.length≤20):(dE L L.length).length < 128:=by
 by_cases h3:3≤L.length
 ·obtain ⟨R,D,ch⟩:=s.CN
  have f:=js fun c hc=>s.three h3 D hc
  rw [D.len s.map] at f
  have i:=s.Aw
  have d:=fe s.map
  omega
 ·exact qR s.map (by omega)
def cI (L:List (List Int)):List (List Int):=L ++ [[]]
section
variable {L:List (List Int)}
theorem cO {x:Int} (x0:0≤x):rowOf (cI L) x = if x < L.length then rowOf L x else []:=by
 unfold rowOf cI
 rw [List.getD_eq_getElem?_getD,List.getD_eq_getElem?_getD]
 by_cases h:x < L.length
 ·rw [if_pos h,List.getElem?_append_left (by omega)]
 ·rw [if_neg h,List.getElem?_append_right (by omega)]
  cases q:([[]]:List (List Int))[x.toNat - L.length]? with
  | none=>rfl
  | some l=>
   have:=List.mem_of_getElem? q
   rw [List.mem_singleton.mp this]; rfl
theorem dh {d:au}:Dt (cI L) d↔Dt L d:=by
 constructor
 ·intro h
  have m:=h.mem
  rw [cO h.lo] at m
  by_cases z:d.1 < L.length
  ·rw [if_pos z] at m; exact ⟨h.lo,z,m⟩
  ·rw [if_neg z] at m; cases m
 ·intro h
  refine ⟨h.lo,by unfold cI; have:=h.hi; simp; omega,?_⟩
  rw [cO h.lo,if_pos h.hi]; exact h.mem
theorem eV:(cI L).length = L.length + 1:=by unfold cI; simp
theorem m9 (m:aA L):aA (cI L):=by
 refine gE fun x x0 x1=>?_
 rw [cO x0]
 by_cases z:x < L.length
 ·rw [if_pos z]
  refine ⟨m.nd _ _ (aD x0 z),fun y hy=>?_⟩
  obtain ⟨c0,c1,c2,c3⟩:=Dt.back (d:=(x,y)) ⟨x0,z,hy⟩ m
  dsimp only at c0 c1 c2 c3
  rw [cO c0,if_pos c1,eV]
  exact ⟨c0,by omega,c2,c3⟩
 ·rw [if_neg z]; exact ⟨.nil,fun y hy=>by cases hy⟩
theorem iD (m:aA L) {d:au} (h:Dt L d):nx (cI L) d = nx L d:=by
 obtain ⟨b0,b1,b2,b3⟩:=h.back m
 unfold nx
 rw [cO b0,if_pos b1]
theorem sV {R:List (List au)} (m:aA L) (D:Dec L R):Dec (cI L) R:=by
 refine ⟨fun c hc=>?_,D.nd,fun d=>(D.mem d).trans dh.symm⟩
 obtain ⟨x,l,e,k⟩:=D.jE c hc
 exact ⟨x,l,e,k.congr fun d hd=>iD m ((D.mem d).mp (List.mem_flatten.mpr ⟨c,hc,hd⟩))⟩
theorem sT:iso (cI L) = iso L + 1:=by unfold iso cI; rw [List.countP_append]; rfl
theorem sU (m:aA L):(dE (cI L) (cI L).length).length = (dE L L.length).length:=
 len_eq (cF (m9 m) (Nat.le_refl _)) (cF m (Nat.le_refl _)) fun d=>⟨fun h=>(dh.mp (Dt.of h)).all,fun h=>(dh.mpr (Dt.of h)).all⟩
end
structure Pl (L:List (List Int)) (r:List Int) (c1 cj:Nat) (dn:List Nat) (M:List (List Int)):Prop where
 sh:bV M
 len:M.length = L.length + 1
 new:rowOf M (L.length:Int) = dn.map (cy r)
 hd:∃ rest,dn = c1 :: rest
 keep:∀ x:Int,0≤x→x < L.length→(∀ c∈dn,cy r c≠x)→rowOf M x = rowOf L x
 sub:∀ d,Dt L d→Dt M d
 le:c1≤cj
 top:cj < r.length
 i1:∀ i,cj≤i→i + 1 < c1 + r.length→nx M (dj r i) = dj r (i + 1)
 i2:nx M (dj r (c1 + (r.length - 1))) = (cy r c1,(L.length:Int))
 i3:nx M (cy r c1,(L.length:Int)) = ((L.length:Int),cy r cj)
 i4:nx M ((L.length:Int),cy r cj) = dj r cj
section
variable {L:List (List Int)} {r:List Int}
theorem gH {i j:Nat} (n:(sh 0 r).Nodup) (h:i < j) (h2:j < i + r.length):dj r i≠dj r j:=by
 intro z
 have r0:0 < r.length:=by omega
 have e1:dj r (i % r.length) = dj r i:=dz (Nat.mod_mod _ _)
 have e2:dj r (j % r.length) = dj r j:=dz (Nat.mod_mod _ _)
 have m1:=Nat.mod_lt i r0
 have m2:=Nat.mod_lt j r0
 have at_:∀ k (hk:k < r.length),(sh 0 r)[k]'(by rw [kY]; exact hk) = dj r k:=fun k hk=>by
  have:=zS (s:=0) hk
  rw [List.getElem?_eq_getElem (by rw [kY]; exact hk)] at this
  exact Option.some.inj this
 have e3:i % r.length = j % r.length:=by
  refine (List.getElem_inj (h₀:=by rw [kY]; exact m1) (h₁:=by rw [kY]; exact m2) n).mp ?_
  rw [at_ _ m1,at_ _ m2,e1,e2,z]
 have:=Nat.div_add_mod i r.length
 have:=Nat.div_add_mod j r.length
 have a:r.length * (i / r.length) < r.length * (j / r.length):=by omega
 have b:i / r.length + 1≤j / r.length:=Nat.lt_of_mul_lt_mul_left a
 have c:=Nat.mul_le_mul_left r.length b
 rw [Nat.mul_add,Nat.mul_one] at c
 omega
theorem cK (g:Good L r) (m:aA L) {c:Nat}:cy r (c + (r.length - 1))∈rowOf L (cy r c)∧0≤cy r c∧cy r c < L.length∧dj r (c + (r.length - 1)) = (cy r (c + (r.length - 1)),cy r c):=by
 have two:=g.two
 have e:cy r (c + (r.length - 1) + 1) = cy r c:=ff (by rw [show c + (r.length - 1) + 1 = c + r.length by omega,Nat.add_mod_right])
 have d:=g.dt (c + (r.length - 1))
 have b:=d.back m
 have ed:dj r (c + (r.length - 1)) = (cy r (c + (r.length - 1)),cy r c):=by unfold dj; rw [e]
 rw [ed] at b
 exact ⟨b.2.2.2,b.1,b.2.1,ed⟩
theorem lT {x:Int} (m:aA L) (x0:0≤x) (x1:x < L.length):(L.length:Int)∉rowOf L x:=fun z=>by
 have:=m.rg _ _ (aD x0 x1) _ z
 omega
theorem Pl.first (s:bV L) (g:Good L r) (nd:(Gm.sh 0 r).Nodup) {c:Nat} (hc:c < r.length) :
  aY (cI L) (cy r c) (L.length:Int) (put (rowOf L (cy r c)) ((rowOf L (cy r c)).idxOf (cy r (c + (r.length - 1)))) L.length) [cy r c]∧
  Pl L r c c [c] (both (cI L) (cy r c) (L.length:Int) (put (rowOf L (cy r c)) ((rowOf L (cy r c)).idxOf (cy r (c + (r.length - 1)))) L.length) [cy r c]):=by
 have two:=g.two
 obtain ⟨z1,x0,x1,ed⟩:=cK g s.map (c:=c)
 generalize hx:cy r c = x at z1 x0 x1 ed ⊢
 generalize hz:cy r (c + (r.length - 1)) = z at z1 ed ⊢
 have nn:=lT s.map x0 x1
 have lx:rowOf (cI L) x = rowOf L x:=by rw [cO x0,if_pos x1]
 have ln:rowOf (cI L) (L.length:Int) = []:=by rw [cO (by omega),if_neg (by omega)]
 have F:aY (cI L) x (L.length:Int) (put (rowOf L x) ((rowOf L x).idxOf z) L.length) [x]:=
  ⟨m9 s.map,x0,by rw [eV]; omega,by omega,by rw [eV]; omega,by omega,by rw [lx]; exact nn,by rw [lx]; exact dZ _ _ _,by rw [ln],by rw [lx]; exact ft nn,by rw [ln]; simp⟩
 refine ⟨F,?_⟩
 generalize hM:both (cI L) x (L.length:Int) (put (rowOf L x) ((rowOf L x).idxOf z) L.length) [x] = M at F ⊢
 have FM:aA M:=hM▸F.eX
 have Fd:Dt M (x,(L.length:Int)):=hM▸F.dt
 have Fr:rem M x (L.length:Int) = cI L:=hM▸F.rem
 have mw:∀ {y:Int},0≤y→rowOf M y = if y = (L.length:Int) then [x] else if y = x then put (rowOf L x) ((rowOf L x).idxOf z) L.length else rowOf (cI L) y:=fun h=>hM▸F.row h
 have Ml:M.length = L.length + 1:=by rw [← hM,b8,eV]
 have xn:x≠(L.length:Int):=by omega
 have sub:∀ d,Dt L d→Dt M d:=fun d hd=>hM▸F.sub d (dh.mpr hd)
 have f1:nx M (z,x) = (x,(L.length:Int)):=by unfold nx; dsimp only; rw [mw x0,if_neg xn,if_pos rfl,eo z1 nn]
 have f2:nx M (x,(L.length:Int)) = ((L.length:Int),x):=by
  unfold nx; dsimp only; rw [mw (by omega),if_pos rfl]
  refine Prod.ext rfl ?_
  show pre [x] x = x
  unfold pre cy
  simp [Nat.mod_one]
 have yG:Dt L (z,x):=by
  obtain ⟨c0,c1,c2,c3⟩:=Dt.back (d:=(x,z)) ⟨x0,x1,z1⟩ s.map
  exact ⟨c0,c1,c3⟩
 have xX:∀ d,Dt L d→d≠(z,x)→nx M d = nx L d:=fun d hd nu=>by
  have h0:=fO FM Fd (d:=d) (by rw [Fr]; exact dh.mpr hd)
  rw [Fr,iD s.map hd] at h0
  have dm:=sub d hd
  have n1:nx M d≠((L.length:Int),x):=fun w=>by
   have:=cA FM dm Fd (w.trans f2.symm)
   rw [this] at hd
   exact lT s.map x0 x1 hd.mem
  have n2:nx M d≠(x,(L.length:Int)):=fun w=>nu (cA FM dm (sub _ yG) (w.trans f1.symm))
  rw [if_neg n1,if_neg n2] at h0
  exact h0.symm
 have EF:nx M ((L.length:Int),x) = nx L (z,x):=by
  have h0:=fO FM Fd (d:=(z,x)) (by rw [Fr]; exact dh.mpr yG)
  rw [Fr,iD s.map yG,f1,if_neg (fun w=>xn (congrArg Prod.fst w)),if_pos rfl] at h0
  exact h0.symm
 obtain ⟨R,D,ch⟩:=s.CN
 obtain ⟨R',D'⟩:=jw FM
 obtain ⟨l1,l2⟩:=sX (R:=R) (z1:=z) FM Fd f2 f1 (by rw [Fr]; exact dh.mpr yG) (by rw [Fr]; exact sV s.map D) D'
 rw [Fr,sT] at l2
 have F7:(cT M M.length).length = (cT L L.length).length + 1:=by
  have h1:=(mP FM Fd).2
  rw [Fr,sU s.map] at h1
  have h2:=fe FM
  have h3:=fe s.map
  omega
 have jD:bV M:=by
  refine ⟨FM,by have:=s.two; omega,fun y y0 y1=>?_,R',D',?_⟩
  ·by_cases e:y < L.length
   ·obtain ⟨t,ht,q⟩:=s.span y y0 e
    exact ⟨t,ht,q.mono sub⟩
   ·have ey:y = (L.length:Int):=by rw [Ml] at y1; omega
    obtain ⟨t,ht,q⟩:=s.span x x0 x1
    rw [ey]
    exact ⟨t,ht,Reach.one (d:=(x,(L.length:Int))) (q.mono sub) Fd⟩
  ·rw [F7,Ml,l1]
   omega
 have F2:dj r (c + (r.length - 1)) = (z,x):=ed
 refine ⟨jD,Ml,by rw [mw (by omega),if_pos rfl,List.map_singleton,hx],⟨[],rfl⟩,fun y y0 y1 hy=>?_,sub,Nat.le_refl _,hc,fun i Mw Ip=>?_,?_,?_,?_⟩
 ·have:cy r c≠y:=hy c (by simp)
  rw [hx] at this
  rw [mw y0,if_neg (by omega),if_neg (fun w=>this w.symm),cO y0,if_pos y1]
 ·rw [xX _ (g.dt i) (by rw [← F2]; exact gH nd (by omega) (by omega)),g.st]
 ·rw [F2,f1,hx]
 ·rw [hx,f2]
 ·rw [hx,EF,← F2,g.st]
  exact dz (by rw [show c + (r.length - 1) + 1 = c + r.length by omega,Nat.add_mod_right])
theorem Pl.next {M:List (List Int)} {c1 cj c:Nat} {dn:List Nat} (s:bV L) (g:Good L r) (nd:(Gm.sh 0 r).Nodup) (p:Pl L r c1 cj dn M) (hc:cj < c) (A2:c < r.length) (un:∀ e∈dn,cy r e≠cy r c) :
  aY M (cy r c) (L.length:Int) (put (rowOf L (cy r c)) ((rowOf L (cy r c)).idxOf (cy r (c + (r.length - 1)))) L.length) (rowOf M (L.length:Int) ++ [cy r c])∧
  Pl L r c1 c (dn ++ [c]) (both M (cy r c) (L.length:Int) (put (rowOf L (cy r c)) ((rowOf L (cy r c)).idxOf (cy r (c + (r.length - 1)))) L.length) (rowOf M (L.length:Int) ++ [cy r c])):=by
 have two:=g.two
 have le:=p.le
 obtain ⟨z1,x0,x1,ed⟩:=cK g s.map (c:=c)
 have rx:=p.keep (cy r c) x0 x1 un
 have zv:cy r c∉rowOf M (L.length:Int):=by
  rw [p.new]
  intro w
  obtain ⟨e,he,h⟩:=List.mem_map.mp w
  exact un e he h
 have Am:=p.new
 generalize hx:cy r c = x at z1 x0 x1 ed rx zv ⊢
 generalize hz:cy r (c + (r.length - 1)) = z at z1 ed ⊢
 have nn:=lT s.map x0 x1
 have F:aY M x (L.length:Int) (put (rowOf L x) ((rowOf L x).idxOf z) L.length) (rowOf M (L.length:Int) ++ [x]):=
  ⟨p.sh.map,x0,by rw [p.len]; omega,by omega,by rw [p.len]; omega,by omega,by rw [rx]; exact nn,by rw [rx]; exact dZ _ _ _,List.perm_append_singleton _ _,by rw [rx]; exact ft nn,nV zv⟩
 refine ⟨F,?_⟩
 obtain ⟨rest,hd⟩:=p.hd
 have nZ:rowOf M (L.length:Int) = cy r c1 :: rest.map (cy r):=by rw [Am,hd]; rfl
 have e1:dj r (c - 1) = (z,x):=by
  rw [← ed]
  exact (dz (by rw [show c + (r.length - 1) = (c - 1) + r.length by omega,Nat.add_mod_right])).symm
 have yG:Dt L (z,x):=e1▸g.dt (c - 1)
 have dyn:Dt M (cy r c1,(L.length:Int)):=by
  have:=Dt.back (d:=((L.length:Int),cy r c1)) ⟨by simp,by rw [p.len]; simp; omega,by rw [nZ]; exact List.mem_cons_self⟩ p.sh.map
  exact ⟨this.1,this.2.1,this.2.2.2⟩
 have CK:pre (put (rowOf L x) ((rowOf L x).idxOf z) L.length) z = (L.length:Int):=eo z1 nn
 have Cz:pre (rowOf M (L.length:Int) ++ [x]) (cy r c1) = x:=by rw [nZ]; exact mT
 have conn:∀ P:au→Prop,P (z,x)→(∀ d,Dt M d→P d→P (nx M d))→P (cy r c1,(L.length:Int)):=fun P h0 hs=>by
  have go:∀ k,c - 1 + k≤c1 + (r.length - 1)→P (dj r (c - 1 + k)):=by
   intro k
   induction k with
   | zero=>intro _; rw [Nat.add_zero,e1]; exact h0
   | succ k ih=>
    intro hk
    have:=hs _ (p.sub _ (g.dt (c - 1 + k))) (ih (by omega))
    rw [p.i1 (c - 1 + k) (by omega) (by omega)] at this
    exact this
  have:=go (c1 + (r.length - 1) - (c - 1)) (by omega)
  rw [show c - 1 + (c1 + (r.length - 1) - (c - 1)) = c1 + (r.length - 1) by omega] at this
  have:=hs _ (p.sub _ (g.dt _)) this
  rw [p.i2] at this
  exact this
 have jD:=F.we p.sh (z1:=z) (z2:=cy r c1) (by rw [rx]; exact z1) (by rw [nZ]; exact List.mem_cons_self) CK Cz conn
 generalize hM:both M x (L.length:Int) (put (rowOf L x) ((rowOf L x).idxOf z) L.length) (rowOf M (L.length:Int) ++ [x]) = N at F jD ⊢
 have FM:aA N:=hM▸F.eX
 have Fd:Dt N (x,(L.length:Int)):=hM▸F.dt
 have Fr:rem N x (L.length:Int) = M:=hM▸F.rem
 have mw:∀ {y:Int},0≤y→rowOf N y = if y = (L.length:Int) then rowOf M (L.length:Int) ++ [x] else if y = x then put (rowOf L x) ((rowOf L x).idxOf z) L.length else rowOf M y:=fun h=>hM▸F.row h
 have Nl:N.length = L.length + 1:=by rw [← hM,b8,p.len]
 have xn:x≠(L.length:Int):=by omega
 have uB:∀ d,Dt M d→Dt N d:=fun d hd=>hM▸F.sub d hd
 have f1:nx N (z,x) = (x,(L.length:Int)):=by unfold nx; dsimp only; rw [mw x0,if_neg xn,if_pos rfl,CK]
 have f2:nx N (cy r c1,(L.length:Int)) = ((L.length:Int),x):=by unfold nx; dsimp only; rw [mw (by omega),if_pos rfl,Cz]
 have xX:∀ d,Dt M d→d≠(z,x)→d≠(cy r c1,(L.length:Int))→nx N d = nx M d:=fun d hd nu Fv=>by
  have h0:=fO FM Fd (d:=d) (by rw [Fr]; exact hd)
  rw [Fr] at h0
  have dm:=uB d hd
  have n1:nx N d≠((L.length:Int),x):=fun w=>Fv (cA FM dm (uB _ dyn) (w.trans f2.symm))
  have n2:nx N d≠(x,(L.length:Int)):=fun w=>nu (cA FM dm (uB _ (p.sub _ yG)) (w.trans f1.symm))
  rw [if_neg n1,if_neg n2] at h0
  exact h0.symm
 have EF:nx N ((L.length:Int),x) = nx M (z,x):=by
  have h0:=fO FM Fd (d:=(z,x)) (by rw [Fr]; exact p.sub _ yG)
  rw [Fr,f1,if_neg (fun w=>xn (congrArg Prod.fst w)),if_pos rfl] at h0
  exact h0.symm
 have HZ:∀ i,dj r i≠(cy r c1,(L.length:Int)):=fun i w=>by
  have d:=g.dt i
  have:=(d.back s.map).2.1
  rw [w] at this
  simp at this
 refine ⟨jD,Nl,?_,⟨rest ++ [c],by rw [hd]; rfl⟩,fun y y0 y1 hy=>?_,fun d hd=>uB d (p.sub d hd),by omega,A2,fun i Mw Ip=>?_,?_,?_,?_⟩
 ·rw [mw (by omega),if_pos rfl,Am,List.map_append,List.map_singleton,hx]
 ·have h1:cy r c≠y:=hy c (by simp)
  rw [hx] at h1
  rw [mw y0,if_neg (by omega),if_neg (fun w=>h1 w.symm)]
  exact p.keep y y0 y1 fun e he=>hy e (List.mem_append_left _ he)
 ·rw [xX _ (p.sub _ (g.dt i)) (by rw [← e1]; exact (gH nd (by omega) (by omega)).symm) (HZ i)]
  exact p.i1 i (by omega) Ip
 ·rw [xX _ (p.sub _ (g.dt _)) (by rw [← e1]; exact (gH nd (by omega) (by omega)).symm) (HZ _)]
  exact p.i2
 ·rw [f2,hx]
 ·rw [hx,EF,← e1,p.i1 (c - 1) (by omega) (by omega)]
  rw [show c - 1 + 1 = c by omega]
end
end Gm
end
section
namespace L2
open PySem PySem.Spec PySem.W PySem.Calls PyProof.Rows
end L2
namespace Gm
open PySem L2
theorem iq {H:Hp} {c b:Addr} {o:HO} {as:List Addr} (hc:c∈as) (hb:b∉as):upd H c o b = H b:=ai (fun z=>hb (by rw [z]; exact hc))
theorem ak.off {H H1 H2:Hp} {as:List Addr} (e:ak H H1) (fr:∀ b∈as,H b = none) (o:∀ b u,b∉as→H1 b = some u→H2 b = some u):ak H H2:=fun b u h=>o b u (fun z=>by rw [fr b z] at h; cases h) (e b u h)
theorem bV.pos {L:List (List Int)} {R:List (List au)} (s:bV L) (D:Dec L R):0 < R.length:=by
 refine Nat.pos_of_ne_zero fun z=>?_
 have R0:R = []:=List.length_eq_zero_iff.mp z
 subst R0
 have two:=s.two
 have i0:=s.Aw
 unfold iso at i0
 have:=List.countP_eq_zero.mp i0 L[0] (List.getElem_mem (by omega))
 cases q:L[0] with
 | nil=>rw [q] at this; exact this rfl
 | cons x r=>
  have d:=Reach.yH (L:=L) (i:=0) (List.getElem?_eq_getElem (by omega)) (by rw [q]; exact List.mem_cons_self)
  have:=(D.mem _).mpr d
  cases this
theorem PR.at {H:Hp}:∀ {ps:List Addr} {T:List (Int×Int)},PR H ps T→∀ {i:Nat} {a:Addr},ps[i]? = some a→∃ x:Int×Int,T[i]? = some x∧H a = some (.tup [.int x.1,.int x.2])
 | _,_,.nil,_,_,e=>by simp at e
 | _,_,.cons r t,0,_,e=>by simp at e; subst e; exact ⟨_,rfl,r⟩
 | _,_,.cons r t,i + 1,_,e=>by
  obtain ⟨x,h1,h2⟩:=PR.at t (i:=i) (by simpa using e)
  exact ⟨x,by simpa using h1,h2⟩
theorem pQ {L:List (List Int)} {d:au} (k:Nat):it L (nx L d) k = it L d (k + 1):=by
 rw [Nat.add_comm,lW]; rfl
theorem rE {L:List (List Int)} {x y:au} {l:List au} (h:Wk (nx L) x l y):l = tr L x l.length∧y = it L x l.length:=by
 induction h with
 | nil x=>exact ⟨rfl,rfl⟩
 | @cons x y l _ ih=>
  obtain ⟨h1,h2⟩:=ih
  refine ⟨?_,by rw [List.length_cons,← pQ]; exact h2⟩
  rw [List.length_cons]
  unfold tr
  rw [List.range_succ_eq_map,List.map_cons,List.map_map]
  show x :: l = x :: _
  congr 1
  refine h1.trans ?_
  unfold tr
  refine List.map_congr_left fun j _=>?_
  exact pQ j
theorem uD {L:List (List Int)} {d:au} {k:Nat} (hk:0 < k) (e:it L d k = d):sh 0 (aW L d k) = tr L d k:=by
 have hl:(aW L d k).length = k:=by unfold aW; simp
 unfold sh tr
 rw [hl]
 exact List.map_congr_left fun j _=>by rw [iF hk e,Nat.add_zero]
theorem Dec.good {L:List (List Int)} {R:List (List au)} (m:aA L) (D:Dec L R) {c:List au} (hc:c∈R):Good L (c.map (·.1))∧sh 0 (c.map (·.1)) = c∧c.Nodup:=by
 obtain ⟨x,l,e,k⟩:=D.jE c hc
 obtain ⟨h1,h2⟩:=rE k
 have k0:0 < c.length:=by rw [e]; simp
 have dx:Dt L x:=(D.mem x).mp (List.mem_flatten.mpr ⟨c,hc,by rw [e]; exact List.mem_cons_self⟩)
 have er:c.map (·.1) = aW L x c.length:=by
  conv=>lhs; rw [h1]
  unfold aW tr
  rw [List.map_map]; rfl
 have hn:c.Nodup:=(List.pairwise_flatten.mp D.nd).1 c hc
 rw [er]
 exact ⟨qy m dx k0 h2.symm,(uD k0 h2.symm).trans h1.symm,hn⟩
theorem Good.on {L:List (List Int)} {r:List Int} (g:Good L r) {P:au→Prop} (hs:∀ d,Dt L d→P d→P (nx L d)) {i:Nat} (h:P (dj r i)) (j:Nat):P (dj r j):=by
 have two:=g.two
 have go:∀ k,P (dj r (i + k)):=by
  intro k
  induction k with
  | zero=>exact h
  | succ k ih=>have:=hs _ (g.dt _) ih; rw [g.st] at this; exact this
 have:=go (j + i * r.length - i)
 have e:i≤i * r.length:=Nat.le_mul_of_pos_right i (by omega)
 rw [show i + (j + i * r.length - i) = j + i * r.length by omega] at this
 rw [dz (i:=j + i * r.length) (j:=j) (by rw [Nat.add_mul_mod_self_right])] at this
 exact this
theorem jX {M:List (List Int)} {x:Int} {n:Nat} {A B:List Int} (hn:M.length = n + 1) (x1:x.toNat < n):(both M x (n:Int) A B).take n = (M.take n).set x.toNat A:=by
 unfold both
 rw [Int.toNat_natCast]
 apply List.ext_getElem?
 intro i
 rw [List.getElem?_take]
 by_cases h:i < n
 ·rw [if_pos h,List.getElem?_set_ne (by omega)]
  by_cases e:i = x.toNat
  ·subst e
   rw [List.getElem?_set,if_pos rfl,if_pos (by omega),List.getElem?_set,if_pos rfl,if_pos (by rw [List.length_take]; omega)]
  ·rw [List.getElem?_set_ne (fun w=>e w.symm),List.getElem?_set_ne (fun w=>e w.symm),List.getElem?_take,if_pos h]
 ·rw [if_neg h,List.getElem?_eq_none (by rw [List.length_set,List.length_take]; omega)]
theorem qt {M:List (List Int)} {n:Nat} (hn:M.length = n + 1):M.take n ++ [rowOf M (n:Int)] = M:=by
 have h:=aD (L:=M) (a:=(n:Int)) (by omega) (by omega)
 rw [Int.toNat_natCast] at h
 rw [← take_snoc h,List.take_of_length_le (by omega)]
end Gm
end
section
namespace L2
open PySem PySem.Spec PySem.W PySem.Calls PyProof.Rows
def N4 (K:Frag) (a b:Addr):It:=
 ⟨fun i H=>∃ xs ys x y,aG K H a xs∧aG K H b ys∧xs[i]? = some x∧ys[i]? = some y,
  fun i H v H'=>∃ p x y,H p = none∧v = .ref p∧(∀ xs,aG K H a xs→xs[i]? = some x)∧(∀ ys,aG K H b ys→ys[i]? = some y)∧H' = upd H p (.tup [x,y]),
  fun i H=>∃ xs ys,aG K H a xs∧aG K H b ys∧(xs.length≤i∨ys.length≤i)⟩
def LS (K:Frag) (ta:TA):TI:=fun σ H R=>ta σ H fun vs H1=>∃ a b,vs = [.ref a,.ref b]∧(∃ xs,aG K H1 a xs)∧(∃ ys,aG K H1 b ys)∧R (N4 K a b) H1
end L2
end
section
namespace Gm
open PySem L2
def qi (a b:List Int):Prop:=a = b∨∃ c,c < b.length∧a = B1 b c
end Gm
namespace L2
open PySem PySem.Spec PySem.W PySem.Calls PyProof.Rows
theorem yO:bootBuiltins "max" = some (.builtin "max"):=by decide +kernel
end L2
namespace Gm
open PySem L2
def G6 (L M:List (List Int)):Prop:=L.length = M.length∧∀ (i:Nat) (l m:List Int),L[i]? = some l→M[i]? = some m→qi l m
end Gm
end
section
namespace Gm
open PySem L2
end Gm
end
section
namespace PySem
abbrev GY (h:Heap) (z TI TO a:Addr) (f:Bool):Prop:=
 h.get? z = some { cls:=.type "zip",dict:=none,data:=.fields #[rawInt a,.bool f,.bool false,.ref TI,.ref TO],slots:=#[] }
structure Jc (h:Heap) (z TI TO i1 i2 l1 l2 S:Addr) (i:Nat):Prop where
 own:(i = 0∧IsZip h z TI TO .none∧∃ a b,IsPair h TO a b)∨∃ a f oa,GY h z TI TO a f∧h.get? a = some oa∧a∉[z,i1,i2,S]
 it:IsPair h TI (.ref i1) (.ref i2)
 one:h.IsListIter i1 l1 i
 two:h.IsListIter i2 l2 i
structure NT (xs ys:Array Value) (lo:Addr) (h:Heap) (as:List Addr):Prop where
 rise:as.Pairwise (· < ·)
 above:∀ a∈as,lo≤a
 pairs:∀ (j:Nat) (a:Addr),as[j]? = some a→∃ x y,xs[j]? = some x∧ys[j]? = some y∧IsPair h a x y
namespace F
end F
end PySem
end
section
namespace L2
open PySem PySem.Spec PySem.W PySem.Calls PyProof.Rows
def EU:List Addr→List (V×V)→Hp→Hp
 | a :: as,p :: ps,H=>upd (EU as ps H) a (.tup [p.1,p.2])
 | _,_,H=>H
def zF (K:Frag) (ta:TA):TE:=fun σ H Q=>ta σ H fun vs H1=>∃ a b xs ys,vs = [.ref a,.ref b]∧aG K H1 a xs∧aG K H1 b ys∧xs.length = ys.length∧
 ∀ (l:Addr) (as:List Addr) (H2:Hp),ak H1 H2→H1 l = none→H2 l = some (.lst (as.map V.ref))→as.length = xs.length→
  (∀ (j:Nat) (a:Addr),as[j]? = some a→H1 a = none∧a≠l∧∃ x y,xs[j]? = some x∧ys[j]? = some y∧H2 a = some (.tup [x,y]))→Q (.ref l) H2
theorem oF:bootBuiltins "list" = some (.type "list"):=by decide +kernel
end L2
end
section
namespace Gm
open PySem L2
end Gm
end
section
namespace L2
open PySem PySem.Spec PySem.W PySem.Calls PyProof.Rows
section
variable {X:Cx}
def B4 (K:Frag):R2:=fun x y H Q=>∃ (p l:Addr) (d:Int×Int) (ps:List Addr) (T:List (Int×Int)),x = .ref p∧y = .ref l∧H p = some (.tup [.int d.1,.int d.2])∧H l = some (.lst (ps.map V.ref))∧Gm.PR H ps T∧Q (.bl (!decide (d∈T))) H
end
end L2
namespace Gm
open PySem L2
end Gm
end
section
namespace Gm
open PySem L2
end Gm
end
section
namespace L2
open PySem PySem.Spec PySem.W PySem.Calls PyProof.Rows
section
variable {X:Cx}
def Ks (K:Frag):List V→Hp→VK→Prop:=fun vs H Q=>∃ (a:Addr) (bs:List Bool),vs = [.ref a]∧aG K H a (bs.map V.bl)∧Q (.bl (bs.all id)) H
end
end L2
end
section
namespace Gm
open PySem L2
def kN (ks:List (au×Int)):List (List Key×V):=ks.map fun p=>(gU p.1,V.int p.2)
def lk (s:List Int→Nat) (R:List (List Int)):Nat→List (au×Int)
 | 0=>[]
 | k + 1=>lk s R k ++ (sh (s (R.getD k [])) (R.getD k [])).map fun d=>(d,(k:Int))
def lo (R:List (List Int)) (d:au):Int:=(R.findIdx fun r=>decide (d∈sh 0 r):Nat)
def OL (R:List (List Int)) (s:Nat) (r:List Int):List Int:=(sh s r).map fun d=>lo R (d.2,d.1)
def Oe (D:List (List Int)):Prop:=∀ (k:Nat) (l:List Int),D[k]? = some l→(k:Int)∉l∧l.Nodup
end Gm
namespace Gm
open PySem L2
end Gm
namespace L2
end L2
namespace Gm
open PySem L2
end Gm
namespace Gm
end Gm
namespace L2
open PySem
end L2
namespace L2
theorem eO {σ : St} {H:Hp} {Q:VK} {td ty:TE} (h:td σ H fun x H1=>ty σ H1 fun y H2=>∃ a v,x = .ref a∧cz H2 a y (some v)∧Q v H2):rN td ty σ H Q:=h
end L2
end
section
namespace Gm
open PySem L2
inductive cP (L:List (List Int)) (S:List Int) (s:Int):Int→Prop where
 | here:cP L S s s
 | step {i:Nat} {l:List Int} {x:Int}:cP L S s i→L[i]? = some l→x∈l→x∉S→cP L S s x
theorem cP.rg {L:List (List Int)} {S:List Int} {s x:Int} (h:cP L S s x) (m:aA L) (hs:0≤s∧s < L.length):0≤x∧x < L.length:=by
 cases h with
 | here=>exact hs
 | step _ e hx _=>
  have:=m.rg _ _ e x hx
  exact ⟨this.1,this.2.1⟩
structure rC (L:List (List Int)) (S:List Int) (s:Int) (ks ws:List Int):Prop where
 nd:ks.Nodup
 nw:ws.Nodup
 st:s∈ks
 re:∀ x∈ks,cP L S s x
 sub:∀ x∈ws,x∈ks
 cl:∀ (i:Nat) (l:List Int),(i:Int)∈ks→(i:Int)∉ws→L[i]? = some l→∀ x∈l,x∉S→x∈ks
structure uo (L:List (List Int)) (S:List Int) (s:Int) (ks ws:List Int) (pl:Nat) (l:List Int) (k:Nat):Prop where
 nd:ks.Nodup
 nw:ws.Nodup
 st:s∈ks
 re:∀ x∈ks,cP L S s x
 sub:∀ x∈ws,x∈ks
 pk:(pl:Int)∈ks
 cl:∀ (i:Nat) (m:List Int),(i:Int)∈ks→(i:Int)∉ws→i≠pl→L[i]? = some m→∀ x∈m,x∉S→x∈ks
 tk:∀ x∈l.take k,x∉S→x∈ks
section
variable {L:List (List Int)} {S:List Int} {s:Int} {ks ws:List Int} {pl k:Nat} {l:List Int} {x:Int}
theorem rC.start:rC L S s [s] [s]:=⟨by simp,by simp,by simp,fun x h=>by rw [List.mem_singleton.mp h]; exact .here,fun x h=>h,fun i l h1 h2=>absurd h1 h2⟩
theorem rC.pop (h:rC L S s ks (ws ++ [(pl:Int)])):uo L S s ks ws pl l 0:=
 ⟨h.nd,(kW.mp h.nw).2,h.st,h.re,fun x hx=>h.sub x (List.mem_append_left _ hx),h.sub _ (by simp),fun i m h1 h2 h3 h4 x hx=>h.cl i m h1 (fun z=>by
  rcases List.mem_append.mp z with z | z
  ·exact h2 z
  ·have:=List.mem_singleton.mp z; omega) h4 x hx,fun x hx=>by simp at hx⟩
theorem uo.add (h:uo L S s ks ws pl l k) (e:l[k]? = some x) (n:x∉ks) (nS:x∉S) (hl:L[pl]? = some l):uo L S s (ks ++ [x]) (ws ++ [x]) pl l (k + 1):=by
 refine ⟨kW.mpr ⟨n,h.nd⟩,kW.mpr ⟨fun z=>n (h.sub _ z),h.nw⟩,List.mem_append_left _ h.st,fun y hy=>?_,fun y hy=>?_,List.mem_append_left _ h.pk,fun i m h1 h2 h3 h4 y hy hS=>?_,fun y hy hS=>?_⟩
 ·rcases List.mem_append.mp hy with z | z
  ·exact h.re y z
  ·rw [List.mem_singleton.mp z]; exact .step (h.re _ h.pk) hl (List.mem_of_getElem? e) nS
 ·rcases List.mem_append.mp hy with z | z
  ·exact List.mem_append_left _ (h.sub y z)
  ·exact List.mem_append_right _ z
 ·refine List.mem_append_left _ (h.cl i m ?_ (fun z=>h2 (List.mem_append_left _ z)) h3 h4 y hy hS)
  rcases List.mem_append.mp h1 with z | z
  ·exact z
  ·exact absurd (List.mem_append_right _ z) h2
 ·rcases mB e hy with z | z
  ·exact List.mem_append_left _ (h.tk y z hS)
  ·rw [z]; exact List.mem_append_right _ (by simp)
theorem uo.skip (h:uo L S s ks ws pl l k) (e:l[k]? = some x) (n:x∈ks∨x∈S):uo L S s ks ws pl l (k + 1):=
 ⟨h.nd,h.nw,h.st,h.re,h.sub,h.pk,h.cl,fun y hy hS=>by
  rcases mB e hy with z | z
  ·exact h.tk y z hS
  ·rcases n with n | n
   ·rw [z]; exact n
   ·exact absurd (z▸n) hS⟩
theorem uo.done (h:uo L S s ks ws pl l l.length) (hl:L[pl]? = some l):rC L S s ks ws:=
 ⟨h.nd,h.nw,h.st,h.re,h.sub,fun i m h1 h2 h3 x hx hS=>by
  by_cases e:i = pl
  ·subst e
   rw [hl] at h3
   cases h3
   exact h.tk x (by rw [List.take_length]; exact hx) hS
  ·exact h.cl i m h1 h2 e h3 x hx hS⟩
theorem rC.all (h:rC L S s ks []) (x:Int):x∈ks↔cP L S s x:=by
 refine ⟨h.re x,fun r=>?_⟩
 induction r with
 | here=>exact h.st
 | step _ e hx hS ih=>exact h.cl _ _ ih (by simp) e _ hx hS
theorem rC.len (m:aA L) (hs:0≤s∧s < L.length) {ks:List Int} (nd:ks.Nodup) (re:∀ x∈ks,cP L S s x):ks.length≤L.length:=cx nd fun x hx=>(re x hx).rg m hs
end
def BR (L:List (List Int)) (S fs:List Int):Prop:=∀ (i:Nat) (l:List Int),L[i]? = some l→(i:Int)∉S→(∃ x,x∈l∧x∈fs)→(i:Int)∈fs
structure Pp (L:List (List Int)) (S:List Int) (s:Int) (fs:List Int) (k:Nat):Prop where
 nd:fs.Nodup
 st:s∈fs
 re:∀ x∈fs,cP L S s x
 gr:BR L S fs∨k + 1≤fs.length
structure Po (L:List (List Int)) (S:List Int) (s:Int) (vv fs:List Int) (j:Nat):Prop where
 nd:fs.Nodup
 st:s∈fs
 re:∀ x∈fs,cP L S s x
 kp:BR L S vv→fs = vv
 gr:vv.length < fs.length∨(fs = vv∧∀ (i:Nat) (l:List Int),i < j→L[i]? = some l→(i:Int)∉S→(∃ x,x∈l∧x∈fs)→(i:Int)∈fs)
def cg (n:Nat):List Int:=(List.range n).map fun i:Nat=>(i:Int)
theorem dw {n:Nat} {x:Int}:x∈cg n↔0≤x∧x < n:=by
 unfold cg
 rw [List.mem_map]
 constructor
 ·rintro ⟨i,hi,rfl⟩
  have:=List.mem_range.mp hi
  omega
 ·intro ⟨h1,h2⟩
  exact ⟨x.toNat,List.mem_range.mpr (by omega),by omega⟩
theorem ip (n:Nat):(cg n).Nodup:=List.Pairwise.map _ (fun a b h z=>h (by omega)) List.nodup_range
theorem uu {n i:Nat} (h:i < n):(cg n)[i]? = some (i:Int):=by unfold cg; simp [h]
theorem gc (n:Nat):(cg n).length = n:=by unfold cg; simp
def left (n:Nat) (S:List Int):List Int:=(cg n).filter fun x=>!decide (x∈S)
open Classical in
noncomputable def rn (L:List (List Int)) (S:List Int) (s:Int):Nat:=((cg L.length).filter fun x=>decide (cP L S s x)).length
theorem z7 {L:List (List Int)} {S ks:List Int} {s:Int} (m:aA L) (hs:0≤s∧s < L.length) (nd:ks.Nodup) (al:∀ x,x∈ks↔cP L S s x):ks.length = rn L S s:=by
 unfold rn
 refine List.Perm.length_eq ((List.perm_ext_iff_of_nodup nd ((ip _).filter _)).mpr fun x=>?_)
 rw [al,List.mem_filter,dw]
 constructor
 ·intro r
  exact ⟨r.rg m hs,by simpa using r⟩
 ·intro ⟨_,r⟩
  simpa using r
theorem xB {L:List (List Int)} {S:List Int} {s:Int} (hs:0≤s∧s < L.length):0 < rn L S s:=by
 unfold rn
 refine List.length_pos_of_mem (a:=s) (List.mem_filter.mpr ⟨dw.mpr hs,?_⟩)
 simpa using cP.here
noncomputable def iZ (L:List (List Int)) (S:List Int):Bool:=match left L.length S with | []=>false | s :: r=>decide (rn L S s < (s :: r).length)
theorem pI {L:List (List Int)} {S:List Int} (h:left L.length S = []):iZ L S = false:=by unfold iZ; rw [h]
theorem gq {L:List (List Int)} {S r:List Int} {s:Int} (h:left L.length S = s :: r):iZ L S = decide (rn L S s < (s :: r).length):=by unfold iZ; rw [h]
theorem fF {n:Nat} {S:List Int} {s:Int} (h:s∈left n S):0≤s∧s < n∧s∉S:=by
 unfold left at h
 obtain ⟨h1,h2⟩:=List.mem_filter.mp h
 have:=dw.mp h1
 exact ⟨this.1,this.2,by simpa using h2⟩
theorem uQ {L:List (List Int)} {S:List Int} {s:Int} (h:left L.length S = [s]):iZ L S = false:=by
 rw [gq h]
 have:=fF (n:=L.length) (S:=S) (s:=s) (by rw [h]; exact List.mem_singleton.mpr rfl)
 have:=xB (L:=L) (S:=S) (s:=s) ⟨this.1,this.2.1⟩
 exact decide_eq_false (by simp; omega)
theorem nk (n:Nat) (S:List Int):(left n S).length≤n:=by
 have:=List.length_filter_le (fun x=>!decide (x∈S)) (cg n)
 rw [gc] at this
 exact this
def twos (n one:Nat):List (List Int):=(List.range (n - (one + 1))).map fun j:Nat=>[(one:Int),(one:Int) + 1 + (j:Int)]
def aS (n:Nat):Nat→List (List Int)
 | 0=>[] :: (cg n).map fun i=>[i]
 | k + 1=>aS n k ++ twos n k
theorem twos_at {n one j:Nat} (h:j < n - (one + 1)):(twos n one)[j]? = some [(one:Int),(one:Int) + 1 + j]:=by unfold twos; simp [h]
theorem twos_len (n one:Nat):(twos n one).length = n - (one + 1):=by unfold twos; simp
theorem iS (n:Nat):∀ k,k≤n→(aS n k).length≤1 + n + k * n
 | 0,_=>by simp [aS,gc]; omega
 | k + 1,h=>by
  have:=iS n k (by omega)
  rw [aS,List.length_append,twos_len,Nat.succ_mul]
  omega
theorem eh (n:Nat):∀ k,∀ S∈aS n k,S.length≤2
 | 0,S,h=>by
  rw [aS] at h
  rcases List.mem_cons.mp h with z | z
  ·rw [z]; simp
  ·obtain ⟨i,_,rfl⟩:=List.mem_map.mp z; simp
 | k + 1,S,h=>by
  rw [aS] at h
  rcases List.mem_append.mp h with z | z
  ·exact eh n k S z
  ·unfold twos at z
   obtain ⟨i,_,rfl⟩:=List.mem_map.mp z; simp
theorem aU.cat {H:Hp} {t c:Addr} {bs cs:List Addr} {R M:List (List Int)} (g:aU H t bs R) (k:aU H c cs M) (nt:t∉bs) (nc:t∉cs):aU (upd H t (.lst (bs.map V.ref ++ cs.map V.ref))) t (bs ++ cs) (R ++ M):=by
 refine ⟨by rw [List.map_append]; exact af,by rw [List.length_append,List.length_append,g.len,k.len],fun i a l h1 h2=>?_⟩
 rcases Nat.lt_or_ge i bs.length with hi | hi
 ·rw [List.getElem?_append_left hi] at h1
  rw [List.getElem?_append_left (by rw [← g.len]; exact hi)] at h2
  have nb:a≠t:=fun e=>nt (by rw [← e]; exact List.mem_of_getElem? h1)
  rw [ai nb]
  exact g.row i a l h1 h2
 ·rw [List.getElem?_append_right hi] at h1
  rw [List.getElem?_append_right (by rw [← g.len]; exact hi),← g.len] at h2
  have nb:a≠t:=fun e=>nc (by rw [← e]; exact List.mem_of_getElem? h1)
  rw [ai nb]
  exact k.row _ a l h1 h2
theorem find_none {p:List Int→Bool} {T:List (List Int)} (h:∀ (k:Nat) (S:List Int),k < T.length→T[k]? = some S→p S = false):T.find? p = none:=by
 rw [List.find?_eq_none]
 intro S hS
 obtain ⟨k,hk⟩:=List.mem_iff_getElem?.mp hS
 rw [h k S (List.getElem?_eq_some_iff.mp hk).1 hk]
 simp
theorem oz {p:List Int→Bool} {T:List (List Int)} {i:Nat} {S:List Int} (hS:T[i]? = some S) (hp:p S = true) (no:∀ (k:Nat) (S':List Int),k < i→T[k]? = some S'→p S' = false):T.find? p = some S:=by
 induction T generalizing i with
 | nil=>simp at hS
 | cons t T ih=>
  cases i with
  | zero=>
   have e:t = S:=by simpa using hS
   subst e
   rw [List.find?_cons,hp]
  | succ i=>
   have h0:=no 0 t (by omega) (by simp)
   rw [List.find?_cons,h0]
   exact ih (by simpa using hS) fun k S' hk h=>no (k + 1) S' (by omega) (by simpa using h)
theorem jV (i:Nat):cg (i + 1) = cg i ++ [(i:Int)]:=by unfold cg; rw [List.range_succ,List.map_append]; rfl
theorem va {i:Nat} {S:List Int} (h:(i:Int)∉S):left (i + 1) S = left i S ++ [(i:Int)]:=by
 unfold left
 rw [jV,List.filter_append,List.filter_cons,if_pos (by simpa using h)]
 rfl
theorem sW {i:Nat} {S:List Int} (h:(i:Int)∈S):left (i + 1) S = left i S:=by
 unfold left
 rw [jV,List.filter_append,List.filter_cons,if_neg (by simpa using h)]
 simp
end Gm
end
section
namespace Dt
def sm:Nat→(Nat→Int)→Int
 | 0,_=>0
 | n + 1,f=>sm n f + f n
theorem bS {f g:Nat→Int}:∀ {n:Nat},(∀ i,i < n→f i = g i)→sm n f = sm n g
 | 0,_=>rfl
 | n + 1,h=>by
  show sm n f + f n = sm n g + g n
  rw [bS fun i hi=>h i (Nat.lt_succ_of_lt hi),h n (Nat.lt_succ_self n)]
theorem fm {f:Nat→Int}:∀ {n:Nat},(∀ i,i < n→f i = 0)→sm n f = 0
 | 0,_=>rfl
 | n + 1,h=>by
  show sm n f + f n = 0
  rw [fm fun i hi=>h i (Nat.lt_succ_of_lt hi),h n (Nat.lt_succ_self n)]
  rfl
theorem xw {f g:Nat→Int} (a b:Int):∀ (n:Nat),sm n (fun i=>a * f i + b * g i) = a * sm n f + b * sm n g
 | 0=>by simp [sm]
 | n + 1=>by
  show sm n (fun i=>a * f i + b * g i) + (a * f n + b * g n) = a * (sm n f + f n) + b * (sm n g + g n)
  rw [xw a b n]
  grind
theorem iR {f:Nat→Int} (a:Int):∀ (n:Nat),sm n (fun i=>a * f i) = a * sm n f
 | 0=>by simp [sm]
 | n + 1=>by
  show sm n (fun i=>a * f i) + a * f n = a * (sm n f + f n)
  rw [iR a n]
  grind
theorem gP {f g:Nat→Int}:∀ (n:Nat),sm n (fun i=>f i + g i) = sm n f + sm n g
 | 0=>by simp [sm]
 | n + 1=>by
  show sm n (fun i=>f i + g i) + (f n + g n) = (sm n f + f n) + (sm n g + g n)
  rw [gP n]
  omega
theorem gN {f g:Nat→Int}:∀ (n:Nat),sm n (fun i=>f i - g i) = sm n f - sm n g
 | 0=>by simp [sm]
 | n + 1=>by
  show sm n (fun i=>f i - g i) + (f n - g n) = (sm n f + f n) - (sm n g + g n)
  rw [gN n]
  omega
theorem ef {f:Nat→Int} {k:Nat}:∀ {n:Nat},k < n→(∀ i,i < n→i≠k→f i = 0)→sm n f = f k
 | n + 1,hk,h=>by
  show sm n f + f n = f k
  by_cases e:k = n
  ·subst e
   rw [fm fun i hi=>h i (Nat.lt_succ_of_lt hi) (Nat.ne_of_lt hi)]
   omega
  ·rw [ef (k:=k) (by omega) fun i hi=>h i (Nat.lt_succ_of_lt hi),h n (Nat.lt_succ_self n) (fun z=>e z.symm)]
   omega
theorem oT (f:Nat→Nat→Int) (m:Nat):∀ (n:Nat),sm n (fun i=>sm m (f i)) = sm m fun j=>sm n fun i=>f i j
 | 0=>by rw [show sm 0 (fun i=>sm m (f i)) = 0 from rfl,fm]; intro i _; rfl
 | n + 1=>by
  show sm n (fun i=>sm m (f i)) + sm m (f n) = sm m fun j=>sm n (fun i=>f i j) + f n j
  rw [oT f m n,gP]
def sg:Nat→Int
 | 0=>1
 | n + 1=>- sg n
def sk (j l:Nat):Nat:=if l < j then l else l + 1
abbrev Mx:=Nat→Nat→Int
def mi (A:Mx) (j:Nat):Mx:=fun i l=>A (i + 1) (sk j l)
def det:Nat→Mx→Int
 | 0,_=>1
 | n + 1,A=>sm (n + 1) fun j=>sg j * A 0 j * det n (mi A j)
def cl (A:Mx) (c:Nat) (v:Nat→Int):Mx:=fun i j=>if j = c then v i else A i j
def dn (j c:Nat):Nat:=if c < j then c else c - 1
def un (k i:Nat):Int:=if i = k then 1 else 0
end Dt
end
section
namespace Fw
open Dt (sm)
abbrev ab:=Nat×Bool
def bi (b:Bool):Int:=if b then 1 else 0
theorem fY:bi true = 1:=rfl
theorem ie:bi false = 0:=rfl
theorem nO (b:Bool):0≤bi b:=by cases b <;> decide
theorem wW (b:Bool):bi b≤1:=by cases b <;> decide
structure Flow where
 U:Nat→Bool
 F:Nat→Nat→Bool
def Flow.ox (f:Flow) (n p:Nat):Int:=sm n fun u=>bi (f.F u p)
def Flow.out (f:Flow) (n p:Nat):Int:=sm n fun v=>bi (f.F p v)
def Flow.hW (f:Flow) (n:Nat):ab→Int
 | (p,false)=>f.ox n p - bi (f.U p)
 | (p,true)=>bi (f.U p) - f.out n p
def Res (T:Nat→Nat→Prop) (f:Flow):ab→ab→Prop
 | (p,false),(q,true)=>(p = q∧f.U p = false)∨f.F q p = true
 | (p,true),(q,false)=>T p q∨(p = q∧f.U p = true)
 | _,_=>False
theorem kX {n k:Nat} {g h:Nat→Int} (hk:k < n) (e:∀ i,i≠k→g i = h i):sm n g = sm n h + (g k - h k):=by
 have:sm n (fun i=>g i - h i) = g k - h k:=Dt.ef hk fun i _ ne=>by rw [e i ne]; omega
 rw [Dt.gN] at this
 omega
def Flow.push (f:Flow):ab→ab→Flow
 | (p,false),(q,true)=>if p = q then ⟨fun x=>if x = p then true else f.U x,f.F⟩ else ⟨f.U,fun a b=>if a = q∧b = p then false else f.F a b⟩
 | (p,true),(q,false)=>if p = q then ⟨fun x=>if x = p then false else f.U x,f.F⟩ else ⟨f.U,fun a b=>if a = p∧b = q then true else f.F a b⟩
 | _,_=>f
def dl (d e:ab):Int:=if d = e then 1 else 0
theorem Flow.sr {T:Nat→Nat→Prop} {f:Flow} {n:Nat} {d e:ab} (ro:∀ p,¬ T p p) (x4:∀ p,f.F p p = false) (hd:d.1 < n) (he:e.1 < n) (r:Res T f d e) (fwd:∀ p q,d = (p,true)→e = (q,false)→p≠q→f.F p q = false) (x:ab) :
  (f.push d e).hW n x = f.hW n x + dl x e - dl x d:=by
 obtain ⟨p,s⟩:=d
 obtain ⟨q,t⟩:=e
 obtain ⟨y,z⟩:=x
 cases s <;> cases t
 ·exact r.elim
 ·-- from (p,0) to (q,1)
  by_cases h:p = q
  ·subst h
   have u0:f.U p = false:=by
    rcases (show (p = p∧f.U p = false)∨f.F p p = true from r) with r | r
    ·exact r.2
    ·rw [x4] at r; cases r
   have e1:f.push (p,false) (p,true) = ⟨fun x=>if x = p then true else f.U x,f.F⟩:=by unfold Flow.push; exact if_pos rfl
   rw [e1]
   cases z
   ·show f.ox n y - bi (if y = p then true else f.U y) = f.ox n y - bi (f.U y) + dl (y,false) (p,true) - dl (y,false) (p,false)
    have o1:dl (y,false) (p,true) = 0:=if_neg (by simp)
    rw [o1]
    by_cases hy:y = p
    ·subst hy
     rw [if_pos rfl,u0,fY,ie,show dl (y,false) (y,false) = 1 from if_pos rfl]
     omega
    ·rw [if_neg hy,show dl (y,false) (p,false) = 0 from if_neg (by simp [hy])]
     omega
   ·show bi (if y = p then true else f.U y) - f.out n y = bi (f.U y) - f.out n y + dl (y,true) (p,true) - dl (y,true) (p,false)
    have o1:dl (y,true) (p,false) = 0:=if_neg (by simp)
    rw [o1]
    by_cases hy:y = p
    ·subst hy
     rw [if_pos rfl,u0,fY,ie,show dl (y,true) (y,true) = 1 from if_pos rfl]
     omega
    ·rw [if_neg hy,show dl (y,true) (p,true) = 0 from if_neg (by simp [hy])]
     omega
  ·have f1:f.F q p = true:=by
    rcases (show (p = q∧f.U p = false)∨f.F q p = true from r) with r | r
    ·exact absurd r.1 h
    ·exact r
   have e1:f.push (p,false) (q,true) = ⟨f.U,fun a b=>if a = q∧b = p then false else f.F a b⟩:=by unfold Flow.push; exact if_neg h
   rw [e1]
   cases z
   ·show sm n (fun u=>bi (if u = q∧y = p then false else f.F u y)) - bi (f.U y) = sm n (fun u=>bi (f.F u y)) - bi (f.U y) + dl (y,false) (q,true) - dl (y,false) (p,false)
    rw [show dl (y,false) (q,true) = 0 from if_neg (by simp)]
    by_cases hy:y = p
    ·subst hy
     rw [kX (g:=fun u=>bi (if u = q∧y = y then false else f.F u y)) (h:=fun u=>bi (f.F u y)) he fun i hi=>by simp [hi]]
     have:bi (if q = q∧y = y then false else f.F q y) = 0:=by simp [bi]
     rw [this,f1,fY,show dl (y,false) (y,false) = 1 from if_pos rfl]
     omega
    ·have:sm n (fun u=>bi (if u = q∧y = p then false else f.F u y)) = sm n (fun u=>bi (f.F u y)):=Dt.bS fun i _=>by rw [if_neg (fun z=>hy z.2)]
     rw [this,show dl (y,false) (p,false) = 0 from if_neg (by simp [hy])]
     omega
   ·show bi (f.U y) - sm n (fun v=>bi (if y = q∧v = p then false else f.F y v)) = bi (f.U y) - sm n (fun v=>bi (f.F y v)) + dl (y,true) (q,true) - dl (y,true) (p,false)
    rw [show dl (y,true) (p,false) = 0 from if_neg (by simp)]
    by_cases hy:y = q
    ·subst hy
     rw [kX (g:=fun v=>bi (if y = y∧v = p then false else f.F y v)) (h:=fun v=>bi (f.F y v)) hd fun i hi=>by simp [hi]]
     have:bi (if y = y∧p = p then false else f.F y p) = 0:=by simp [bi]
     rw [this,f1,fY,show dl (y,true) (y,true) = 1 from if_pos rfl]
     omega
    ·have:sm n (fun v=>bi (if y = q∧v = p then false else f.F y v)) = sm n (fun v=>bi (f.F y v)):=Dt.bS fun i _=>by rw [if_neg (fun z=>hy z.1)]
     rw [this,show dl (y,true) (q,true) = 0 from if_neg (by simp [hy])]
     omega
 ·-- from (p,1) to (q,0)
  by_cases h:p = q
  ·subst h
   have u1:f.U p = true:=by
    rcases (show T p p∨(p = p∧f.U p = true) from r) with r | r
    ·exact absurd r (ro p)
    ·exact r.2
   have e1:f.push (p,true) (p,false) = ⟨fun x=>if x = p then false else f.U x,f.F⟩:=by unfold Flow.push; exact if_pos rfl
   rw [e1]
   cases z
   ·show f.ox n y - bi (if y = p then false else f.U y) = f.ox n y - bi (f.U y) + dl (y,false) (p,false) - dl (y,false) (p,true)
    rw [show dl (y,false) (p,true) = 0 from if_neg (by simp)]
    by_cases hy:y = p
    ·subst hy
     rw [if_pos rfl,u1,fY,ie,show dl (y,false) (y,false) = 1 from if_pos rfl]
     omega
    ·rw [if_neg hy,show dl (y,false) (p,false) = 0 from if_neg (by simp [hy])]
     omega
   ·show bi (if y = p then false else f.U y) - f.out n y = bi (f.U y) - f.out n y + dl (y,true) (p,false) - dl (y,true) (p,true)
    rw [show dl (y,true) (p,false) = 0 from if_neg (by simp)]
    by_cases hy:y = p
    ·subst hy
     rw [if_pos rfl,u1,fY,ie,show dl (y,true) (y,true) = 1 from if_pos rfl]
     omega
    ·rw [if_neg hy,show dl (y,true) (p,true) = 0 from if_neg (by simp [hy])]
     omega
  ·have f0:=fwd p q rfl rfl h
   have e1:f.push (p,true) (q,false) = ⟨f.U,fun a b=>if a = p∧b = q then true else f.F a b⟩:=by unfold Flow.push; exact if_neg h
   rw [e1]
   cases z
   ·show sm n (fun u=>bi (if u = p∧y = q then true else f.F u y)) - bi (f.U y) = sm n (fun u=>bi (f.F u y)) - bi (f.U y) + dl (y,false) (q,false) - dl (y,false) (p,true)
    rw [show dl (y,false) (p,true) = 0 from if_neg (by simp)]
    by_cases hy:y = q
    ·subst hy
     rw [kX (g:=fun u=>bi (if u = p∧y = y then true else f.F u y)) (h:=fun u=>bi (f.F u y)) hd fun i hi=>by simp [hi]]
     have:bi (if p = p∧y = y then true else f.F p y) = 1:=by simp [bi]
     rw [this,f0,ie,show dl (y,false) (y,false) = 1 from if_pos rfl]
     omega
    ·have:sm n (fun u=>bi (if u = p∧y = q then true else f.F u y)) = sm n (fun u=>bi (f.F u y)):=Dt.bS fun i _=>by rw [if_neg (fun z=>hy z.2)]
     rw [this,show dl (y,false) (q,false) = 0 from if_neg (by simp [hy])]
     omega
   ·show bi (f.U y) - sm n (fun v=>bi (if y = p∧v = q then true else f.F y v)) = bi (f.U y) - sm n (fun v=>bi (f.F y v)) + dl (y,true) (q,false) - dl (y,true) (p,true)
    rw [show dl (y,true) (q,false) = 0 from if_neg (by simp)]
    by_cases hy:y = p
    ·subst hy
     rw [kX (g:=fun v=>bi (if y = y∧v = q then true else f.F y v)) (h:=fun v=>bi (f.F y v)) he fun i hi=>by simp [hi]]
     have:bi (if y = y∧q = q then true else f.F y q) = 1:=by simp [bi]
     rw [this,f0,ie,show dl (y,true) (y,true) = 1 from if_pos rfl]
     omega
    ·have:sm n (fun v=>bi (if y = p∧v = q then true else f.F y v)) = sm n (fun v=>bi (f.F y v)):=Dt.bS fun i _=>by rw [if_neg (fun z=>hy z.1)]
     rw [this,show dl (y,true) (p,true) = 0 from if_neg (by simp [hy])]
     omega
 ·exact r.elim
theorem p9 (d:ab):dl d d = 1:=if_pos rfl
theorem fM {d e:ab} (h:d≠e):dl d e = 0:=if_neg h
theorem tY {b:Bool} (h:1≤bi b):b = true:=by cases b; exact absurd h (by decide); rfl
theorem b5 {T:Nat→Nat→Prop} {f:Flow} {p q:Nat}:Res T f (p,false) (q,true)↔(p = q∧f.U p = false)∨f.F q p = true:=Iff.rfl
theorem cU {T:Nat→Nat→Prop} {f:Flow} {p q:Nat}:Res T f (p,true) (q,false)↔T p q∨(p = q∧f.U p = true):=Iff.rfl
theorem Res.wd {T:Nat→Nat→Prop} {f:Flow} {d e:ab} (h:Res T f d e):d.2≠e.2:=by
 obtain ⟨p,s⟩:=d
 obtain ⟨q,t⟩:=e
 cases s <;> cases t
 ·exact h.elim
 ·exact fun z=>by cases z
 ·exact fun z=>by cases z
 ·exact h.elim
theorem fT (f:Flow) (p:Nat):f.push (p,false) (p,true) = ⟨fun x=>if x = p then true else f.U x,f.F⟩:=by unfold Flow.push; exact if_pos rfl
theorem fS (f:Flow) {p q:Nat} (h:p≠q):f.push (p,false) (q,true) = ⟨f.U,fun a b=>if a = q∧b = p then false else f.F a b⟩:=by unfold Flow.push; exact if_neg h
theorem fR (f:Flow) (p:Nat):f.push (p,true) (p,false) = ⟨fun x=>if x = p then false else f.U x,f.F⟩:=by unfold Flow.push; exact if_pos rfl
theorem fQ (f:Flow) {p q:Nat} (h:p≠q):f.push (p,true) (q,false) = ⟨f.U,fun a b=>if a = p∧b = q then true else f.F a b⟩:=by unfold Flow.push; exact if_neg h
theorem fh {T:Nat→Nat→Prop} {f:Flow} {p x:ab} (d e:ab) (h1:¬ (d = p∧e = x)) (h2:¬ (d = x∧e = p)):Res T (f.push p x) d e↔Res T f d e:=by
 obtain ⟨p,s⟩:=p
 obtain ⟨q,t⟩:=x
 obtain ⟨y,z⟩:=d
 obtain ⟨u,v⟩:=e
 cases z <;> cases v
 ·exact Iff.rfl
 ·rw [b5,b5]
  cases s <;> cases t
  ·exact Iff.rfl
  ·by_cases h:p = q
   ·subst h
    rw [fT]
    dsimp only
    by_cases e1:y = p
    ·subst e1
     have:¬ y = u:=fun z=>h1 ⟨rfl,by rw [z]⟩
     simp [this]
    ·simp [e1]
   ·rw [fS f h]
    dsimp only
    have:¬ (u = q∧y = p):=fun z=>h1 ⟨by rw [z.2],by rw [z.1]⟩
    rw [if_neg this]
  ·by_cases h:p = q
   ·subst h
    rw [fR]
    dsimp only
    by_cases e1:y = p
    ·subst e1
     have:¬ y = u:=fun z=>h2 ⟨rfl,by rw [z]⟩
     simp [this]
    ·simp [e1]
   ·rw [fQ f h]
    dsimp only
    have:¬ (u = p∧y = q):=fun z=>h2 ⟨by rw [z.2],by rw [z.1]⟩
    rw [if_neg this]
  ·exact Iff.rfl
 ·rw [cU,cU]
  cases s <;> cases t
  ·exact Iff.rfl
  ·by_cases h:p = q
   ·subst h
    rw [fT]
    dsimp only
    by_cases e1:y = p
    ·subst e1
     have:¬ y = u:=fun z=>h2 ⟨rfl,by rw [z]⟩
     simp [this]
    ·simp [e1]
   ·rw [fS f h]
  ·by_cases h:p = q
   ·subst h
    rw [fR]
    dsimp only
    by_cases e1:y = p
    ·subst e1
     have:¬ y = u:=fun z=>h1 ⟨rfl,by rw [z]⟩
     simp [this]
    ·simp [e1]
   ·rw [fQ f h]
  ·exact Iff.rfl
 ·exact Iff.rfl
theorem ue {T:Nat→Nat→Prop} {f:Flow} {p x:ab} (sym:∀ a b,T a b→T b a) (gK:∀ u v,f.F u v = true→T u v) (r:Res T f p x):Res T (f.push p x) x p:=by
 obtain ⟨p,s⟩:=p
 obtain ⟨q,t⟩:=x
 cases s <;> cases t
 ·exact r.elim
 ·by_cases h:p = q
  ·subst h
   rw [fT,cU]
   exact .inr ⟨rfl,if_pos rfl⟩
  ·rw [fS f h,cU]
   rw [b5] at r
   exact .inl (gK _ _ (r.resolve_left fun z=>h z.1))
 ·by_cases h:p = q
  ·subst h
   rw [fR,b5]
   exact .inl ⟨rfl,if_pos rfl⟩
  ·rw [fQ f h,b5]
   exact .inr (if_pos ⟨rfl,rfl⟩)
 ·exact r.elim
theorem rf {T:Nat→Nat→Prop} {f:Flow} {p x:ab} (ro:∀ a,¬ T a a) (x4:∀ a,f.F a a = false) (r:Res T f p x):Res T (f.push p x) p x↔¬ (p.1 = x.1∨p.2 = false):=by
 obtain ⟨p,s⟩:=p
 obtain ⟨q,t⟩:=x
 cases s <;> cases t
 ·exact r.elim
 ·by_cases h:p = q
  ·subst h
   rw [fT,b5]
   simp [x4]
  ·rw [fS f h,b5]
   simp [h]
 ·by_cases h:p = q
  ·subst h
   rw [fR,cU]
   simp [ro]
  ·rw [fQ f h,cU]
   rw [cU] at r
   have:=r.resolve_right fun z=>h z.1
   simp [h,this]
 ·exact r.elim
structure Net (n:Nat) (T:Nat→Nat→Prop) (a b:Nat):Prop where
 sym:∀ p q,T p q→T q p
 ro:∀ p,¬ T p p
 rg:∀ p q,T p q→p < n∧q < n
 no:¬ T a b
 ha:a < n
 hb:b < n
 ne:a≠b
structure Fl (n:Nat) (T:Nat→Nat→Prop) (a b:Nat) (i:Int) (f:Flow):Prop where
 gK:∀ u v,f.F u v = true→T u v
 u1:f.U a = false
 u2:f.U b = false
 hW:∀ x:ab,x.1 < n→f.hW n x = i * dl x (b,false) - i * dl x (a,true)
theorem rR {g:Nat→Int}:∀ {n:Nat},(∀ i,0≤g i)→0≤sm n g
 | 0,_=>Int.le_refl _
 | n + 1,h=>by
  show 0≤sm n g + g n
  have:=rR (n:=n) h
  have:=h n
  omega
theorem ir {g h:Nat→Int}:∀ {n:Nat},(∀ i,i < n→g i≤h i)→sm n g≤sm n h
 | 0,_=>Int.le_refl _
 | n + 1,e=>by
  show sm n g + g n≤sm n h + h n
  have:=ir (n:=n) fun i hi=>e i (by omega)
  have:=e n (by omega)
  omega
theorem wc {g:Nat→Int} {n k:Nat} (h:∀ i,0≤g i) (hk:k < n):g k≤sm n g:=by
 have:sm n (fun i=>if i = k then g k else 0) = g k:=by
  rw [Dt.ef hk fun i _ ne=>if_neg ne]
  exact if_pos rfl
 rw [← this]
 refine ir fun i _=>?_
 by_cases e:i = k
 ·rw [if_pos e,e]; exact Int.le_refl _
 ·rw [if_neg e]; exact h i
theorem rS {g:Nat→Int} {n k l:Nat} (h:∀ i,0≤g i) (hk:k < n) (hl:l < n) (ne:k≠l):g k + g l≤sm n g:=by
 have e1:sm n (fun i=>(if i = k then g k else 0) + (if i = l then g l else 0)) = g k + g l:=by
  rw [Dt.gP]
  rw [Dt.ef hk fun i _ ne=>if_neg ne,Dt.ef hl fun i _ ne=>if_neg ne,if_pos rfl,if_pos rfl]
 rw [← e1]
 refine ir fun i _=>?_
 by_cases e:i = k
 ·rw [if_pos e,if_neg (by omega),e]; omega
 ·rw [if_neg e]
  by_cases e':i = l
  ·rw [if_pos e',e']; omega
  ·rw [if_neg e']; have:=h i; omega
section
variable {n:Nat} {T:Nat→Nat→Prop} {a b:Nat} {i:Int} {f:Flow}
theorem Fl.ox (F:Fl n T a b i f) {q:Nat} (hq:q < n) (hb:q≠b):f.ox n q = bi (f.U q):=by
 have:=F.hW (q,false) hq
 rw [fM (show ((q,false):ab)≠(b,false) from fun z=>hb (by injection z)),fM (show ((q,false):ab)≠(a,true) from fun z=>by injection z with _ z; cases z)] at this
 have e:f.hW n (q,false) = f.ox n q - bi (f.U q):=rfl
 omega
theorem Fl.out (F:Fl n T a b i f) {p:Nat} (hp:p < n) (ha:p≠a):f.out n p = bi (f.U p):=by
 have:=F.hW (p,true) hp
 rw [fM (show ((p,true):ab)≠(a,true) from fun z=>ha (by injection z)),fM (show ((p,true):ab)≠(b,false) from fun z=>by injection z with _ z; cases z)] at this
 have e:f.hW n (p,true) = bi (f.U p) - f.out n p:=rfl
 omega
theorem Fl.tq (F:Fl n T a b i f) (N:Net n T a b) {p q:Nat} (hb:q≠b) (h:f.F p q = true):f.U q = true:=by
 have hT:=N.rg _ _ (F.gK _ _ h)
 have e:=F.ox hT.2 hb
 have:bi (f.F p q)≤f.ox n q:=wc (g:=fun u=>bi (f.F u q)) (fun _=>nO _) hT.1
 rw [h,fY] at this
 exact tY (by omega)
theorem Fl.wC (F:Fl n T a b i f) (N:Net n T a b) {p p' q:Nat} (hb:q≠b) (h:f.F p q = true) (h':f.F p' q = true):p = p':=by
 have hT:=N.rg _ _ (F.gK _ _ h)
 have FT:=N.rg _ _ (F.gK _ _ h')
 have e:=F.ox hT.2 hb
 refine Classical.byContradiction fun ne=>?_
 have:bi (f.F p q) + bi (f.F p' q)≤f.ox n q:=rS (g:=fun u=>bi (f.F u q)) (fun _=>nO _) hT.1 FT.1 ne
 rw [h,h',fY] at this
 have:=wW (f.U q)
 omega
theorem Fl.wz (F:Fl n T a b i f) (N:Net n T a b) {p q:Nat} (ha:p≠a) (h:f.F p q = true):f.U p = true:=by
 have hT:=N.rg _ _ (F.gK _ _ h)
 have e:=F.out hT.1 ha
 have:bi (f.F p q)≤f.out n p:=wc (g:=fun v=>bi (f.F p v)) (fun _=>nO _) hT.2
 rw [h,fY] at this
 exact tY (by omega)
theorem Fl.wA (F:Fl n T a b i f) (N:Net n T a b) {p q q':Nat} (ha:p≠a) (h:f.F p q = true) (h':f.F p q' = true):q = q':=by
 have hT:=N.rg _ _ (F.gK _ _ h)
 have FT:=N.rg _ _ (F.gK _ _ h')
 have e:=F.out hT.1 ha
 refine Classical.byContradiction fun ne=>?_
 have:bi (f.F p q) + bi (f.F p q')≤f.out n p:=rS (g:=fun v=>bi (f.F p v)) (fun _=>nO _) hT.2 FT.2 ne
 rw [h,h',fY] at this
 have:=wW (f.U p)
 omega
theorem Fl.sM (F:Fl n T a b i f) (N:Net n T a b) (u:Nat):f.F u a = false:=by
 cases h:f.F u a with
 | false=>rfl
 | true=>have:=F.tq N N.ne h; rw [F.u1] at this; cases this
theorem Fl.x3 (F:Fl n T a b i f) (N:Net n T a b) (v:Nat):f.F b v = false:=by
 cases h:f.F b v with
 | false=>rfl
 | true=>have:=F.wz N N.ne.symm h; rw [F.u2] at this; cases this
theorem oS {g:Nat→Bool}:∀ {n:Nat},1≤sm n (fun i=>bi (g i))→∃ i,i < n∧g i = true
 | 0,h=>absurd (show (1:Int)≤0 from h) (by decide)
 | n + 1,h=>by
  cases e:g n with
  | true=>exact ⟨n,by omega,e⟩
  | false=>
   have h:1≤sm n (fun i=>bi (g i)) + bi (g n):=h
   rw [e,ie] at h
   obtain ⟨i,hi,hg⟩:=oS (g:=g) (n:=n) (by omega)
   exact ⟨i,by omega,hg⟩
theorem Fl.next (F:Fl n T a b i f) (N:Net n T a b) {u p:Nat} (hb:p≠b) (h:f.F u p = true):∃ q,f.F p q = true:=by
 have hp:=(N.rg _ _ (F.gK _ _ h)).2
 have ha:p≠a:=fun z=>by subst z; rw [F.sM N] at h; cases h
 have e:=F.out hp ha
 rw [F.tq N hb h,fY] at e
 obtain ⟨q,_,hq⟩:=oS (g:=fun v=>f.F p v) (n:=n) (by rw [show sm n (fun v=>bi (f.F p v)) = f.out n p from rfl,e]; exact Int.le_refl _)
 exact ⟨q,hq⟩
end
end Fw
end
section
namespace Fw
open Dt (sm)
theorem vB (f:Flow) (n:Nat) (D:ab→Bool) :
  sm n (fun p=>bi (D (p,false)) * f.hW n (p,false) + bi (D (p,true)) * f.hW n (p,true)) = sm n (fun p=>bi (f.U p) * (bi (D (p,true)) - bi (D (p,false)))) + sm n (fun u=>sm n (fun v=>bi (f.F u v) * (bi (D (v,false)) - bi (D (u,true))))):=by
 have e1:sm n (fun u=>sm n (fun v=>bi (f.F u v) * (bi (D (v,false)) - bi (D (u,true))))) = sm n (fun p=>bi (D (p,false)) * f.ox n p) - sm n (fun p=>bi (D (p,true)) * f.out n p):=by
  have a1:sm n (fun u=>sm n (fun v=>bi (f.F u v) * (bi (D (v,false)) - bi (D (u,true))))) = sm n (fun u=>sm n (fun v=>bi (D (v,false)) * bi (f.F u v)) - bi (D (u,true)) * f.out n u):=Dt.bS fun u _=>by
   unfold Flow.out
   rw [← Dt.iR,← Dt.gN]
   exact Dt.bS fun v _=>by grind
  rw [a1,Dt.gN,Dt.oT]
  congr 1
  exact Dt.bS fun p _=>by unfold Flow.ox; rw [← Dt.iR]
 rw [e1,← Dt.gN,← Dt.gP]
 refine Dt.bS fun p _=>?_
 show bi (D (p,false)) * (f.ox n p - bi (f.U p)) + bi (D (p,true)) * (bi (f.U p) - f.out n p) = _
 grind
section
variable {n:Nat} {T:Nat→Nat→Prop} {a b:Nat} {i:Int} {f:Flow}
theorem Fl.sum (F:Fl n T a b i f) (N:Net n T a b) (D:ab→Bool):sm n (fun p=>bi (D (p,false)) * f.hW n (p,false) + bi (D (p,true)) * f.hW n (p,true)) = i * bi (D (b,false)) - i * bi (D (a,true)):=by
 rw [Dt.gP]
 have e1:sm n (fun p=>bi (D (p,false)) * f.hW n (p,false)) = i * bi (D (b,false)):=by
  rw [Dt.ef N.hb]
  ·rw [F.hW (b,false) N.hb,p9,fM (fun z=>by injection z with _ z; cases z)]; grind
  ·intro p hp ne
   rw [F.hW (p,false) hp,fM (fun z=>ne (by injection z)),fM (fun z=>by injection z with _ z; cases z)]; grind
 have e2:sm n (fun p=>bi (D (p,true)) * f.hW n (p,true)) = - (i * bi (D (a,true))):=by
  rw [Dt.ef N.ha]
  ·rw [F.hW (a,true) N.ha,p9,fM (fun z=>by injection z with _ z; cases z)]; grind
  ·intro p hp ne
   rw [F.hW (p,true) hp,fM (fun z=>by injection z with _ z; cases z),fM (fun z=>ne (by injection z))]; grind
 rw [e1,e2]
 omega
theorem Fl.val (F:Fl n T a b i f) (N:Net n T a b) (D:ab→Bool) (da:D (a,true) = true) (db:D (b,false) = false) :
  - i = sm n (fun p=>bi (f.U p) * (bi (D (p,true)) - bi (D (p,false)))) + sm n (fun u=>sm n (fun v=>bi (f.F u v) * (bi (D (v,false)) - bi (D (u,true))))):=by
 rw [← vB,F.sum N,da,db,fY,ie]
 omega
theorem Fl.cut (F:Fl n T a b i f) (N:Net n T a b) (D:ab→Bool) (da:D (a,true) = true) (db:D (b,false) = false) (cl:∀ d e,D d = true→Res T f d e→D e = true) :
  i = sm n (fun p=>bi (D (p,false) && !D (p,true))):=by
 have h:=F.val N D da db
 have z:sm n (fun u=>sm n (fun v=>bi (f.F u v) * (bi (D (v,false)) - bi (D (u,true))))) = 0:=Dt.fm fun u _=>Dt.fm fun v _=>by
  cases e:f.F u v with
  | false=>rw [ie]; omega
  | true=>
   have:D (v,false) = D (u,true):=by
    cases h1:D (u,true) with
    | true=>exact cl _ _ h1 (cU.mpr (.inl (F.gK _ _ e)))
    | false=>
     cases h2:D (v,false) with
     | false=>rfl
     | true=>rw [cl _ _ h2 (b5.mpr (.inr e))] at h1; cases h1
   rw [this]; omega
 rw [z] at h
 have:sm n (fun p=>bi (f.U p) * (bi (D (p,true)) - bi (D (p,false)))) = sm n (fun p=>(-1) * bi (D (p,false) && !D (p,true))):=Dt.bS fun p _=>by
  cases e:f.U p with
  | false=>
   rw [ie]
   cases h1:D (p,false) with
   | false=>simp [bi]
   | true=>
    have:D (p,true) = true:=cl _ _ h1 (b5.mpr (.inl ⟨rfl,e⟩))
    rw [this]; simp [bi]
  | true=>
   rw [fY]
   cases h1:D (p,true) with
   | true=>
    have:D (p,false) = true:=cl _ _ h1 (cU.mpr (.inr ⟨rfl,e⟩))
    rw [this]; simp [bi]
   | false=>cases D (p,false) <;> simp [bi]
 rw [this,Dt.iR] at h
 omega
theorem Fl.sY (F:Fl n T a b i f) (N:Net n T a b) (C S:Nat→Bool) (ca:C a = true) (cb:C b = false) (sb:S b = false) (cl:∀ u v,C u = true→T u v→C v = true∨S v = true):i≤sm n (fun p=>bi (S p)):=by
 have h:=F.val N (fun d=>if d.2 then C d.1 else C d.1 || S d.1) ca (by show (C b || S b) = false; rw [cb,sb]; rfl)
 have z:0≤sm n (fun u=>sm n (fun v=>bi (f.F u v) * (bi (C v || S v) - bi (C u)))):=rR fun u=>rR fun v=>by
  cases e:f.F u v with
  | false=>rw [ie]; omega
  | true=>
   rw [fY]
   cases h1:C u with
   | false=>rw [ie]; have:=nO (C v || S v); omega
   | true=>
    have:(C v || S v) = true:=by
     rcases cl u v h1 (F.gK _ _ e) with h | h
     ·rw [h]; rfl
     ·rw [h]; cases C v <;> rfl
    rw [this,fY]; decide
 have y:sm n (fun p=>(-1) * bi (S p))≤sm n (fun p=>bi (f.U p) * (bi (C p) - bi (C p || S p))):=ir fun p _=>by
  cases f.U p <;> cases C p <;> cases S p <;> decide
 have h : - i = sm n (fun p=>bi (f.U p) * (bi (C p) - bi (C p || S p))) + sm n (fun u=>sm n (fun v=>bi (f.F u v) * (bi (C v || S v) - bi (C u)))):=h
 rw [Dt.iR] at y
 omega
theorem gO (g:Nat→Bool):∀ n:Nat,sm n (fun p=>bi (g p)) = (((List.range n).filter g).length:Int)
 | 0=>rfl
 | n + 1=>by
  show sm n (fun p=>bi (g p)) + bi (g n) = _
  rw [gO g n,List.range_succ,List.filter_append,List.length_append]
  cases e:g n <;> simp [e,bi]
theorem Fl.oA (F:Fl n T a b i f) (N:Net n T a b):i≤(n:Int) - 2:=by
 have h:=F.sY N (fun p=>p == a) (fun p=>!(p == a) && !(p == b)) (by simp) (by simpa using N.ne.symm) (by simp) (fun u v hu t=>by
  by_cases e:v = a
  ·exact .inl (by simp [e])
  ·refine .inr ?_
   have:v≠b:=fun z=>by subst z; rw [show u = a by simpa using hu] at t; exact N.no t
   simp [e,this])
 have e:sm n (fun p=>bi (!(p == a) && !(p == b))) = sm n (fun p=>1 - ((if p = a then 1 else 0) + (if p = b then 1 else 0))):=Dt.bS fun p _=>by
  have:=N.ne
  by_cases h1:p = a
  ·subst h1; simp [bi,this]
  ·by_cases h2:p = b
   ·subst h2; simp [bi,h1]
   ·simp [bi,h1,h2]
 rw [e,Dt.gN,Dt.gP,Dt.ef N.ha (fun i _ ne=>if_neg ne),Dt.ef N.hb (fun i _ ne=>if_neg ne),if_pos rfl,if_pos rfl] at h
 have c:∀ m:Nat,sm m (fun _=>(1:Int)) = m:=by
  intro m
  induction m with
  | zero=>rfl
  | succ m ih=>show sm m (fun _=>(1:Int)) + 1 = _; rw [ih]; omega
 rw [c] at h
 omega
structure Fan (n:Nat) (N:ab→ab→Prop) (st:ab) (aj:List (ab×Option ab)):Prop where
 nd:(aj.map Prod.fst).Nodup
 st:aj[0]? = some (st,none)
 par:∀ (j:Nat) (d:ab) (e:Option ab),aj[j]? = some (d,e)→(j = 0∧e = none)∨∃ (k:Nat) (p:ab) (o:Option ab),k < j∧e = some p∧aj[k]? = some (p,o)∧N p d
 rg:∀ d∈aj.map Prod.fst,d.1 < n
def rk (aj:List (ab×Option ab)) (d:ab):Nat:=(aj.map Prod.fst).idxOf d
theorem Fan.oV {N:ab→ab→Prop} {st:ab} {aj:List (ab×Option ab)} (h:Fan n N st aj) {j:Nat} {d:ab} {e:Option ab} (hj:aj[j]? = some (d,e)):rk aj d = j:=by
 have hl:j < aj.length:=(List.getElem?_eq_some_iff.mp hj).1
 have e1:(aj.map Prod.fst)[j]'(by rw [List.length_map]; exact hl) = d:=by
  rw [List.getElem_map]
  rw [(List.getElem?_eq_some_iff.mp hj).2]
 unfold rk
 rw [← e1]
 exact h.nd.idxOf_getElem j _
theorem Fan.up {N:ab→ab→Prop} {st:ab} {aj:List (ab×Option ab)} (h:Fan n N st aj) {d p:ab} (hd:(d,some p)∈aj):rk aj p < rk aj d∧N p d∧∃ o,(p,o)∈aj:=by
 obtain ⟨j,hj⟩:=List.mem_iff_getElem?.mp hd
 rcases h.par j d _ hj with ⟨_,z⟩ | ⟨k,q,o,hk,e,hq,hN⟩
 ·cases z
 ·injection e with e
  subst e
  rw [h.oV hj,h.oV hq]
  exact ⟨hk,hN,o,List.mem_of_getElem? hq⟩
theorem Fan.root {N:ab→ab→Prop} {st:ab} {aj:List (ab×Option ab)} (h:Fan n N st aj) {d:ab} (hd:(d,none)∈aj):d = st:=by
 obtain ⟨j,hj⟩:=List.mem_iff_getElem?.mp hd
 rcases h.par j d _ hj with ⟨z,_⟩ | ⟨k,q,o,hk,e,hq,hN⟩
 ·subst z; rw [h.st] at hj; injection hj with hj; injection hj with hj; exact hj.symm
 ·cases e
theorem Fan.uniq {N:ab→ab→Prop} {st:ab} {aj:List (ab×Option ab)} (h:Fan n N st aj) {d:ab} {e e':Option ab} (h1:(d,e)∈aj) (h2:(d,e')∈aj):e = e':=by
 obtain ⟨j,hj⟩:=List.mem_iff_getElem?.mp h1
 obtain ⟨k,hk⟩:=List.mem_iff_getElem?.mp h2
 have:=h.oV hj
 have:=h.oV hk
 have:j = k:=by omega
 subst this
 rw [hj] at hk
 injection hk with hk
 injection hk
end
end Fw
end
section
namespace Fw
open Dt (sm)
section
variable {n:Nat} {T:Nat→Nat→Prop} {a b:Nat} {i:Int} {f:Flow}
structure Go (n:Nat) (T:Nat→Nat→Prop) (a b:Nat) (f:Flow) (aj:List (ab×Option ab)) (x:ab) (f':Flow):Prop where
 xk:∃ o,(x,o)∈aj
 le:rk aj x≤rk aj (b,false)
 gK:∀ u v,f'.F u v = true→T u v
 u1:f'.U a = false
 u2:f'.U b = false
 hW:∀ y:ab,y.1 < n→f'.hW n y = f.hW n y + dl y (b,false) - dl y x
 same:∀ d e,rk aj d < rk aj x∨rk aj e < rk aj x→(Res T f' d e↔Res T f d e)
 nx:x = (b,false)∨∃ e,Res T f x e∧(e,some x)∈aj
theorem Go.start (F:Fl n T a b i f) {aj:List (ab×Option ab)} (h:∃ o,((b,false),o)∈aj):Go n T a b f aj (b,false) f:=
 ⟨h,Nat.le_refl _,F.gK,F.u1,F.u2,fun y _=>by omega,fun _ _ _=>Iff.rfl,.inl rfl⟩
theorem Go.fwd (F:Fl n T a b i f) (N:Net n T a b) {aj:List (ab×Option ab)} (K:Fan n (Res T f) (a,true) aj) {x:ab} {f':Flow} (G:Go n T a b f aj x f') {p q:Nat} (hx:(x,some (p,true))∈aj) (xq:x = (q,false)) (ne:p≠q):f'.F p q = false:=by
 subst xq
 obtain ⟨hr,hN,o,hp⟩:=K.up hx
 cases h:f'.F p q with
 | false=>rfl
 | true=>
  exfalso
  have h1:f.F p q = true:=by
   have:=(G.same (q,false) (p,true) (.inr hr)).mp (b5.mpr (.inr h))
   exact (b5.mp this).resolve_left fun z=>ne z.1.symm
  by_cases hb:q = b
  ·subst hb
   have pa:p≠a:=fun z=>by subst z; exact N.no (F.gK _ _ h1)
   cases o with
   | none=>exact pa (by have:=K.root hp; injection this)
   | some r=>
    obtain ⟨Ig,Iz,_⟩:=K.up hp
    obtain ⟨r',s⟩:=r
    cases s with
    | true=>exact Iz.elim
    | false=>
     rcases b5.mp Iz with z | z
     ·rw [z.1,F.wz N pa h1] at z; cases z.2
     ·have:=F.wA N pa h1 z
      subst this
      omega
  ·rcases G.nx with z | ⟨e,he,hk⟩
   ·exact hb (by injection z)
   ·obtain ⟨e',s⟩:=e
    cases s with
    | false=>exact he.elim
    | true=>
     rcases b5.mp he with z | z
     ·rw [F.tq N hb h1] at z; cases z.2
     ·have:=F.wC N hb h1 z
      subst this
      have:=(K.up hk).1
      omega
theorem Go.open (F:Fl n T a b i f) (N:Net n T a b) {aj:List (ab×Option ab)} (K:Fan n (Res T f) (a,true) aj) {x p:ab} {f':Flow} (G:Go n T a b f aj x f') (hx:(x,some p)∈aj):Res T f' p x:=by
 obtain ⟨hr,hN,_⟩:=K.up hx
 exact (G.same p x (.inl hr)).mpr hN
theorem Go.step (F:Fl n T a b i f) (N:Net n T a b) {aj:List (ab×Option ab)} (K:Fan n (Res T f) (a,true) aj) {x p:ab} {f':Flow} (G:Go n T a b f aj x f') (hx:(x,some p)∈aj):Go n T a b f aj p (f'.push p x):=by
 obtain ⟨hr,hN,o,hp⟩:=K.up hx
 have r:=G.open F N K hx
 have x4:∀ c,f'.F c c = false:=fun c=>by
  cases h:f'.F c c with
  | false=>rfl
  | true=>exact absurd (G.gK _ _ h) (N.ro c)
 have px:x.1 < n:=K.rg x (List.mem_map.mpr ⟨_,hx,rfl⟩)
 have pn:p.1 < n:=K.rg p (List.mem_map.mpr ⟨_,hp,rfl⟩)
 have pb:∀ y:ab,y.1 < n→(f'.push p x).hW n y = f'.hW n y + dl y x - dl y p:=fun y _=>Flow.sr (T:=T) N.ro x4 pn px r (fun u q e1 e2 ne=>by
  subst e1
  exact G.fwd F N K hx e2 ne) y
 refine ⟨⟨o,hp⟩,Nat.le_trans (Nat.le_of_lt hr) G.le,?_,?_,?_,fun y hy=>?_,fun d e h=>?_,.inr ⟨x,hN,hx⟩⟩
 ·intro u v pW
  obtain ⟨p',s⟩:=p
  obtain ⟨q,t⟩:=x
  cases s <;> cases t
  ·exact r.elim
  ·by_cases h:p' = q
   ·subst h; rw [fT] at pW; exact G.gK _ _ pW
   ·rw [fS _ h] at pW
    dsimp only at pW
    by_cases c:u = q∧v = p'
    ·rw [if_pos c] at pW; cases pW
    ·rw [if_neg c] at pW; exact G.gK _ _ pW
  ·by_cases h:p' = q
   ·subst h; rw [fR] at pW; exact G.gK _ _ pW
   ·rw [fQ _ h] at pW
    dsimp only at pW
    by_cases c:u = p'∧v = q
    ·rw [c.1,c.2]; exact (cU.mp r).resolve_right fun z=>h z.1
    ·rw [if_neg c] at pW; exact G.gK _ _ pW
  ·exact r.elim
 ·obtain ⟨p',s⟩:=p
  obtain ⟨q,t⟩:=x
  cases s <;> cases t
  ·exact r.elim
  ·by_cases h:p' = q
   ·subst h
    rw [fT]
    dsimp only
    have:a≠p':=fun z=>by
     subst z
     have:=K.uniq hx (List.mem_of_getElem? K.st)
     cases this
    rw [if_neg this]; exact G.u1
   ·rw [fS _ h]; exact G.u1
  ·by_cases h:p' = q
   ·subst h
    rw [fR]
    dsimp only
    by_cases c:a = p'
    ·rw [if_pos c]
    ·rw [if_neg c]; exact G.u1
   ·rw [fQ _ h]; exact G.u1
  ·exact r.elim
 ·obtain ⟨p',s⟩:=p
  obtain ⟨q,t⟩:=x
  cases s <;> cases t
  ·exact r.elim
  ·by_cases h:p' = q
   ·subst h
    rw [fT]
    dsimp only
    have:b≠p':=fun z=>by
     subst z
     have:=G.le
     omega
    rw [if_neg this]; exact G.u2
   ·rw [fS _ h]; exact G.u2
  ·by_cases h:p' = q
   ·subst h
    rw [fR]
    dsimp only
    by_cases c:b = p'
    ·rw [if_pos c]
    ·rw [if_neg c]; exact G.u2
   ·rw [fQ _ h]; exact G.u2
  ·exact r.elim
 ·rw [pb y hy,G.hW y hy]; omega
 ·have h':¬ (d = p∧e = x):=fun z=>by rw [z.1,z.2] at h; omega
  have MS:¬ (d = x∧e = p):=fun z=>by rw [z.1,z.2] at h; omega
  rw [fh d e h' MS]
  exact G.same d e (by omega)
theorem Go.done (F:Fl n T a b i f) {aj:List (ab×Option ab)} (K:Fan n (Res T f) (a,true) aj) {x:ab} {f':Flow} (G:Go n T a b f aj x f') (hx:(x,none)∈aj):Fl n T a b (i + 1) f':=by
 have:=K.root hx
 subst this
 refine ⟨G.gK,G.u1,G.u2,fun y hy=>?_⟩
 rw [G.hW y hy,F.hW y hy,Int.add_mul,Int.add_mul]
 omega
structure Bf (n:Nat) (N:ab→ab→Prop) (st:ab) (aj:List (ab×Option ab)) (ws:List ab):Prop extends Fan n N st aj where
 sub:∀ d∈ws,d∈aj.map Prod.fst
 qw:∀ d∈aj.map Prod.fst,d∉ws→∀ e,N d e→e∈aj.map Prod.fst
structure Bi (n:Nat) (N:ab→ab→Prop) (st:ab) (aj:List (ab×Option ab)) (ws:List ab) (x:ab) (l:List ab) (k:Nat):Prop extends Fan n N st aj where
 sub:∀ d∈ws,d∈aj.map Prod.fst
 xk:x∈aj.map Prod.fst
 qw:∀ d∈aj.map Prod.fst,d∉ws→d≠x→∀ e,N d e→e∈aj.map Prod.fst
 got:∀ (j:Nat) (e:ab),j < k→l[j]? = some e→e∈aj.map Prod.fst
theorem Bf.start {N:ab→ab→Prop} {st:ab} (h:st.1 < n):Bf n N st [(st,none)] [st]:=
 ⟨⟨by simp,rfl,fun j d e hj=>by
  cases j with
  | zero=>injection (show some (st,(none:Option ab)) = some (d,e) from hj) with hj; injection hj with _ hj; exact .inl ⟨rfl,hj.symm⟩
  | succ j=>simp at hj,fun d hd=>by rw [List.map_singleton,List.mem_singleton] at hd; rw [hd]; exact h⟩,fun d hd=>by simpa using hd,fun d hd nd=>absurd (by simpa using hd) nd⟩
theorem Bf.pop {N:ab→ab→Prop} {st x:ab} {aj:List (ab×Option ab)} {ws:List ab} (B:Bf n N st aj (x :: ws)) (l:List ab):Bi n N st aj ws x l 0:=
 ⟨B.toFan,fun d hd=>B.sub d (.tail _ hd),B.sub x (.head _),fun d hd nd ne=>B.qw d hd fun z=>by
  rcases List.mem_cons.mp z with z | z
  ·exact ne z
  ·exact nd z,fun j e h=>absurd h (Nat.not_lt_zero _)⟩
theorem Bi.skip {N:ab→ab→Prop} {st x e:ab} {aj:List (ab×Option ab)} {ws:List ab} {l:List ab} {k:Nat} (B:Bi n N st aj ws x l k) (he:l[k]? = some e) (h:e∈aj.map Prod.fst):Bi n N st aj ws x l (k + 1):=
 ⟨B.toFan,B.sub,B.xk,B.qw,fun j e' hj hl=>by
  by_cases z:j = k
  ·subst z; rw [he] at hl; injection hl with hl; rw [← hl]; exact h
  ·exact B.got j e' (by omega) hl⟩
theorem Bi.add {N:ab→ab→Prop} {st x e:ab} {aj:List (ab×Option ab)} {ws:List ab} {l:List ab} {k:Nat} (B:Bi n N st aj ws x l k) (he:l[k]? = some e) (h:e∉aj.map Prod.fst) (hN:N x e) (hn:e.1 < n):Bi n N st (aj ++ [(e,some x)]) (ws ++ [e]) x l (k + 1):=by
 have mono:∀ d,d∈aj.map Prod.fst→d∈(aj ++ [(e,some x)]).map Prod.fst:=fun d hd=>by rw [List.map_append]; exact List.mem_append_left _ hd
 have new:e∈(aj ++ [(e,some x)]).map Prod.fst:=by rw [List.map_append]; exact List.mem_append_right _ (.head _)
 have tW:∀ d,d∈(aj ++ [(e,some x)]).map Prod.fst→d∈aj.map Prod.fst∨d = e:=fun d hd=>by
  rw [List.map_append] at hd
  rcases List.mem_append.mp hd with hd | hd
  ·exact .inl hd
  ·exact .inr (by simpa using hd)
 have kl:0 < aj.length:=(List.getElem?_eq_some_iff.mp B.st).1
 refine ⟨⟨?_,?_,?_,?_⟩,?_,mono _ B.xk,?_,?_⟩
 ·rw [List.map_append]
  refine List.nodup_append.mpr ⟨B.nd,by simp,fun d hd d' vm=>?_⟩
  have:d' = e:=by simpa using vm
  subst this
  exact fun z=>h (z▸hd)
 ·rw [List.getElem?_append_left kl]; exact B.st
 ·intro j d o hj
  by_cases hl:j < aj.length
  ·rw [List.getElem?_append_left hl] at hj
   rcases B.par j d o hj with z | ⟨k',p,o',hk,e1,e2,e3⟩
   ·exact .inl z
   ·exact .inr ⟨k',p,o',hk,e1,by rw [List.getElem?_append_left (by omega)]; exact e2,e3⟩
  ·rw [List.getElem?_append_right (by omega)] at hj
   have z:j - aj.length = 0:=by
    have:=(List.getElem?_eq_some_iff.mp hj).1
    rw [List.length_singleton] at this
    omega
   rw [z] at hj
   injection hj with hj
   injection hj with h1 h2
   subst h1; subst h2
   obtain ⟨⟨x',o'⟩,hx,ex⟩:=List.mem_map.mp B.xk
   dsimp only at ex
   subst ex
   obtain ⟨k',Io⟩:=List.mem_iff_getElem?.mp hx
   have dD:=(List.getElem?_eq_some_iff.mp Io).1
   exact .inr ⟨k',x',o',by omega,rfl,by rw [List.getElem?_append_left dD]; exact Io,hN⟩
 ·intro d hd
  rcases tW d hd with z | z
  ·exact B.rg d z
  ·rw [z]; exact hn
 ·intro d hd
  rcases List.mem_append.mp hd with z | z
  ·exact mono _ (B.sub d z)
  ·rw [List.mem_singleton.mp z]; exact new
 ·intro d hd nd ne e' MO
  rcases tW d hd with z | z
  ·exact mono _ (B.qw d z (fun y=>nd (List.mem_append_left _ y)) ne e' MO)
  ·exact absurd (by rw [z]; exact List.mem_append_right _ (.head _)) nd
 ·intro j e' hj hl
  by_cases z:j = k
  ·subst z; rw [he] at hl; injection hl with hl; rw [← hl]; exact new
  ·exact mono _ (B.got j e' (by omega) hl)
theorem Bi.done {N:ab→ab→Prop} {st x:ab} {aj:List (ab×Option ab)} {ws:List ab} {l:List ab} (B:Bi n N st aj ws x l l.length) (hl:∀ e,N x e→e∈l):Bf n N st aj ws:=
 ⟨B.toFan,B.sub,fun d hd nd e he=>by
  by_cases z:d = x
  ·subst z
   obtain ⟨j,hj⟩:=List.mem_iff_getElem?.mp (hl e he)
   exact B.got j e (List.getElem?_eq_some_iff.mp hj).1 hj
  ·exact B.qw d hd nd z e he⟩
theorem Fan.len {N:ab→ab→Prop} {st:ab} {aj:List (ab×Option ab)} (K:Fan n N st aj):aj.length≤2 * n:=by
 have h:((aj.map Prod.fst).map fun d:ab=>2 * d.1 + (if d.2 then 1 else 0)).Nodup:=by
  refine List.Pairwise.map _ (fun d e ne z=>ne ?_) K.nd
  obtain ⟨p,s⟩:=d
  obtain ⟨q,t⟩:=e
  dsimp only at z
  have:p = q∧s = t:=by cases s <;> cases t <;> simp at z ⊢ <;> omega
  rw [this.1,this.2]
 have:=(List.nodup_range (n:=2 * n))
 have sb:∀ x∈((aj.map Prod.fst).map fun d:ab=>2 * d.1 + (if d.2 then 1 else 0)),x∈List.range (2 * n):=fun x hx=>by
  obtain ⟨d,hd,rfl⟩:=List.mem_map.mp hx
  have:=K.rg d hd
  rw [List.mem_range]
  split <;> omega
 have:=h.length_le_of_subset sb
 simpa using this
end
end Fw
end
section
namespace PySem
namespace F
end F
end PySem
namespace L2
open PySem PySem.Spec PySem.W PySem.Calls PyProof.Rows
section
variable {X:Cx} {e st:Expr} {te Hi:TE} {p2 pos:Pos}
def Jt (K:Frag) (te Hi:TE):TE:=fun σ H Q=>te σ H fun x H1=>Hi σ H1 fun y H2=>y = .int (-1)∧∃ a xs,x = .ref a∧aG K H2 a xs∧∀ p,H2 p = none→Q (.ref p) (upd H2 p (.lst xs.reverse))
end
section
variable {X:Cx} {l:Expr} {tl:TE} {p p2 pos xO:Pos}
def zG (K:Frag) (tl:TE):TE:=fun σ H Q=>tl σ H fun x H1=>∃ a xs,x = .ref a∧aG K H1 a xs∧∀ p,H1 p = none→Q (.ref p) (upd H1 p (.lst xs.reverse))
end
end L2
end
section
namespace Gm
open PySem L2
def sw (d:au):au:=(d.2,d.1)
def OR (L:List (List Int)):List (List Int):=L.map List.reverse
def BS (r s:List Int):Prop:=∃ c,c < r.length∧s = B1 r.reverse c∧ug s
abbrev Jj:List (List Int)→List (List Int)→Prop:=Paired BS
end Gm
end
section
namespace Gm
open PySem L2
end Gm
end
section
namespace Gm
open PySem L2
structure Lay (A B:List (List Int)) (f:Int→Int):Prop where
 len:A.length = B.length
 rg:∀ i:Int,0≤i→i < A.length→0≤f i∧f i < B.length
 row:∀ i:Int,0≤i→i < A.length→qi ((rowOf A i).map f) (rowOf B (f i))
end Gm
end
section
namespace Gm
open PySem L2
def nm (ks:List (Int×Int)) (p:Int):Int:=(ks.lookup p).getD 0
structure wY (A B:List (List Int)) (first x0 second:Int) (f:Int→Int):Prop where
 lay:Lay A B f
 e0:f 0 = first
 e1:f x0 = second
abbrev Wait:=Int×Int×Int
structure Nf (A B:List (List Int)) (first x0 second:Int) (ks:List (Int×Int)) (ws:List Wait):Prop where
 nd:(ks.map (·.1)).Nodup
 rg:∀ p∈ks,(0≤p.1∧p.1 < A.length)∧0≤p.2∧p.2 < B.length
 st:(0,first)∈ks
 wn:(ws.map (·.1)).Nodup
 wk:∀ w∈ws,∃ v,(w.1,v)∈ks∧w.2.1∈rowOf A w.1∧w.2.2∈rowOf B v
 cl:∀ p v,(p,v)∈ks→p∉ws.map (·.1)→(∀ y∈rowOf A p,∃ u,(y,u)∈ks)∧qi ((rowOf A p).map (nm ks)) (rowOf B v)
 un:∀ f,wY A B first x0 second f→(∀ p∈ks,f p.1 = p.2)∧∀ w∈ws,f w.2.1 = w.2.2
 LP:(0,x0,second)∈ws∨(x0,second)∈ks
structure Ni (A B:List (List Int)) (first x0 second:Int) (ks:List (Int×Int)) (ws:List Wait) (p v:Int) (od gl:List Int) (k:Nat):Prop where
 nd:(ks.map (·.1)).Nodup
 rg:∀ p∈ks,(0≤p.1∧p.1 < A.length)∧0≤p.2∧p.2 < B.length
 st:(0,first)∈ks
 wn:(ws.map (·.1)).Nodup
 pn:p∉ws.map (·.1)
 pk:(p,v)∈ks
 wk:∀ w∈ws,∃ v,(w.1,v)∈ks∧w.2.1∈rowOf A w.1∧w.2.2∈rowOf B v
 cl:∀ q u,(q,u)∈ks→q∉ws.map (·.1)→q≠p→(∀ y∈rowOf A q,∃ u,(y,u)∈ks)∧qi ((rowOf A q).map (nm ks)) (rowOf B u)
 un:∀ f,wY A B first x0 second f→(∀ p∈ks,f p.1 = p.2)∧∀ w∈ws,f w.2.1 = w.2.2
 tk:∀ (t:Nat) (y u:Int),t < k→od[t]? = some y→gl[t]? = some u→(y,u)∈ks
 LP:(0,x0,second)∈ws∨(x0,second)∈ks∨(od[0]? = some x0∧gl[0]? = some second)
end Gm
end
section
namespace Gm
open PySem L2
def kI (ks:List (Int×Int)):List (Key×V):=ks.map fun p=>((Sum.inl p.1:Key),V.int p.2)
abbrev WR (H:Hp):List Addr→List Wait→Prop:=Paired fun a w=>H a = some (.tup [.int w.1,.int w.2.1,.int w.2.2])
end Gm
end
section
namespace L2
open PySem PySem.Spec PySem.W PySem.Calls PyProof.Rows Gm
section
variable {X:Cx} {l:Expr} {tl:TE} {p p2 pos xO:Pos}
def mC (tl:TE):TE:=fun σ H Q=>tl σ H fun x H1=>∃ n:Nat,x = .int (n:Int)∧n≤1000∧∀ p,H1 p = none→Q (.ref p) (upd H1 p (.lst ((cg n).map V.int)))
theorem qk {acc:Array Value} {n:Nat} (h:ItemsOf (fun i v=>∃ t,v = Value.int (0 + (i:Int) * 1) t) acc n):Vals ((cg n).map V.int) acc.toList:=by
 obtain ⟨hs,h⟩:=h
 have key:∀ (l:List Value) (k:Nat),(∀ j v,l[j]? = some v→∃ t,v = Value.int (((k + j:Nat):Int)) t)→Vals (((List.range' k l.length).map fun i:Nat=>(i:Int)).map V.int) l:=by
  intro l
  induction l with
  | nil=>intro k _; exact .nil
  | cons a l ih=>
   intro k hk
   rw [List.length_cons,List.range'_succ,List.map_cons,List.map_cons]
   refine .cons ?_ (ih (k + 1) fun j v e=>?_)
   ·obtain ⟨t,e⟩:=hk 0 a rfl
    exact ⟨t,e⟩
   ·obtain ⟨t,e'⟩:=hk (j + 1) v (by simpa using e)
    exact ⟨t,by rw [e']; congr 2; omega⟩
 have:=key acc.toList 0 fun j v e=>by
  obtain ⟨t,e'⟩:=h j v (by rw [← Array.getElem?_toList]; exact e)
  refine ⟨t,?_⟩
  rw [e']
  congr 1
  omega
 rw [Array.length_toList,hs] at this
 unfold cg
 rw [List.range_eq_range']
 exact this
theorem lJ (hc:X.calm = true) (hm:X.mg "range" = none) (Fx:X.mg "list" = none) (ha:PE X l tl) (hg:Gl X "range":=by rfl) (Mz:Gl X "list":=by rfl)
  (he:starEach [l] X.env = (false,eval l X.env) :: starEach [] X.env:=by rfl)
  (Cu:starEach [.Call (.Name "range" p) [l] [] pos] X.env = (false,eval (.Call (.Name "range" p) [l] [] pos) X.env) :: starEach [] X.env:=by rfl) :
  PE X (.Call (.Name "list" p2) [.Call (.Name "range" p) [l] [] pos] [] xO) (mC tl):=by
 intro pins s σ H Q I h
 refine Call_ (gT I Mz Fx oF (PyProof.Rows.callWith_type1 ?_ Cu rfl))
 rw [Cu]
 show wpAny _ _ (spliced ((false,eval (.Call (.Name "range" p) [l] [] pos) X.env) :: backTo xO (starEach [] X.env))) _ _ s
 refine Calls.spliced_cons ?_
 refine Call_ (gT I hg hm boot_range (PyProof.Rows.callWith_type1 ?_ he rfl))
 rw [he]
 show wpAny _ _ (spliced ((false,eval l X.env) :: backTo pos (starEach [] X.env))) _ _ s
 refine Calls.spliced_cons (bR (ha pins s σ H _ I h) fun u1 s1 ⟨x,H1,I1,r1,q1⟩=>?_)
 refine Calls.spliced_nil ?_
 obtain ⟨n,rfl,hn,q⟩:=q1
 obtain ⟨t,rfl⟩:=r1
 refine call_range_1 ?_
 refine Calls.spliced_nil ?_
 generalize tG:s1.heap.push { cls:=Value.type "range",data:=Data.fields #[Value.int 0 s1.toks,Value.int (n:Int) t,Value.int 1 (s1.toks + 1)] } = h'
 have kp:∀ c o,s1.heap.get? c = some o→h'.get? c = some o:=fun c o e=>tG▸Heap.get?_push_of_some _ e
 have hz:IsRange h' s1.heap.objs.size 0 (n:Int) 1 s1.toks t (s1.toks + 1):=tG▸IsRange.new ..
 have I2:Inv X pins σ H1 { s1 with heap:=h',toks:=s1.toks + 1 + 1 }:=I1.kept kp
 refine call_list_range (s:={ s1 with heap:=h',toks:=s1.toks + 1 + 1 }) (n:=n) (I2.ok.hd hc) hz (small_one (by omega) (by omega) (by omega) (by omega)) (by rw [rangeSize_one]; split <;> omega) (by omega) fun h3 tk acc c hk hS hit=>?_
 have I3:Inv X pins σ (upd H1 h'.objs.size (.lst ((cg n).map V.int))) { s1 with heap:=h3,toks:=tk }:=by
  refine Inv.jW (s:={ s1 with heap:=h',toks:=s1.toks + 1 + 1 }) (ch:=[]) I2 (fun b u _ e=>hk b u e) (fun b hb=>by simp at hb) (Nat.le_refl _) ?_
  exact ⟨by rw [List.length_map,gc,PySem.sizeLine_eq]; omega,acc.toList,c,qk hit,by rw [Array.toArray_toList]; exact hS⟩
 exact ⟨.ref h'.objs.size,_,I3,rfl,q _ (I2.bE.fresh (Nat.le_refl _))⟩
end
section
variable {σ : St} {H:Hp} {Q:VK} {K:Frag}
theorem qA {tl:TE} (h:tl σ H fun x H1=>∃ n:Nat,x = .int (n:Int)∧n≤1000∧∀ p,H1 p = none→Q (.ref p) (upd H1 p (.lst ((cg n).map V.int)))):mC tl σ H Q:=h
end
end L2
end
section
namespace Gm
open PySem L2
def Ly (n:Nat) (l:List Int):List (List Int):=((cg n).filter fun x=>!decide (x∈l)).map fun x=>l ++ [x]
def GQ (n:Nat):Nat→List (List Int)
 | 0=>[[]]
 | k + 1=>(GQ n k).flatMap (Ly n)
def Cg (l:List Int) (i:Int):Int:=l.getD i.toNat 0
structure Pr (n:Nat) (l:List Int):Prop where
 len:l.length = n
 nd:l.Nodup
 rg:∀ x∈l,0≤x∧x < n
structure Pm (A:List (List Int)) (l:List Int) (R:List (List Int)):Prop where
 len:R.length = A.length
 row:∀ j:Int,0≤j→j < A.length→R[(Cg l j).toNat]? = some ((rowOf A j).map (Cg l))
theorem gQ {L:List (List Int)} {i:Nat} {l:List Int} (h:L[i]? = some l):rowOf L (i:Int) = l:=by
 unfold rowOf
 rw [Int.toNat_natCast,List.getD_eq_getElem?_getD,h]
 rfl
def Oc (L:List (List Int)):Prop:=∀ x:Int,0≤x→x < L.length→Reach L 0 x
def uZ (n:Nat) (k:Nat):List Int:=[(k:Int) - 1,(k:Int) + 1].filter fun x=>decide (0≤x) && decide (x < n)
def path (n:Nat):List (List Int):=(List.range n).map (uZ n)
theorem lA {a b:TS} {D:Ends} {σ : St} {H:Hp} (Pv:St→Hp→Prop) (hb:∀ σ' H',Pv σ' H'→b D σ' H') (ha:∀ T:St→Hp→Prop,(∀ σ' H',Pv σ' H'→T σ' H')→a { D with nx:=T } σ H):xj a b D σ H:=ha _ hb
theorem uK {K:PySem.W.Frag} {t:TE} {σ : St} {H:Hp} {R:It→Hp→Prop} (h:t σ H fun x H1=>∃ a,x = .ref a∧(∃ xs,aG K H1 a xs)∧R (vL K a) H1):wD K t σ H R:=h
def Np (A B:List (List Int)):PyData:=.list [tU A,tU B]
end Gm
end
section
namespace L2
open PySem PySem.Spec PySem.W PySem.Calls PyProof.Rows HT
def Kq (K:Frag):R2:=fun x y H Q=>∃ (a b:Addr) (ns ms:List Int),x = .ref a∧y = .ref b∧aG K H a (ns.map V.int)∧aG K H b (ms.map V.int)∧Q (.bl (lexLt ms ns)) H
end L2
end
section
namespace L2
open PySem PySem.Spec PySem.W PySem.Calls PyProof.Rows Gm
section
variable {X:Cx}
def rJoin (K:Frag):V→List V→Hp→VK→Prop:=fun x vs H Q=>∃ (sep:Str) (a:Addr) (ts:List Str),x = .str sep∧vs = [.ref a]∧aG K H a (ts.map V.str)∧JoinOk sep ts = true∧Q (.str (Str.join sep ts)) H
def DH:V→List V→Hp→VK→Prop:=fun x vs H Q=>∃ (z y:Str),x = .str z∧vs = [.str y]∧(y.length == 0) = false∧z.length≤1000000∧(Builtin.Str.partsBetween z (Builtin.Str.occurrences z y 0 z.length (z.length + 1)) y.length).length≤sizeLine∧
 ∀ p,H p = none→Q (.ref p) (upd H p (.lst ((Txt.split z y).map V.str)))
def Jy (te:TE) (y:Str):TE:=fun σ H Q=>te σ H fun x H1=>∃ n:Int,x = .int n∧n.natAbs.log2 < 1920∧((toString n:String):Str).length + y.length≤1000000∧Q (.str (((toString n:String):Str) ++ y)) H1
end
def N7 (x:Str):It:=⟨fun i _=>i < x.cps.size,fun i H v H'=>H' = H∧∃ c,x.cps[i]? = some c∧v = .str ⟨#[c]⟩,fun i _=>x.cps.size≤i⟩
section
variable {X:Cx} {tg:Expr}
def LV (tl:TE):TI:=fun σ H R=>tl σ H fun x H1=>∃ z:Str,x = .str z∧z.cps.all (· < 128) = true∧R (N7 z) H1
end
end L2
end
section
namespace Gm
open PySem L2
def jl (s:List Nat):List (List Nat)→List Nat
 | []=>[]
 | [a]=>a
 | a :: b :: r=>a ++ s ++ jl s (b :: r)
abbrev num (n:Int):Str:=((toString n:String):Str)
structure Num (x:Str):Prop where
 l1:1≤x.length
 l2:x.length≤2
 dg:∀ c∈x.cps.toList,48≤c∧c≤57
 hd:x = ((("0" : String)):Str)∨∃ c,x.cps[0]? = some c∧c≠48
end Gm
end
section
namespace Gm
open PySem L2
theorem vt {c:List au} (h:(c.map (·.1)).Nodup) {d e:au} (hd:d∈c) (he:e∈c) (q:d.1 = e.1):d = e:=by
 obtain ⟨i,hi,rfl⟩:=List.mem_iff_getElem.mp hd
 obtain ⟨j,hj,rfl⟩:=List.mem_iff_getElem.mp he
 have:i = j:=(List.getElem_inj (h₀:=by rw [List.length_map]; exact hi) (h₁:=by rw [List.length_map]; exact hj) h).mp (by rw [List.getElem_map,List.getElem_map]; exact q)
 subst this
 rfl
theorem Wk.hold {f:au→au} {P:au→Prop} {x y:au} {l:List au} (k:Wk f x l y) (h0:P x) (hs:∀ d,d∈l→P d→P (f d)):∀ e∈l,P e:=by
 induction k with
 | nil _=>intro e he; cases he
 | @cons x y l k ih=>
  intro e he
  rcases List.mem_cons.mp he with z | z
  ·rw [z]; exact h0
  ·exact ih (hs x List.mem_cons_self h0) (fun d hd=>hs d (List.mem_cons_of_mem _ hd)) e z
theorem hX.all {f:au→au} {c:List au} {P:au→Prop} (h:hX f c) {d:au} (hd:d∈c) (h0:P d) (hs:∀ e,e∈c→P e→P (f e)):∀ e∈c,P e:=by
 obtain ⟨v,pv,k⟩:=h.turn hd
 intro e he
 rcases List.mem_cons.mp (pv.mem_iff.mpr he) with z | z
 ·rw [z]; exact h0
 ·exact k.hold (hs d hd h0) (fun x hx=>hs x (pv.mem_iff.mp (List.mem_cons_of_mem _ hx))) e z
def qh (L:List (List Int)):Prop:=∀ d,Dt L d→∃ c,d∈c∧hX (nx L) c∧(c.map (·.1)).Nodup
theorem qh.ring {L:List (List Int)} {r:List Int} (s:qh L) (g:Good L r) (n:(sh 0 r).Nodup):r.Nodup:=by
 obtain ⟨c,hc,Nq,nd⟩:=s _ (g.dt 0)
 have all:∀ j,dj r j∈c:=fun j=>g.on (P:=fun d=>d∈c) (fun d _ hd=>Nq.on hd) (i:=0) hc j
 refine List.pairwise_iff_getElem.mpr fun i j hi hj FF e=>?_
 refine gH n FF (by omega) (vt nd (all i) (all j) ?_)
 show cy r i = cy r j
 rw [nI hi,nI hj]
 exact e
def seg (r:List Int) (s m:Nat):List au:=(List.range m).map fun t=>dj r (s + t)
theorem mM (r:List Int) (s m:Nat):seg r s (m + 1) = seg r s m ++ [dj r (s + m)]:=by
 unfold seg; rw [List.range_succ,List.map_append]; rfl
theorem fE {r:List Int} {s m:Nat} {d:au}:d∈seg r s m↔∃ t,t < m∧d = dj r (s + t):=by
 unfold seg
 rw [List.mem_map]
 constructor
 ·rintro ⟨t,ht,e⟩; exact ⟨t,List.mem_range.mp ht,e.symm⟩
 ·rintro ⟨t,ht,e⟩; exact ⟨t,List.mem_range.mpr ht,e.symm⟩
theorem mL {f:au→au} {r:List Int} {s:Nat}:∀ {m:Nat},(∀ t,t + 1 < m + 1→f (dj r (s + t)) = dj r (s + t + 1))→Wk f (dj r s) (seg r s m) (dj r (s + m))
 | 0,_=>.nil _
 | m + 1,h=>by
  rw [mM]
  refine (mL (m:=m) fun t ht=>h t (by omega)).append ?_
  refine .cons ?_
  rw [h m (by omega)]
  exact .nil _
theorem kZ {f:au→au} {r:List Int} {s m:Nat} {y:au} (m0:0 < m) (h:∀ t,t + 1 < m→f (dj r (s + t)) = dj r (s + t + 1)) (e:f (dj r (s + (m - 1))) = y):Wk f (dj r s) (seg r s m) y:=by
 obtain ⟨k,rfl⟩:∃ k,m = k + 1:=⟨m - 1,by omega⟩
 rw [mM]
 refine (mL (m:=k) fun t ht=>h t (by omega)).append (.cons ?_)
 rw [Nat.add_sub_cancel] at e
 rw [e]
 exact .nil _
theorem tV {r:List Int} (n:r.Nodup) {i j:Nat} (h:i < j) (h2:j < i + r.length):cy r i≠cy r j:=by
 intro z
 have r0:0 < r.length:=by omega
 have m1:=Nat.mod_lt i r0
 have m2:=Nat.mod_lt j r0
 have e1:cy r i = r[i % r.length]:=by rw [← nI m1]; exact ff (by rw [Nat.mod_mod])
 have e2:cy r j = r[j % r.length]:=by rw [← nI m2]; exact ff (by rw [Nat.mod_mod])
 rw [e1,e2] at z
 have e3:=(List.getElem_inj n).mp z
 have:=Nat.div_add_mod i r.length
 have:=Nat.div_add_mod j r.length
 have a:r.length * (i / r.length) < r.length * (j / r.length):=by omega
 have b:i / r.length + 1≤j / r.length:=Nat.lt_of_mul_lt_mul_left a
 have c:=Nat.mul_le_mul_left r.length b
 rw [Nat.mul_add,Nat.mul_one] at c
 omega
theorem xc {r:List Int} (n:r.Nodup) (s:Nat):∀ {m:Nat},m≤r.length→((List.range m).map fun t=>cy r (s + t)).Nodup:=fun {m} hm=>by
 refine List.Pairwise.map _ (R:=fun a b=>a < b∧b < m) (fun a b h=>?_) ?_
 ·exact tV n (by omega) (by omega)
 ·refine List.Pairwise.imp_of_mem (fun {a b} ha hb h=>⟨h,List.mem_range.mp hb⟩) List.pairwise_lt_range
theorem uE (r:List Int) (s m:Nat):(seg r s m).map (·.1) = (List.range m).map fun t=>cy r (s + t):=by
 unfold seg
 rw [List.map_map]
 rfl
theorem lh {r:List Int} (n:r.Nodup) {s m:Nat} (h:m + 1≤r.length):(cy r (s + m) :: (seg r s m).map (·.1)).Nodup:=by
 have:=xc n s h
 rw [List.range_succ,List.map_append,List.map_singleton] at this
 rw [uE]
 exact (List.perm_append_singleton _ _).nodup_iff.mp this
theorem seg_at {r:List Int} {s t:Nat} (h0:0 < r.length):∃ u,u < r.length∧dj r t = dj r (s + u):=by
 refine ⟨(t + s * r.length - s) % r.length,Nat.mod_lt _ h0,dz ?_⟩
 have e:s≤s * r.length:=Nat.le_mul_of_pos_right s h0
 rw [Nat.add_mod_mod,show s + (t + s * r.length - s) = t + s * r.length by omega,Nat.add_mul_mod_self_right]
end Gm
end
section
namespace Gm
open PySem L2
section
variable {L:List (List Int)} {a b:Int} {A B:List Int}
theorem aY.xX (F:aY L a b A B) {z1 z2:Int} (h1:z1∈rowOf L a) (h2:z2∈rowOf L b) (f1:pre A z1 = b) (f2:pre B z2 = a) :
  nx (both L a b A B) (z1,a) = (a,b)∧nx (both L a b A B) (z2,b) = (b,a)∧nx (both L a b A B) (a,b) = nx L (z2,b)∧nx (both L a b A B) (b,a) = nx L (z1,a)∧
  ∀ d,Dt L d→d≠(z1,a)→d≠(z2,b)→nx (both L a b A B) d = nx L d:=by
 obtain ⟨c0,c1,c2,c3⟩:=Dt.back (d:=(a,z1)) ⟨F.a0,F.a1,h1⟩ F.map
 obtain ⟨e0,e1,e2,e3⟩:=Dt.back (d:=(b,z2)) ⟨F.b0,F.b1,h2⟩ F.map
 have d1:Dt L (z1,a):=⟨c0,c1,c3⟩
 have d2:Dt L (z2,b):=⟨e0,e1,e3⟩
 have n1:nx (both L a b A B) (z1,a) = (a,b):=by
  unfold nx; dsimp only; rw [F.row F.a0,if_neg F.ne,if_pos rfl,f1]
 have n2:nx (both L a b A B) (z2,b) = (b,a):=by
  unfold nx; dsimp only; rw [F.row F.b0,if_pos rfl,f2]
 have rn:∀ d,Dt L d→nx L d = if nx (both L a b A B) d = (b,a) then nx (both L a b A B) (a,b) else if nx (both L a b A B) d = (a,b) then nx (both L a b A B) (b,a) else nx (both L a b A B) d:=fun d hd=>by
  have:=fO F.eX F.dt (d:=d) (by rw [F.rem]; exact hd)
  rwa [F.rem] at this
 refine ⟨n1,n2,?_,?_,fun d hd q1 q2=>?_⟩
 ·have:=rn _ d2
  rw [if_pos n2] at this
  exact this.symm
 ·have:=rn _ d1
  rw [n1,if_neg (fun z=>F.ne (congrArg Prod.fst z)),if_pos rfl] at this
  exact this.symm
 ·have:=rn d hd
  rw [if_neg (fun z=>q2 (cA F.eX (F.sub _ hd) (F.sub _ d2) (z.trans n2.symm))),if_neg (fun z=>q1 (cA F.eX (F.sub _ hd) (F.sub _ d1) (z.trans n1.symm)))] at this
  exact this.symm
theorem aY.dE (F:aY L a b A B) {d:au} (h:Dt (both L a b A B) d):Dt L d∨d = (a,b)∨d = (b,a):=by
 rcases (F.mem h.lo).mp h.mem with z | ⟨z,y⟩ | ⟨z,y⟩
 ·exact .inl ⟨h.lo,by have:=h.hi; rwa [b8] at this,z⟩
 ·exact .inr (.inl (Prod.ext z y))
 ·exact .inr (.inr (Prod.ext z y))
end
theorem hX.keep {f g:au→au} {c:List au} (h:hX f c) (e:∀ d∈c,g d = f d):hX g c:=by
 obtain ⟨x,l,rfl,k⟩:=h
 exact ⟨x,l,rfl,k.congr e⟩
section
variable {L N:List (List Int)} {r:List Int}
theorem uy (m:aA L) (s:qh L) (g:Good L r) (nr:r.Nodup) (ns:(sh 0 r).Nodup) {i k:Nat} (k0:0 < k) (k1:k < r.length)
  (hd:∀ d,Dt N d→Dt L d∨d = (cy r i,cy r (i + k))∨d = (cy r (i + k),cy r i))
  (n1:nx N (dj r (i + (r.length - 1))) = (cy r i,cy r (i + k))) (n2:nx N (dj r (i + k + (r.length - 1))) = (cy r (i + k),cy r i))
  (n3:nx N (cy r i,cy r (i + k)) = dj r (i + k)) (n4:nx N (cy r (i + k),cy r i) = dj r i)
  (n5:∀ d,Dt L d→d≠dj r (i + (r.length - 1))→d≠dj r (i + k + (r.length - 1))→nx N d = nx L d):qh N:=by
 have e0:cy r (i + k + (r.length - k)) = cy r i:=ff (by rw [show i + k + (r.length - k) = i + r.length by omega,Nat.add_mod_right])
 have e1:dj r (i + k + (r.length - 1)) = dj r (i + (k - 1)):=dz (by rw [show i + k + (r.length - 1) = i + (k - 1) + r.length by omega,Nat.add_mod_right])
 have R1:hX (nx N) ((cy r i,cy r (i + k)) :: seg r (i + k) (r.length - k)):=by
  refine ⟨_,_,rfl,.cons ?_⟩
  rw [n3]
  refine kZ (by omega) (fun t ht=>?_) ?_
  ·rw [n5 _ (g.dt _) (gH ns (by omega) (by omega)) (gH ns (by omega) (by omega)),g.st]
  ·rw [show i + k + (r.length - k - 1) = i + (r.length - 1) by omega,n1]
 have R2:hX (nx N) ((cy r (i + k),cy r i) :: seg r i k):=by
  refine ⟨_,_,rfl,.cons ?_⟩
  rw [n4]
  refine kZ k0 (fun t ht=>?_) ?_
  ·rw [n5 _ (g.dt _) (gH ns (by omega) (by omega)) (by rw [e1]; exact gH ns (by omega) (by omega)),g.st]
  ·rw [← e1,n2]
 have S1:(((cy r i,cy r (i + k)) :: seg r (i + k) (r.length - k)).map (·.1)).Nodup:=by
  rw [List.map_cons]
  have:=lh nr (s:=i + k) (m:=r.length - k) (by omega)
  rw [e0] at this
  exact this
 have S2:(((cy r (i + k),cy r i) :: seg r i k).map (·.1)).Nodup:=by
  rw [List.map_cons]
  exact lh nr (by omega)
 have old:∀ d,Dt L d→∃ c,d∈c∧hX (nx N) c∧(c.map (·.1)).Nodup:=fun d h=>by
  by_cases q:∃ t,d = dj r t
  ·obtain ⟨t,rfl⟩:=q
   obtain ⟨u,hu,e⟩:=seg_at (r:=r) (s:=i) (t:=t) (by omega)
   rw [e]
   by_cases z:u < k
   ·exact ⟨_,List.mem_cons_of_mem _ (fE.mpr ⟨u,z,rfl⟩),R2,S2⟩
   ·exact ⟨_,List.mem_cons_of_mem _ (fE.mpr ⟨u - k,by omega,by rw [show i + k + (u - k) = i + u by omega]⟩),R1,S1⟩
  ·obtain ⟨c,hc,cc,nc⟩:=s d h
   have Bl:∀ e∈c,Dt L e:=cc.all (P:=fun e=>Dt L e) hc h fun e _ he=>he.nx m
   have no:∀ e∈c,∀ t,e≠dj r t:=fun e he t z=>q (by
    have:=cc.all (P:=fun e=>∃ t,e = dj r t) he ⟨t,z⟩ (fun x _ ⟨t,hx⟩=>⟨t + 1,by rw [hx,g.st]⟩) d hc
    exact this)
   exact ⟨c,hc,cc.keep fun e he=>n5 e (Bl e he) (no e he _) (no e he _),nc⟩
 intro d h
 rcases hd d h with z | z | z
 ·exact old d z
 ·exact ⟨_,by rw [z]; exact List.mem_cons_self,R1,S1⟩
 ·exact ⟨_,by rw [z]; exact List.mem_cons_self,R2,S2⟩
def CZ (r:List Int) (n c1 cj:Nat) (d:au):Prop:=(∃ i,cj≤i∧i < c1 + r.length∧d = dj r i)∨d = (cy r c1,(n:Int))∨d = ((n:Int),cy r cj)
def rB (L:List (List Int)) (r:List Int) (c1 cj:Nat) (M:List (List Int)):Prop:=∀ d,Dt M d→CZ r L.length c1 cj d∨∃ c,d∈c∧hX (nx M) c∧(c.map (·.1)).Nodup
theorem rB.first (st:bV L) (s:qh L) (g:Good L r) (nd:(sh 0 r).Nodup) {c:Nat} (hc:c < r.length)
  (F:aY (cI L) (cy r c) (L.length:Int) (put (rowOf L (cy r c)) ((rowOf L (cy r c)).idxOf (cy r (c + (r.length - 1)))) L.length) [cy r c])
  (p:Pl L r c c [c] (both (cI L) (cy r c) (L.length:Int) (put (rowOf L (cy r c)) ((rowOf L (cy r c)).idxOf (cy r (c + (r.length - 1)))) L.length) [cy r c])) :
  rB L r c c (both (cI L) (cy r c) (L.length:Int) (put (rowOf L (cy r c)) ((rowOf L (cy r c)).idxOf (cy r (c + (r.length - 1)))) L.length) [cy r c]):=by
 generalize hM:both (cI L) (cy r c) (L.length:Int) (put (rowOf L (cy r c)) ((rowOf L (cy r c)).idxOf (cy r (c + (r.length - 1)))) L.length) [cy r c] = M at p ⊢
 have FM:aA M:=hM▸F.eX
 have Fd:Dt M (cy r c,(L.length:Int)):=hM▸F.dt
 have Fr:rem M (cy r c) (L.length:Int) = cI L:=hM▸F.rem
 have x1:cy r c < L.length:=(cK g st.map (c:=c)).2.2.1
 have xn:cy r c≠(L.length:Int):=by omega
 have old:∀ d,Dt L d→(∀ t,d≠dj r t)→nx M d = nx L d:=fun d h q=>by
  have h0:=fO FM Fd (d:=d) (by rw [Fr]; exact dh.mpr h)
  rw [Fr,iD st.map h] at h0
  have dm:=p.sub d h
  have d1:=p.sub _ (g.dt (c + (r.length - 1)))
  have n1:nx M d≠(cy r c,(L.length:Int)):=fun z=>q _ (cA FM dm d1 (z.trans p.i2.symm))
  have n2:nx M d≠((L.length:Int),cy r c):=fun z=>by
   have e:=cA FM dm Fd (z.trans p.i3.symm)
   have:=(h.back st.map).2.1
   rw [e] at this
   simp at this
  rw [if_neg n2,if_neg n1] at h0
  exact h0.symm
 intro d h
 have:Dt L d∨d = (cy r c,(L.length:Int))∨d = ((L.length:Int),cy r c):=by
  rcases F.dE (hM▸h) with z | z | z
  ·exact .inl (dh.mp z)
  ·exact .inr (.inl z)
  ·exact .inr (.inr z)
 rcases this with z | z | z
 ·by_cases q:∃ t,d = dj r t
  ·obtain ⟨t,rfl⟩:=q
   obtain ⟨u,hu,e⟩:=seg_at (r:=r) (s:=c) (t:=t) (by omega)
   exact .inl (.inl ⟨c + u,by omega,by omega,e⟩)
  ·right
   obtain ⟨k,hk,cc,nc⟩:=s d z
   have Bl:∀ e∈k,Dt L e:=cc.all (P:=fun e=>Dt L e) hk z fun e _ he=>he.nx st.map
   have no:∀ e∈k,∀ t,e≠dj r t:=fun e he t w=>q (cc.all (P:=fun e=>∃ t,e = dj r t) he ⟨t,w⟩ (fun x _ ⟨t,hx⟩=>⟨t + 1,by rw [hx,g.st]⟩) d hk)
   exact ⟨k,hk,cc.keep fun e he=>old e (Bl e he) (no e he),nc⟩
 ·exact .inl (.inr (.inl z))
 ·exact .inl (.inr (.inr z))
theorem nH (g:Good L r) (i:Nat):cy r i < L.length:=(g.dt i).hi
theorem rB.next {M:List (List Int)} {c1 cj c:Nat} {dn:List Nat} (st:bV L) (g:Good L r) (nr:r.Nodup) (nd:(Gm.sh 0 r).Nodup) (p:Pl L r c1 cj dn M) (s:rB L r c1 cj M) (hc:cj < c) (A2:c < r.length)
  (F:aY M (cy r c) (L.length:Int) (put (rowOf L (cy r c)) ((rowOf L (cy r c)).idxOf (cy r (c + (r.length - 1)))) L.length) (rowOf M (L.length:Int) ++ [cy r c])) (un:∀ e∈dn,cy r e≠cy r c) :
  rB L r c1 c (both M (cy r c) (L.length:Int) (put (rowOf L (cy r c)) ((rowOf L (cy r c)).idxOf (cy r (c + (r.length - 1)))) L.length) (rowOf M (L.length:Int) ++ [cy r c])):=by
 have le:=p.le
 obtain ⟨z1,x0,x1,ed⟩:=cK g st.map (c:=c)
 have rx:=p.keep (cy r c) x0 x1 un
 have nn:=lT st.map x0 x1
 obtain ⟨rest,MC⟩:=p.hd
 have nZ:rowOf M (L.length:Int) = cy r c1 :: rest.map (cy r):=by rw [p.new,MC]; rfl
 have CK:pre (put (rowOf L (cy r c)) ((rowOf L (cy r c)).idxOf (cy r (c + (r.length - 1)))) L.length) (cy r (c + (r.length - 1))) = (L.length:Int):=eo z1 nn
 have Cz:pre (rowOf M (L.length:Int) ++ [cy r c]) (cy r c1) = cy r c:=by rw [nZ]; exact mT
 obtain ⟨m1,m2,m3,m4,m5⟩:=F.xX (z1:=cy r (c + (r.length - 1))) (z2:=cy r c1) (by rw [rx]; exact z1) (by rw [nZ]; exact List.mem_cons_self) CK Cz
 have dE:=fun d=>F.dE (d:=d)
 have e1:dj r (c + (r.length - 1)) = dj r (c - 1):=dz (by rw [show c + (r.length - 1) = c - 1 + r.length by omega,Nat.add_mod_right])
 rw [← ed,e1] at m1 m4 m5
 rw [p.i3] at m3
 rw [p.i1 (c - 1) (by omega) (by omega),show c - 1 + 1 = c by omega] at m4
 generalize both M (cy r c) (L.length:Int) (put (rowOf L (cy r c)) ((rowOf L (cy r c)).idxOf (cy r (c + (r.length - 1)))) L.length) (rowOf M (L.length:Int) ++ [cy r c]) = N at m1 m2 m3 m4 m5 dE ⊢
 have sub:=p.sub
 have n4:nx N ((L.length:Int),cy r cj) = dj r cj:=by
  rw [m5 _ ?_ (fun z=>?_) (fun z=>?_),p.i4]
  ·have:=(p.sh.map |> fun m=>(Dt.nx (L:=M) (d:=(cy r c1,(L.length:Int))) ?_ m))
   ·rw [p.i3] at this; exact this
   ·have:=Dt.back (d:=((L.length:Int),cy r c1)) ⟨by simp,by rw [p.len]; simp; omega,by rw [nZ]; exact List.mem_cons_self⟩ p.sh.map
    exact ⟨this.1,this.2.1,this.2.2.2⟩
  ·have:=congrArg Prod.fst z
   have q:(L.length:Int) = cy r (c - 1):=this
   have:=nH g (c - 1)
   omega
  ·have:=congrArg Prod.fst z
   have q:(L.length:Int) = cy r c1:=this
   have:=nH g c1
   omega
 have R:hX (nx N) ((cy r c,(L.length:Int)) :: ((L.length:Int),cy r cj) :: seg r cj (c - cj)):=by
  refine ⟨_,_,rfl,.cons ?_⟩
  rw [m3]
  refine .cons ?_
  rw [n4]
  refine kZ (by omega) (fun t ht=>?_) ?_
  ·rw [m5 _ (sub _ (g.dt _)) (gH nd (by omega) (by omega)) (fun z=>?_),p.i1 _ (by omega) (by omega)]
   have q:=(g.dt (cj + t)).back st.map
   rw [z] at q
   simp at q
  ·rw [show cj + (c - cj - 1) = c - 1 by omega,m1]
 have S:(((cy r c,(L.length:Int)) :: ((L.length:Int),cy r cj) :: seg r cj (c - cj)).map (·.1)).Nodup:=by
  have a:=lh nr (s:=cj) (m:=c - cj) (by omega)
  rw [show cj + (c - cj) = c by omega,List.nodup_cons] at a
  have ln:∀ x∈(seg r cj (c - cj)).map (·.1),x≠(L.length:Int):=fun x hx=>by
   obtain ⟨d,hd,rfl⟩:=List.mem_map.mp hx
   obtain ⟨t,_,rfl⟩:=fE.mp hd
   have:cy r (cj + t) < L.length:=nH g _
   show cy r (cj + t)≠_
   omega
  rw [List.map_cons,List.map_cons,List.nodup_cons,List.nodup_cons]
  refine ⟨fun z=>?_,fun z=>ln _ z rfl,a.2⟩
  rcases List.mem_cons.mp z with z | z
  ·have z':cy r c = (L.length:Int):=z
   omega
  ·exact a.1 z
 intro d h
 by_cases q:CZ r L.length c1 cj d
 ·rcases q with ⟨i,i0,i1,rfl⟩ | rfl | rfl
  ·by_cases z:i < c
   ·exact .inr ⟨_,List.mem_cons_of_mem _ (List.mem_cons_of_mem _ (fE.mpr ⟨i - cj,by omega,by rw [show cj + (i - cj) = i by omega]⟩)),R,S⟩
   ·exact .inl (.inl ⟨i,by omega,i1,rfl⟩)
  ·exact .inl (.inr (.inl rfl))
  ·exact .inr ⟨_,List.mem_cons_of_mem _ List.mem_cons_self,R,S⟩
 ·rcases dE d h with z | z | z
  ·rcases s d z with w | ⟨k,hk,cc,nc⟩
   ·exact absurd w q
   ·right
    have Bl:∀ e∈k,Dt M e:=cc.all (P:=fun e=>Dt M e) hk z fun e _ he=>he.nx p.sh.map
    have no:∀ e∈k,¬ CZ r L.length c1 cj e:=fun e he w=>q (cc.all (P:=fun e=>CZ r L.length c1 cj e) he w (fun x _ hx=>by
     rcases hx with ⟨i,i0,i1,rfl⟩ | rfl | rfl
     ·by_cases y:i + 1 < c1 + r.length
      ·rw [p.i1 i i0 y]; exact .inl ⟨i + 1,by omega,y,rfl⟩
      ·rw [show i = c1 + (r.length - 1) by omega,p.i2]; exact .inr (.inl rfl)
     ·rw [p.i3]; exact .inr (.inr rfl)
     ·rw [p.i4]; exact .inl ⟨cj,Nat.le_refl _,by omega,rfl⟩) d hk)
    exact ⟨k,hk,cc.keep fun e he=>m5 e (Bl e he) (fun z=>no e he (.inl ⟨c - 1,by omega,by omega,z⟩)) (fun z=>no e he (.inr (.inl z))),nc⟩
  ·exact .inr ⟨_,by rw [z]; exact List.mem_cons_self,R,S⟩
  ·exact .inl (.inr (.inr z))
theorem rB.done {M:List (List Int)} {c1 cj:Nat} {dn:List Nat} (g:Good L r) (nr:r.Nodup) (p:Pl L r c1 cj dn M) (s:rB L r c1 cj M) (h:c1 < cj):qh M:=by
 have top:=p.top
 have R:hX (nx M) ((cy r c1,(L.length:Int)) :: ((L.length:Int),cy r cj) :: seg r cj (c1 + r.length - cj)):=by
  refine ⟨_,_,rfl,.cons ?_⟩
  rw [p.i3]
  refine .cons ?_
  rw [p.i4]
  refine kZ (by omega) (fun t ht=>p.i1 _ (by omega) (by omega)) ?_
  rw [show cj + (c1 + r.length - cj - 1) = c1 + (r.length - 1) by omega,p.i2]
 have S:(((cy r c1,(L.length:Int)) :: ((L.length:Int),cy r cj) :: seg r cj (c1 + r.length - cj)).map (·.1)).Nodup:=by
  have a:=lh nr (s:=cj) (m:=c1 + r.length - cj) (by omega)
  have e:cy r (cj + (c1 + r.length - cj)) = cy r c1:=ff (by rw [show cj + (c1 + r.length - cj) = c1 + r.length by omega,Nat.add_mod_right])
  rw [e,List.nodup_cons] at a
  have ln:∀ x∈(seg r cj (c1 + r.length - cj)).map (·.1),x≠(L.length:Int):=fun x hx=>by
   obtain ⟨d,hd,rfl⟩:=List.mem_map.mp hx
   obtain ⟨t,_,rfl⟩:=fE.mp hd
   have:cy r (cj + t) < L.length:=nH g _
   show cy r (cj + t)≠_
   omega
  rw [List.map_cons,List.map_cons,List.nodup_cons,List.nodup_cons]
  refine ⟨fun z=>?_,fun z=>ln _ z rfl,a.2⟩
  rcases List.mem_cons.mp z with z | z
  ·have z':cy r c1 = (L.length:Int):=z
   have:=nH g c1
   omega
  ·exact a.1 z
 intro d hd
 rcases s d hd with (⟨i,i0,i1,rfl⟩ | rfl | rfl) | w
 ·exact ⟨_,List.mem_cons_of_mem _ (List.mem_cons_of_mem _ (fE.mpr ⟨i - cj,by omega,by rw [show cj + (i - cj) = i by omega]⟩)),R,S⟩
 ·exact ⟨_,List.mem_cons_self,R,S⟩
 ·exact ⟨_,List.mem_cons_of_mem _ List.mem_cons_self,R,S⟩
 ·exact w
end
end Gm
end
section
namespace Gm
open PySem L2
def tetra:List (List Int):=[[1,3,2],[2,3,0],[0,3,1],[2,0,1]]
theorem tetra_dts:dE tetra 4 = [(0,1),(0,3),(0,2),(1,2),(1,3),(1,0),(2,0),(2,3),(2,1),(3,2),(3,0),(3,1)]:=rfl
theorem tetra_map:aA tetra:=by
 refine gE fun x x0 x1=>?_
 have x1:x < 4:=x1
 have:x = 0∨x = 1∨x = 2∨x = 3:=by omega
 rcases this with rfl | rfl | rfl | rfl
 ·refine ⟨by decide,fun y hy=>?_⟩
  have hy:y∈([1,3,2]:List Int):=hy
  simp at hy
  rcases hy with rfl | rfl | rfl <;> decide
 ·refine ⟨by decide,fun y hy=>?_⟩
  have hy:y∈([2,3,0]:List Int):=hy
  simp at hy
  rcases hy with rfl | rfl | rfl <;> decide
 ·refine ⟨by decide,fun y hy=>?_⟩
  have hy:y∈([0,3,1]:List Int):=hy
  simp at hy
  rcases hy with rfl | rfl | rfl <;> decide
 ·refine ⟨by decide,fun y hy=>?_⟩
  have hy:y∈([2,0,1]:List Int):=hy
  simp at hy
  rcases hy with rfl | rfl | rfl <;> decide
def tetraR:List (List au):=[[(0,1),(1,3),(3,0)],[(0,3),(3,2),(2,0)],[(0,2),(2,1),(1,0)],[(1,2),(2,3),(3,1)]]
theorem tetra_cyc:∀ c∈tetraR,hX (nx tetra) c∧(c.map (·.1)).Nodup:=fun c hc=>by
 unfold tetraR at hc
 simp only [List.mem_cons,List.not_mem_nil,or_false] at hc
 rcases hc with rfl | rfl | rfl | rfl
 ·exact ⟨⟨(0,1),_,rfl,.cons (.cons (.cons (.nil _)))⟩,by decide⟩
 ·exact ⟨⟨(0,3),_,rfl,.cons (.cons (.cons (.nil _)))⟩,by decide⟩
 ·exact ⟨⟨(0,2),_,rfl,.cons (.cons (.cons (.nil _)))⟩,by decide⟩
 ·exact ⟨⟨(1,2),_,rfl,.cons (.cons (.cons (.nil _)))⟩,by decide⟩
theorem tetra_mem (d:au):d∈tetraR.flatten↔Dt tetra d:=by
 have e:d∈dE tetra 4↔Dt tetra d:=⟨fun h=>Dt.of h,fun h=>h.all⟩
 rw [← e,tetra_dts]
 have:tetraR.flatten.Perm [(0,1),(0,3),(0,2),(1,2),(1,3),(1,0),(2,0),(2,3),(2,1),(3,2),(3,0),(3,1)]:=by decide
 exact this.mem_iff
theorem tetra_sheet:bV tetra:=by
 refine ⟨tetra_map,by decide,fun x x0 x1=>?_,tetraR,⟨fun c hc=>(tetra_cyc c hc).1,by decide,tetra_mem⟩,by decide⟩
 have x1:x < 4:=x1
 have ms:∀ y:Int,(0,y)∈dE tetra 4→Reach tetra 0 y:=fun y hy=>Reach.one (d:=(0,y)) .here (Dt.of hy)
 have:x = 0∨x = 1∨x = 2∨x = 3:=by omega
 rcases this with rfl | rfl | rfl | rfl
 ·exact ⟨0,by simp,.here⟩
 ·exact ⟨0,by simp,ms 1 (by rw [tetra_dts]; decide)⟩
 ·exact ⟨0,by simp,ms 2 (by rw [tetra_dts]; decide)⟩
 ·exact ⟨0,by simp,ms 3 (by rw [tetra_dts]; decide)⟩
theorem tetra_smp:qh tetra:=fun d hd=>by
 obtain ⟨c,hc,h⟩:=List.mem_flatten.mp ((tetra_mem d).mpr hd)
 exact ⟨c,h,tetra_cyc c hc⟩
end Gm
end
section
namespace Gm
open PySem L2
abbrev JF:Str:=((" " : String):Str)
abbrev JE:Str:=((":" : String):Str)
abbrev JG:Str:=(("\n" : String):Str)
abbrev t0:Str:=(("" : String):Str)
def DE (k:Int) (l:List Int):Str:=Str.join JF ((num k ++ JE) :: l.map num)
def zW (L:List (List Int)):List Str:=L.mapIdx fun i l=>DE ((i:Nat):Int) l
def Lv (L:List (List Int)):Str:=Str.join JG (zW L)
def Of (l:List Int):Prop:=l.length≤14∧∀ x∈l,0≤x∧x < 14
structure Sm (L:List (List Int)):Prop where
 len:L.length≤14
 oA:∀ l∈L,Of l
def mn (l:List Int):Int:=l.min?.getD 0
def lb (l:List Int):List Int:=B1 l (l.idxOf (mn l))
end Gm
end
section
namespace L2
open PySem PySem.Spec PySem.W PySem.Calls PyProof.Rows Gm
section
variable {X:Cx}
theorem bu {x:Str} {z:Int} {pos:Pos} (hg:Gl X x) (hm:∃ t,X.mg x = some (.int z t)) (hd:(x == ("__debug__" : Str)) = false:=by decide):PE X (.Name x pos) (tC (.int z)):=
 let ⟨_,h⟩:=hm; uV hg h ⟨_,rfl⟩ hd
end
end L2
end
section
namespace L2
open PySem PySem.Spec PySem.W PySem.Calls PyProof.Rows Gm
def Ph (A:List (List Int)) (l:List Int):PyData:=.list [tU A,wU l]
end L2
end
section
namespace L2
open PySem PySem.Spec PySem.W PySem.Calls PyProof.Rows Gm
section
variable {X:Cx}
noncomputable def Pb (H:Hp) (l:List Int):Value→Bool:=fun v=>match v with | .ref b=>@decide (H b = some (.lst (l.map V.int))) (Classical.propDecidable _) | _=>false
def Kn (neg:Bool):R2:=fun x y H Q=>∃ (a t:Addr) (bs:List Addr) (R:List (List Int)) (l:List Int),x = .ref a∧y = .ref t∧H a = some (.lst (l.map V.int))∧aU H t bs R∧Q (.bl (if neg then !decide (l∈R) else decide (l∈R))) H
def B6:V→List V→Hp→VK→Prop:=fun x vs H Q=>∃ (a t:Addr) (bs:List Addr) (R:List (List Int)) (l:List Int),x = .ref t∧vs = [.ref a]∧H a = some (.lst (l.map V.int))∧aU H t bs R∧l∈R∧Q (.int (R.idxOf l:Nat)) H
end
end L2
end
section
namespace L2
open PySem PySem.Spec PySem.W PySem.Calls PyProof.Rows HT
def Kl (K:Frag):R2:=fun x y H Q=>∃ (a b:Addr) (ns ms:List Int),x = .ref a∧y = .ref b∧aG K H a (ns.map V.int)∧aG K H b (ms.map V.int)∧Q (.bl (!lexLt ms ns)) H
end L2
end
section
namespace Gm
open PySem L2
structure Pn (L:List (List Int)):Prop where
 map:aA L
 CN:∃ R S,Dec L R∧wZ L S∧2 * (L.length + R.length + iso L) = (dE L L.length).length + 4 * S.length
end Gm
end
section
namespace Gm
open PySem L2
def lp (v:Int) (p:List Int) (j:Nat):Int:=if j = 0 then v else p.getD (j - 1) v
def On (v:Int) (p:List Int) (d:au):Prop:=∃ j,j≤p.length∧(d = (lp v p j,lp v p (j + 1))∨d = (lp v p (j + 1),lp v p j))
end Gm
end
section
namespace L2
open PySem PySem.Spec PySem.W PySem.Calls PyProof.Rows Gm
def N8 (d:Addr) (o:Obj) (aj:List (Key×V)):It:=
 ⟨fun i H=>H d = some (.eG o (.dK aj))∧i < aj.length,fun i H x H'=>H' = H∧∃ k v,aj[i]? = some (k,v)∧x = kV k,fun i H=>H d = some (.eG o (.dK aj))∧aj.length≤i⟩
section
variable {X:Cx} {tg:Expr}
def Ia (tl:TE):TI:=fun σ H R=>tl σ H fun x H1=>∃ a aj,x = .ref a∧H1 a = some (.dK aj)∧∀ o,R (N8 a o aj) (upd H1 a (.eG o (.dK aj)))
def DJ:List V→Hp→VK→Prop:=fun xs H Q=>∃ a aj,xs = [V.ref a]∧H a = some (.dK aj)∧∀ p,H p = none→Q (.ref p) (upd H p (.lst (aj.map fun kv=>kV kv.1)))
def N5 (K:Frag) (a:Addr) (xs:List V):It:=
 ⟨fun i H=>aG K H a xs∧i < xs.length,fun i H x H'=>H' = H∧xs.reverse[i]? = some x,fun i H=>xs.length≤i⟩
def LW (K:Frag) (tl:TE):TI:=fun σ H R=>tl σ H fun x H1=>∃ a xs,x = .ref a∧aG K H1 a xs∧R (N5 K a xs) H1
end
end L2
end
section
namespace Gm
open PySem L2
def kF (ks:List Int) (f:Int→Int):List (Key×V):=ks.map fun x=>((Sum.inl x:Key),V.int (f x))
def MV (f:Int→Int) (x h:Int):Int→Int:=fun y=>if y = x then h else f y
structure Pw (L:List (List Int)) (ks:List Int) (f:Int→Int):Prop where
 nd:ks.Nodup
 rg:∀ x∈ks,0≤x∧x < L.length
 hu:∀ x∈ks,0≤f x∧f x < 5
 ap:∀ x∈ks,∀ y∈rowOf L x,y∈ks→f y≠f x
def near (L:List (List Int)) (ks:List Int) (v:Int):List Int:=(rowOf L v).filter fun z=>decide (z∈ks)
def IC (ts:List Int):List Int:=(cg 5).filter fun h=>!decide (h∈ts)
section
variable {L:List (List Int)} {ks:List Int} {f:Int→Int} {v:Int}
structure NV (L:List (List Int)) (ks:List Int) (f:Int→Int) (a b:Int) (S:List Int):Prop where
 sh:∀ x,x∈S↔(0≤x∧x < L.length)∧¬ (x∈ks∧(f x = a∨f x = b))
def zR (L:List (List Int)) (ks:List Int) (f:Int→Int) (a b:Int):List Int:=(cg L.length).filter fun x=>!decide (x∈ks∧(f x = a∨f x = b))
def Px (L:List (List Int)) (ks:List Int) (f:Int→Int) (one other x:Int):Prop:=cP L (zR L ks f (f one) (f other)) one x
def Hg (f:Int→Int) (a b:Int) (G:List Int):Int→Int:=fun y=>if y∈G then a + b - f y else f y
end
structure Off (L:List (List Int)) (os:List Int):Prop where
 nd:os.Nodup
 rg:∀ x∈os,0≤x∧x < L.length
 oA:∀ (i:Nat) (x:Int),os[i]? = some x→((rowOf L x).filter fun z=>!decide (z∈os.take i)).length≤5
end Gm
end
section
namespace Gm
open PySem L2
def NH:List (List Int):=[[1,2,3,4,5],[0,5,10,6,2],[0,1,6,7,3],[0,2,7,8,4],[0,3,8,9,5],[0,4,9,10,1],[1,10,11,7,2],[2,6,11,8,3],[3,7,11,9,4],[4,8,11,10,5],[5,9,11,6,1],[10,9,8,7,6]]
def I9:List (List au):=[[(0,1),(1,2),(2,0)],[(0,2),(2,3),(3,0)],[(0,3),(3,4),(4,0)],[(0,4),(4,5),(5,0)],[(0,5),(5,1),(1,0)],[(1,5),(5,10),(10,1)],[(1,10),(10,6),(6,1)],[(1,6),(6,2),(2,1)],[(2,6),(6,7),(7,2)],[(2,7),(7,3),(3,2)],[(3,7),(7,8),(8,3)],[(3,8),(8,4),(4,3)],[(4,8),(8,9),(9,4)],[(4,9),(9,5),(5,4)],[(5,9),(9,10),(10,5)],[(6,10),(10,11),(11,6)],[(6,11),(11,7),(7,6)],[(7,11),(11,8),(8,7)],[(8,11),(11,9),(9,8)],[(9,11),(11,10),(10,9)]]
section
variable {A R:List (List Int)} {l:List Int}
def OM (l:List Int) (d:au):au:=(Cg l d.1,Cg l d.2)
end
end Gm
end
section
namespace L2
open PySem PySem.Spec PySem.W PySem.Calls PyProof.Rows Gm Fr
end L2
namespace Gm
open PySem L2
theorem kz {p:Int→Bool} {r:List Int} {j:Nat} {y:Int} (hy:r[j]? = some y):(r.take (j + 1)).filter p = (r.take j).filter p ++ if p y = true then [y] else []:=by
 rw [List.take_add_one,hy,List.filter_append]
 congr 1
 cases h:p y <;> simp [h]
theorem oU {L:List (List Int)} (m:aA L) {i:Nat} {r:List Int} (h:L[i]? = some r):r.length≤L.length:=cx (m.nd _ _ h) fun y hy=>⟨(m.rg _ _ h y hy).1,(m.rg _ _ h y hy).2.1⟩
end Gm
end
section
namespace L2
open PySem PySem.Spec PySem.W PySem.Calls PyProof.Rows Gm
section
variable {prog:Program} {w:World} {ar:Around} {E:Value→Shared→Prop} {t0:Shared} {dk ik:Addr} {o:Obj} {ents:Array DictEntry} {ep:Nat}
theorem ud {Q:Value→Shared→Prop} (nd:(dk == sysModules) = false) (ho:t0.heap.get? dk = some o) (hx:o.ExactDict) (hd:o.data = .dict ents ep)
  (q:Q (.ref t0.heap.objs.size) { t0 with heap:=t0.heap.push { cls:=.type "dict_keyiterator",data:=.fields #[.ref dk,.int 0 0,.int ents.size 0,.int ep 0] } }) :
  wpAny (model prog w) ar (pyIter (.ref dk)) Q E t0:=by
 have ty:t0.TypeIs (.ref dk) "dict":=⟨o,ho,hx.1⟩
 refine wpAny_pyIter_slot ty F.slot_dict_iter (wpAny_call_entry F.slot_dict_iter ty F.entry_dict_iter ?_ (F.args_dict_iter_1 _))
 unfold Builtin.«dict.__iter__» Builtin.Dict.dictSlotNone
 refine wpAny_bind (wpAny_bind (wpAny_notOrdered_dict ty (show wpAny _ _ (pure (Value.ref dk)) _ _ t0 from wpAny_pure ?_)))
 show wpAny _ _ (Builtin.Dict.showsAll dk >>= _) _ _ t0
 unfold Builtin.Dict.showsAll
 rw [if_neg (by rw [nd]; exact Bool.false_ne_true)]
 refine wpAny_bind (wpAny_pure (wpAny_bind (wpAny_dictEntries ho hd (wpAny_bind (wpAny_dictEpoch ho hd (wpAny_bind (wpAny_newObj_type (wpAny_pure ⟨_,rfl, "dict_keyiterator",_,⟨_,Heap.get?_push_size _ rfl,rfl⟩,F.slot_dict_keyiterator_next.lookup,?_⟩))))))))
 simpa [rawInt] using q
theorem uc (i:Nat) (hit:t0.heap.IsKeyIter ik dk i ents.size ep) (ho:t0.heap.get? dk = some o) (hd:o.data = .dict ents ep) (hi:i < ents.size) {Q:Option Value→Shared→Prop}
  (q:∀ h',h'.IsKeyIter ik dk (i + 1) ents.size ep→Heap.SameBut ik t0.heap h'→Q (some ents[i].key) { t0 with heap:=h' }):wpAny (model prog w) ar (pyNext (.ref ik)) Q E t0:=by
 obtain ⟨oi,gi,ci,di⟩:=id hit
 unfold pyNext
 refine wpAny_bind (wpAny_attempt (wpAny_callSpecial?_slot (name:=Str.ofString "__next__") hit.typeIs F.slot_dict_keyiterator_next (wpAny_call_entry F.slot_dict_keyiterator_next hit.typeIs F.entry_dict_keyiterator_next ?_ (F.args_dict_keyiterator_next_1 _))))
 refine wpAny_bind (wpAny_pure (wpAny_bind (wpAny_bind ?_)))
 first | refine wpAny_bind (wpAny_typeNameOfWhole_keyiter hit.typeIs (wpAny_pure (wpAny_bind (wpAny_fieldsOf gi di ?_)))) | refine wpAny_bind (wpAny_typeNameOf_keyiter hit.typeIs (wpAny_pure (wpAny_bind (wpAny_fieldsOf gi di ?_))))
 simp only [show Builtin.Dict_items.ownsTuple "dict_keyiterator" = false by decide,Bool.false_eq_true,if_false]
 show wpAny _ _ (if (Value.ref dk == Value.none) = true then _ else _) _ _ t0
 rw [if_neg (show ¬ ((Value.ref dk == Value.none) = true) from Bool.false_ne_true)]
 refine wpAny_bind (wpAny_pure (wpAny_bind (wpAny_dictEntries ho hd ?_)))
 rw [if_neg (by simp)]
 refine wpAny_bind (wpAny_pure (wpAny_bind (wpAny_dictEpoch ho hd ?_)))
 rw [if_neg (by simp)]
 refine wpAny_pure ?_
 simp only [show ¬ ((i:Int) < 0) from by omega,if_false,Int.toNat_natCast,Array.getElem?_eq_getElem hi]
 refine wpAny_bind ?_
 first | refine wpAny_bind (wpAny_typeNameOfWhole_keyiter hit.typeIs (wpAny_pure (wpAny_bind (wpAny_isOneOf_keyiter hit.typeIs ?_)))) | refine wpAny_bind (wpAny_typeNameOf_keyiter hit.typeIs (wpAny_pure (wpAny_bind (wpAny_isOneOf_keyiter hit.typeIs ?_))))
 show wpAny _ _ (setField (.ref ik) 1 (rawInt ((i:Int) + 1)) >>= _) _ _ t0
 refine wpAny_bind (wpAny_setField gi di (by simp) ?_)
 have nx:(t0.heap.update ik (Obj.mapFields (·.setIfInBounds 1 (rawInt ((i:Int) + 1))))).IsKeyIter ik dk (i + 1) ents.size ep:=
  ⟨_,Heap.get?_update_self _ gi (Obj.isFreed_of_fields (Obj.data_mapFields di _)),(Obj.cls_mapFields ..).trans ci,by rw [Obj.data_mapFields di]; simp [rawInt]⟩
 refine wpAny_bind (wpAny_holding (wpAny_bind (wpAny_isOneOf_keyiter (s:={ t0 with heap:=t0.heap.update ik (Obj.mapFields (·.setIfInBounds 1 (rawInt ((i:Int) + 1)))) }) nx.typeIs ?_)))
 show wpAny _ _ (pure ents[i].key) _ _ _
 exact wpAny_pure (wpAny_pure ⟨_,rfl,wpAny_pure (q _ nx (Heap.SameBut.update ..))⟩)
theorem ua (i:Nat) (hh:ar.handled = none) (hit:t0.heap.IsKeyIter ik dk i ents.size ep) (ho:t0.heap.get? dk = some o) (hd:o.data = .dict ents ep) (hi:ents.size≤i) {Q:Option Value→Shared→Prop}
  (q:∀ h',Heap.ExtBut ik t0.heap h'→Q none { t0 with heap:=h' }):wpAny (model prog w) ar (pyNext (.ref ik)) Q E t0:=by
 obtain ⟨oi,gi,ci,di⟩:=id hit
 unfold pyNext
 refine wpAny_bind (wpAny_attempt (wpAny_callSpecial?_slot (name:=Str.ofString "__next__") (hit).typeIs F.slot_dict_keyiterator_next (wpAny_call_entry F.slot_dict_keyiterator_next (hit).typeIs F.entry_dict_keyiterator_next ?_ (F.args_dict_keyiterator_next_1 _))))
 refine wpAny_bind (wpAny_pure (wpAny_bind (wpAny_bind ?_)))
 first | refine wpAny_bind (wpAny_typeNameOfWhole_keyiter (hit).typeIs (wpAny_pure (wpAny_bind (wpAny_fieldsOf gi di ?_)))) | refine wpAny_bind (wpAny_typeNameOf_keyiter (hit).typeIs (wpAny_pure (wpAny_bind (wpAny_fieldsOf gi di ?_))))
 simp only [show Builtin.Dict_items.ownsTuple "dict_keyiterator" = false by decide,Bool.false_eq_true,if_false]
 show wpAny _ _ (if (Value.ref dk == Value.none) = true then _ else _) _ _ t0
 rw [if_neg (show ¬ ((Value.ref dk == Value.none) = true) from Bool.false_ne_true)]
 refine wpAny_bind (wpAny_pure (wpAny_bind (wpAny_dictEntries ho hd ?_)))
 rw [if_neg (by simp)]
 refine wpAny_bind (wpAny_pure (wpAny_bind (wpAny_dictEpoch ho hd ?_)))
 rw [if_neg (by simp)]
 refine wpAny_pure ?_
 simp only [show ¬ ((i:Int) < 0) from by omega,if_false,Int.toNat_natCast,Array.getElem?_eq_none hi]
 refine wpAny_bind ?_
 first | refine wpAny_bind (wpAny_typeNameOfWhole_keyiter (hit).typeIs (wpAny_pure ?_)) | refine wpAny_bind (wpAny_typeNameOf_keyiter (hit).typeIs (wpAny_pure ?_))
 show wpAny _ _ (setField (.ref ik) 0 .none >>= _) _ _ t0
 refine wpAny_bind (wpAny_setField gi di (by simp) (show wpAny _ _ (newExc (.type "StopIteration") [] >>= _) _ _ _ from wpAny_bind ?_))
 simp only [newExc,newTuple]
 refine wpAny_bind (wpAny_newObj_type (wpAny_bind (m:=firstArgMember _ _) (wpAny_of_eq (a:=Value.none) (by first | rfl | (simp only [firstArgMember]; rfl)) (wpAny_newObj_type ?_ (by size_fits)))) (by size_fits))
 simp only [raiseNew]
 refine wpAny_bind (wpAny_handled ?_); rw [show ar.in1.handled = none from hh]; refine wpAny_bind (wpAny_pure (wpAny_throw ?_))
 refine wpAny_bind (wpAny_isInstance (b:=true) (T:= "StopIteration") ⟨_,Heap.get?_push_size _ rfl,rfl⟩ isSubtype_stop ?_)
 exact wpAny_pure (q _ (((Heap.SameBut.update ..).extBut.push _).push _))
end
def zt (d:Addr) (o:Obj) (aj:List (List Key×V)):It:=
 ⟨fun i H=>H d = some (.eG o (.dT aj))∧i < aj.length,fun i H x H'=>H' = H∧∃ k v b,aj[i]? = some (k,v)∧H b = some (.tup (k.map kV))∧x = .ref b,fun i H=>H d = some (.eG o (.dT aj))∧aj.length≤i⟩
theorem uw {P:Program} {w:World} {K:Frag} {tg:Expr} {d it:Addr} {o:Obj} {aj:List (List Key×V)} {es:Array DictEntry} {ep:Nat} (hd:o.data = .dict es ep) (hn:es.size = aj.length) :
  Turn P w K tg (zt d o aj) [it] it (fun i h=>h.IsKeyIter it d i es.size ep) where
 mem:=by simp
 obj:=fun i h st b hb=>by
  have e:b = it:=by simpa using hb
  subst e
  obtain ⟨o,e,c,d⟩:=st
  exact ⟨o,e,fun v z=>by rw [d] at z; cases z⟩
 keep:=fun i h h' st k=>let ⟨o,e,r⟩:=st; ⟨o,k it (by simp) o e,r⟩
 item:=by
  intro X hP hw hK hc i pins s σ H E I hf st hg
  subst hP hw hK
  obtain ⟨FH,hi⟩:=hg
  obtain ⟨e1,ok⟩:=(show bF X.prog X.w H s.heap d (.eG o (.dT aj)) from I.bE d _ FH)
  obtain ⟨z,y,xs,r,o2,Pe,Pf,h1,h2,h3,h4,h5⟩:=(show bF X.prog X.w H s.heap d (.dT aj) from ok)
  rw [e1] at h1
  cases h1
  rw [hd] at h3
  cases h3
  obtain ⟨f0,f1,f2,f3,f4,f5⟩:=hf it (by simp)
  refine uc i st e1 hd (by omega) fun h' wb sb=>?_
  have I1:Inv X pins σ H { s with heap:=h' }:=I.turned (t':=s.toks) (fun b o hb e=>(sb.2 b hb).trans e) f0 f1 f3 f4 f5
  obtain ⟨o',e',c',d'⟩:=id wb
  have xl:=r.length
  have Ib:xs[i]? = some (xs[i]'(by omega)):=List.getElem?_eq_getElem _
  have key:∀ {l:List (List Key×V)} {m:List (List Key×Addr×Value)} (_:Paired (fun (p:List Key×V) (q:List Key×Addr×Value)=>p.1 = q.1∧H q.2.1 = some (.tup (p.1.map kV))∧RelV p.2 q.2.2) l m) (j:Nat) (x:List Key×Addr×Value),m[j]? = some x→∃ v,l[j]? = some (x.1,v)∧H x.2.1 = some (.tup (x.1.map kV)):=by
   intro l m pr
   induction pr with
   | nil=>intro j x e; simp at e
   | @cons p q ps qs hq _ ih=>
    intro j x e
    cases j with
    | zero=>
     have e:q = x:=by simpa using e
     subst e
     obtain ⟨p1,p2⟩:=p
     obtain ⟨a1,a2,_⟩:=hq
     have a1:p1 = q.1:=a1
     subst a1
     exact ⟨p2,rfl,a2⟩
    | succ j=>simpa using ih j x (by simpa using e)
  obtain ⟨v,hv,hb⟩:=key r i _ Ib
  have ek:es[i]'(by omega) = entryOfKey (tupleKind (bp X.prog X.w)) (xs[i]'(by omega)):=by
   have:=entry_at h4 i
   rw [Ib,Array.getElem?_eq_getElem (by omega)] at this
   exact Option.some.inj this
  rw [ek]
  exact ⟨_,rfl,tJ (s:={ s with heap:=h' }) e' c' d' (by decide) ⟨.ref (xs[i]'(by omega)).2.1,H,I1,rfl,⟨rfl,_,v,_,hv,hb,rfl⟩,wb,fun b hb=>(hf b hb).1⟩⟩
 done:=by
  intro X hP hw hK hc i pins s σ H E I hf st hg
  subst hP hw hK
  obtain ⟨FH,hi⟩:=hg
  obtain ⟨e1,ok⟩:=(show bF X.prog X.w H s.heap d (.eG o (.dT aj)) from I.bE d _ FH)
  obtain ⟨f0,f1,f2,f3,f4,f5⟩:=hf it (by simp)
  exact ua i (I.ok.hd hc) st e1 hd (by omega) fun h' eb=>⟨rfl,I.turned (t':=s.toks) (fun b o hb e=>eb b o hb e) f0 f1 f3 f4 f5⟩
 self:=fun _ _ _ _ _ st h=>wpAny_pyIter_keyiter st h
section
variable {X:Cx} {tg:Expr}
def tw (tl:TE):TI:=fun σ H R=>tl σ H fun x H1=>∃ a aj,x = .ref a∧H1 a = some (.dT aj)∧∀ o,R (zt a o aj) (upd H1 a (.eG o (.dT aj)))
theorem su {l:Expr} {tl:TE} (hl:PE X l tl):PI X tg l (tw tl):=by
 intro pins s σ H R I h
 refine bR (hl pins s σ H _ I h) fun v s1 ⟨x,H1,I1,r1,q1⟩=>?_
 obtain ⟨a,aj,e,hq,q⟩:=q1
 subst e
 cases r1
 obtain ⟨z,y,xs,r,o,es,ep,h1,h2,h3,h4,h5⟩:=(show bF X.prog X.w H1 s1.heap a (.dT aj) from I1.bE a _ hq)
 have nz:es.size = aj.length:=by rw [size_of_entries h4]; exact r.length.symm
 refine ud y h1 h2 h3 ?_
 generalize tG:s1.heap.push { cls:=Value.type "dict_keyiterator",data:=Data.fields #[Value.ref a,Value.int 0 0,Value.int es.size 0,Value.int ep 0] } = h'
 have kp:∀ c o,s1.heap.get? c = some o→h'.get? c = some o:=fun c o e=>tG▸Heap.get?_push_of_some _ e
 have na:∀ b ys,H1 b = some (.tup ys)→b≠a:=fun b ys e z=>by rw [z,hq] at e; cases e
 have I2:Inv X pins σ (upd H1 a (.eG o (.dT aj))) { s1 with heap:=h',toks:=s1.toks }:=
  Inv.write (e:=a) (t':=s1.toks) I1 (by rw [hq]; trivial) (.inl rfl) (fun b u _ e=>kp b u e) ⟨o,kp _ _ h1⟩
   ⟨kp _ _ h1,z,y,xs,Paired.qF r fun p q w=>⟨w.1,by rw [ai (na _ _ w.2.1)]; exact w.2.1,w.2.2⟩,o,es,ep,kp _ _ h1,h2,h3,h4,h5⟩
 refine ⟨s1.heap.objs.size,[s1.heap.objs.size],_,_,_,rfl,I2,uw h3 nz,⟨_,tG▸Heap.get?_push_size _ rfl,rfl,rfl⟩,fun b hb=>?_,q o⟩
 have e:b = s1.heap.objs.size:=by simpa using hb
 subst e
 have ne:s1.heap.objs.size≠a:=fun z=>Nat.lt_irrefl _ (z▸Heap.lt_size h1)
 have f:=I1.tK (Nat.le_refl _) (I1.bE.fresh (Nat.le_refl _))
 exact ⟨(ai ne).trans f.1,f.2⟩
theorem se {tl:TE} {σ : St} {H:Hp} {R:It→Hp→Prop} (h:tl σ H fun x H1=>∃ a aj,x = .ref a∧H1 a = some (.dT aj)∧∀ o,R (zt a o aj) (upd H1 a (.eG o (.dT aj)))):tw tl σ H R:=h
theorem qP {d:Addr} {o:Obj} {aj:List (List Key×V)} {g:TG} {tb:TS} {D:Ends} {σ : St} {H:Hp} (Pv:Nat→St→Hp→Prop) (h0:Pv 0 σ H) (hl:∀ i σ H,i≤aj.length→Pv i σ H→H d = some (.eG o (.dT aj)))
  (hs:∀ i k v b σ H,aj[i]? = some (k,v)→H b = some (.tup (k.map kV))→Pv i σ H→g (.ref b) σ H fun σ2 H2=>tb { D with nx:=Pv (i + 1),ct:=Pv (i + 1),bk:=D.nx } σ2 H2) (hd:∀ σ H,Pv aj.length σ H→D.nx σ H) :
  ∃ W:Nat→Nat→St→Hp→Prop,(∃ m,W 0 m σ H)∧∀ i m σ H,W i m σ H→
   ((zt d o aj).stop i H∧D.nx σ H)∨((zt d o aj).go i H∧∃ N:St→Hp→Prop,(∀ σ' H',N σ' H'→∃ m',m' < m∧W (i + 1) m' σ' H')∧∀ x H',(zt d o aj).rD i H x H'→g x σ H' fun σ2 H2=>tb { D with nx:=N,ct:=N,bk:=D.nx } σ2 H2):=by
 refine ⟨fun i m σ H=>m = aj.length - i∧i≤aj.length∧Pv i σ H,⟨aj.length,by simp,Nat.zero_le _,h0⟩,?_⟩
 rintro i m σ H ⟨rfl,hi,p⟩
 have q:=hl i σ H hi p
 by_cases dD:i < aj.length
 ·refine .inr ⟨⟨q,dD⟩,Pv (i + 1),fun σ' H' p'=>⟨aj.length - (i + 1),by omega,rfl,dD,p'⟩,fun x H' y=>?_⟩
  obtain ⟨e,k,v,b,hk,hb,rfl⟩:=y
  subst e
  exact hs i k v b σ _ hk hb p
 ·have e:i = aj.length:=by omega
  subst e
  exact .inl ⟨⟨q,Nat.le_refl _⟩,hd σ H p⟩
theorem Inv.C8 {pins:List (Addr×Obj)} {σ : St} {H:Hp} {s:Shared} {d:Addr} {o:Obj} {u:HO} (I:Inv X pins σ H s) (hf:H d = some (.eG o u)) (nt:∀ xs,u≠.tup xs) (no:∀ x,u≠.own x) (h0:∀ o' u',X.H₀ d≠some (.eG o' u')):Inv X pins σ (upd H d u) s:=by
 have nd:∀ {b:Addr},H b = none→b≠d:=fun {b} e z=>by rw [z,hf] at e; cases e
 have ok:fI X.prog X.w (upd H d u) s.heap:=fun b v e=>by
  have ts:∀ c xs,H c = some (.tup xs)→upd H d u c = some (.tup xs):=fun c xs q=>by
   rw [ai (show c≠d from fun z=>by rw [z,hf] at q; cases q)]; exact q
  have os:∀ c x,H c = some (.own x)→upd H d u c = some (.own x):=fun c x q=>by
   rw [ai (show c≠d from fun z=>by rw [z,hf] at q; cases q)]; exact q
  by_cases z:b = d
  ·subst z
   rw [af] at e
   cases e
   obtain ⟨_,q⟩:=(show bF X.prog X.w H s.heap b (.eG o u) from I.bE b _ hf)
   exact q.kT (fun c v _ r=>r) (fun c q=>os c _ q) ts
  ·rw [ai z] at e
   exact (I.bE b v e).kT (fun c v _ r=>r) (fun c q=>os c _ q) ts
 have bs:Un X.fs X.ex X.H₀ (upd H d u) X.s₀.heap s.heap:=by
  refine ⟨I.base.keep,I.base.slot,fun b ob e n hx=>?_,I.base.there,fun b xs e=>?_,fun b ob v e=>?_,fun b ps e=>?_⟩
  ·have:=I.base.free b ob e n hx
   rw [ai (nd this)]; exact this
  ·have:=I.base.kP b xs e
   rw [ai (show b≠d from fun z=>by rw [z,hf] at this; cases this)]; exact this
  ·have:=I.base.jO b ob v e
   rw [ai (show b≠d from fun z=>h0 ob v (by rw [← z]; exact e))]; exact this
  ·obtain ⟨m,this⟩:=I.base.kQ b ps e
   exact ⟨m,by rw [ai (show b≠d from fun z=>by rw [z,hf] at this; cases this)]; exact this⟩
 exact ⟨I.ok,I.os,I.bare,bs,I.loc,I.cell,by rw [ai (nd I.free)]; exact I.free,fun x c e=>by rw [ai (nd (I.eI x c e))]; exact I.eI x c e,fun p hp=>by
  obtain ⟨a1,a2,a3⟩:=I.pin p hp
  exact ⟨a1,by rw [ai (nd a2)]; exact a2,a3⟩,ok,I.len⟩
end
end L2
end
section
namespace L2
open PySem PySem.Spec PySem.W PySem.Calls PyProof.Rows Gm
section
variable {X:Cx} {pins:List (Addr×Obj)} {σ : St} {H:Hp} {s:Shared} {a:Addr} {A:Around} {E:Value→Shared→Prop}
theorem yI {aj:List (List Key×V)} {k:List Key} {b:Addr} {v:V} {r:Value} {Q:Unit→Shared→Prop} (hu:A.units < cLine) (I:Inv X pins σ H s) (e:H a = some (.dT aj)) (eb:H b = some (.tup (k.map kV))) (l:aj.length < sizeLine) (rv:RelV v r)
  (h:∀ s',Inv X pins σ (upd H a (.dT (putK aj k v))) s'→Q () s'):wpAny (model X.prog X.w) A (dictSet a (.ref b) r) Q E s:=by
 obtain ⟨z,hd,xs,rel,dd⟩:=tO I.bE e
 refine wpAny_dictSet_heap (hsz:=by rw [← Paired.length rel]; exact z) (knd:=tupleKind (bp X.prog X.w)) hu (fU I.bE eb) dd fun h' tS hs=>h _ ?_
 obtain ⟨q,es,ep,hq,h2,h3,h4,_,h5⟩:=tS
 refine gI I (by rw [e]; exact True.intro) hs ⟨q,hq⟩ ⟨by have:=dN aj k v; omega,hd,_,(rel.put k eb rv).keeps fun c ys ec=>?_,q,es,ep,hq,h2,h3,h4,h5⟩
 rw [ai (sO ec e (fun z=>nomatch z))]
 exact ec
def rL (tk tv:TE):TE:=fun σ H Q=>∀ p,H p = none→kS [(tk,tv)] σ (upd H p (.dT [])) fun ps H2=>H2 p = some (.dT [])∧∃ (b:Addr) (k:List Key) (y:V),ps = [(.ref b,y)]∧H2 b = some (.tup (k.map kV))∧Q (.ref p) (upd H2 p (.dT [(k,y)]))
theorem pB {tk tv:TE} {Q:VK} (h:∀ p,H p = none→tk σ (upd H p (.dT [])) fun x H1=>tv σ H1 fun y H2=>H2 p = some (.dT [])∧∃ (b:Addr) (k:List Key) (z:V),[(x,y)] = [(V.ref b,z)]∧H2 b = some (.tup (k.map kV))∧Q (.ref p) (upd H2 p (.dT [(k,z)]))):rL tk tv σ H Q:=h
theorem mW {pos:Pos} {ke ve:Expr} {tk tv:TE} (hu:X.A.units < cLine) (hk:PE X ke tk) (hv:PE X ve tv):PE X (.Dict [some ke] [ve] pos) (rL tk tv):=by
 intro pins s σ H Q I q
 have hn:=I.bE.fresh (Nat.le_refl s.heap.objs.size)
 have I1:=I.laid (a:=s.heap.objs.size) (o:=.dT []) (h':=s.heap.push { cls:=.type "dict",data:=.dict #[] }) (t':=s.toks) (fun _ _ q=>Heap.get?_push_of_some _ q) (Nat.le_refl _) (nF s.heap I.big)
 refine wpAny_Dict_any rfl rfl (by simp) (by simp) (bR (mU (pos:=pos) hk hv pJ pins _ σ _ _ I1 (q _ hn)) ?_)
 rintro ws s2 ⟨ps,H2,I2,rel,e,b,k,y,rfl,eb,q2⟩
 cases rel with
 | @cons _ w _ wr r1 r2=>
  cases r2
  obtain ⟨wk,wv⟩:=w
  obtain ⟨r1,r3⟩:=r1
  cases (show wk = Value.ref b from r1)
  unfold storeAll
  rw [List.forIn_cons]
  refine wpAny_bind (wpAny_bind (yI (v:=y) hu I2 e eb (by rw [sizeLine_eq]; simp) r3 fun s3 I3=>wpAny_pure ?_))
  show wpAny _ _ (forIn ([]:List (Value×Value)) PUnit.unit _) _ _ _
  rw [List.forIn_nil]
  exact wpAny_pure ⟨.ref s.heap.objs.size,_,I3,rfl,q2⟩
theorem uz {kn:HeapKind X.prog X.w (List Key)} {d b:Addr} {xs:List (List Key×Addr×Value)} {k:List Key} {j:Nat} {p:Addr×Value} {Q:Option DictEntry→Shared→Prop} (hu:kn.room A) (AR:kn.is s.heap k b) (hm:s.heap.DictOfH kn d xs) (hj:xs[j]? = some (k,p)) (hz:xs.length≤sizeLine)
  (q:∀ h',h'.DictOfH kn d (xs.eraseIdx j)→Heap.SameBut d s.heap h'→Q (some (entryOfKey kn (k,p))) { s with heap:=h',toks:=s.toks + kn.draws k }) :
  wpAny (model X.prog X.w) A (Builtin.Dict.takeOut d (.ref b)) Q E s:=by
 obtain ⟨o,es,ep,ho,hc,hd,he,Iq,hn⟩:=hm
 unfold Builtin.Dict.takeOut
 refine wpAny_holding (wpAny_bind (kn.pyHash hu AR (wpAny_bind (wpAny_dictFind_heap (s:={ s with toks:=s.toks + kn.draws k }) hu AR ho hd he Iq hn (fun no=>absurd hj (no j p)) fun i p' hi=>?_))))
 have ij:i = j∧p' = p:=by
  have h1:(xs.map (·.1))[i]? = some k:=by rw [List.getElem?_map,hi]; rfl
  have h2:(xs.map (·.1))[j]? = some k:=by rw [List.getElem?_map,hj]; rfl
  obtain ⟨l1,e1⟩:=List.getElem?_eq_some_iff.mp h1
  obtain ⟨l2,e2⟩:=List.getElem?_eq_some_iff.mp h2
  have e:i = j:=by
   have pw:=List.pairwise_iff_getElem.mp hn
   rcases Nat.lt_trichotomy i j with z | z | z
   ·exact absurd (e1.trans e2.symm) (pw i j l1 l2 z)
   ·exact z
   ·exact absurd (e2.trans e1.symm) (pw j i l2 l1 z)
  subst e
  rw [hi] at hj
  cases hj
  exact ⟨rfl,rfl⟩
 obtain ⟨rfl,rfl⟩:=ij
 refine wpAny_bind (wpAny_dictEntries (s:={ s with toks:=s.toks + kn.draws k }) ho hd ?_)
 rw [entry_at he i,hi]
 have el:=size_of_entries he
 have il:=(List.getElem?_eq_some_iff.mp hi).1
 refine wpAny_bind (wpAny_updateDictKeys (s:={ s with toks:=s.toks + kn.draws k }) (hz:=by omega) (hf:=by unfold Array.eraseIdxIfInBounds; split <;> simp <;> omega) ho hd (wpAny_pure (q _ ⟨_,_,ep + 1,Heap.get?_update_self _ ho (Obj.isFreed_of_dict (Obj.data_mapDictKeys hd _)),hc.mapDictKeys _,Obj.data_mapDictKeys hd _,?_,fun x hx=>kn.keeps (Iq x (List.mem_of_mem_eraseIdx hx)) ho hd (Heap.SameBut.update ..),?_⟩ (Heap.SameBut.update ..))))
 ·rw [Array.eraseIdxIfInBounds,dif_pos (show i < es.size by omega),Array.toList_eraseIdx,he]
  have er:∀ (l:List (List Key×Addr×Value)) (i:Nat),(l.map (entryOfKey kn)).eraseIdx i = (l.eraseIdx i).map (entryOfKey kn):=fun l=>by
   induction l with
   | nil=>intro i; rfl
   | cons x l ih=>intro i; cases i with
    | zero=>rfl
    | succ i=>simp [ih i]
  exact er xs i
 ·have er:∀ (l:List (List Key×Addr×Value)) (i:Nat),(l.eraseIdx i).map (·.1) = (l.map (·.1)).eraseIdx i:=fun l=>by
   induction l with
   | nil=>intro i; rfl
   | cons x l ih=>intro i; cases i with
    | zero=>rfl
    | succ i=>simp [ih i]
  rw [er]
  exact hn.sublist (List.eraseIdx_sublist _ _)
end
end L2
namespace L2
open PySem PySem.Spec PySem.W PySem.Calls PyProof.Rows Gm
section
variable {X:Cx} {pins:List (Addr×Obj)} {σ : St} {H:Hp} {s:Shared} {a:Addr} {A:Around} {E:Value→Shared→Prop}
theorem yJ {aj:List (List Key×V)} {k:List Key} {b:Addr} {v:V} {j:Nat} {Q:Value→Shared→Prop} (hu:A.units + 1 < cLine) (I:Inv X pins σ H s) (e:H a = some (.dT aj)) (eb:H b = some (.tup (k.map kV))) (hj:aj[j]? = some (k,v))
  (h:∀ w' s',Inv X pins σ (upd H a (.dT (aj.eraseIdx j))) s'→RelV v w'→Q w' s'):wpAny (model X.prog X.w) A (call (.builtin "dict.pop") [.ref a,.ref b]) Q E s:=by
 obtain ⟨z,hd,xs,rel,dd⟩:=tO I.bE e
 have xl:=Paired.length rel
 have jl:=(List.getElem?_eq_some_iff.mp hj).1
 have pick:∀ {l:List (List Key×V)} {m:List (List Key×Addr×Value)} (_:KT H l m) (j:Nat) (k:List Key) (v:V),l[j]? = some (k,v)→∃ (c:Addr) (w':Value),m[j]? = some (k,c,w')∧RelV v w':=by
  intro l m pr
  induction pr with
  | nil=>intro j k v e; simp at e
  | @cons p q ps qs hq _ ih=>
   intro j k v e
   cases j with
   | zero=>
    have e:p = (k,v):=by simpa using e
    subst e
    obtain ⟨q1,q2,q3⟩:=q
    obtain ⟨a1,_,a3⟩:=hq
    have a1:k = q1:=a1
    subst a1
    exact ⟨q2,q3,rfl,a3⟩
   | succ j=>simpa using ih j k v (by simpa using e)
 obtain ⟨c,w',hx,mO⟩:=pick rel j k v hj
 have drop:∀ {l:List (List Key×V)} {m:List (List Key×Addr×Value)} (_:KT H l m) (j:Nat),KT H (l.eraseIdx j) (m.eraseIdx j):=by
  intro l m pr
  induction pr with
  | nil=>intro j; exact .nil
  | cons hq t ih=>
   intro j
   cases j with
   | zero=>exact t
   | succ j=>exact .cons hq (ih j)
 have ty:=dd.typeIs
 obtain ⟨o0,M0,Pg,Mm,Iv,ME,MB,_,_⟩:=id dd
 refine call_meetsIn PySem.F.slot_dict_pop ty PySem.F.entry_dict_pop (PySem.F.args_dict_pop_2 _ _) (S:=fun A' R t=>t = s∧A'.units + 1 < cLine∧∀ s',Inv X pins σ (upd H a (.dT (aj.eraseIdx j))) s'→R (.ok (.ret w')) s') (.of_wp fun A' R t ⟨et,L8,k3⟩=>?_) ⟨rfl,?_,fun s' I'=>?_⟩
 ·subst et
  unfold Builtin.«dict.pop» Builtin.Dict.keyAndDefault
  refine wpAny_bind (wpAny_bind (wpAny_notOrdered_dict ty ?_))
  show wpAny _ _ (pure (a,Value.ref b,none)) _ _ t
  refine wpAny_pure ?_
  simp only [keyPart,Option.isSome_none,Bool.false_eq_true,if_false]
  have en:M0.isEmpty = false:=by
   have e1:=size_of_entries MB
   rw [Array.isEmpty,decide_eq_false_iff_not]
   omega
  refine wpAny_bind (wpAny_dictEntries Mm ME (wpAny_bind (wpAny_pure ?_)))
  rw [en]
  simp only [if_false,Bool.false_eq_true]
  refine wpAny_bind (uz (kn:=tupleKind (bp X.prog X.w)) (tupleKind_room_in1 L8) (fU I.bE eb) dd hx (by omega) fun h' tS hs=>?_)
  simp only [if_false,Option.isNone_some,Bool.false_eq_true]
  refine wpAny_bind (wpAny_letGo (wpAny_pure ⟨w',rfl,k3 _ ?_⟩))
  obtain ⟨q,es,ep,hq,h2,h3,h4,_,h5⟩:=tS
  have le:(aj.eraseIdx j).length≤aj.length:=by rw [List.length_eraseIdx]; split <;> omega
  refine gI I (by rw [e]; exact True.intro) hs ⟨q,hq⟩ ⟨by omega,hd,_,(drop rel j).keeps fun c ys ec=>?_,q,es,ep,hq,h2,h3,h4,h5⟩
  rw [ai (sO ec e (fun z=>nomatch z))]
  exact ec
 ·exact hu
 ·exact h w' s' I' mO
def rM (td ty:TE):TE:=fun σ H Q=>td σ H fun x H1=>∃ a,x = .ref a∧zu H1 a∧ty σ H1 fun y H2=>∃ (aj:List (List Key×V)) (j:Nat) (k:List Key) (v:V) (b:Addr),H2 a = some (.dT aj)∧y = .ref b∧H2 b = some (.tup (k.map kV))∧aj[j]? = some (k,v)∧Q v (upd H2 a (.dT (aj.eraseIdx j)))
theorem sD {o e:Expr} {td ty:TE} {apos dF:Pos} (hu:X.A.units + 1 < cLine) (ho:PE X o td) (he:PE X e ty) (m:M1 X o "pop" apos e dF):PE X (.Call (.Attribute o "pop" apos) [e] [] dF) (rM td ty):=by
 intro pins s σ H Q I h
 refine wpAny_Call_method m.base m.oA m.line PySem.F.plainAttrs_dict PySem.F.slot_dict_pop PySem.F.type_dict_pop (bR (ho pins s σ H _ I h) fun u s1 ⟨x,H1,I1,rx,a,ex,d,q1⟩=>?_)
 subst ex
 obtain rfl:u = Value.ref a:=rx
 obtain ⟨t1,t2,_⟩:=yk I1 d
 refine ⟨t1,t2,?_⟩
 rw [m.trees]
 refine Calls.callWith_builtin rfl (Calls.evalArgs_plain (Calls.spliced_cons (bR (he pins s1 σ H1 _ I1 q1) fun iv s2 ⟨y,H2,I2,ry,aj,j,k,v,b,ea,ey,eb,hj,q2⟩=>Calls.spliced_nil ?_)))
 subst ey
 obtain rfl:iv = Value.ref b:=ry
 exact yJ hu I2 ea eb hj fun w' s3 I3 mO=>⟨v,_,I3,mO,q2⟩
def vV (H0:Hp) (t:TS):TS:=fun D σ H=>t { D with nx:=fun σ' H'=>∃ (d:Addr) (o:Obj) (aj:List (List Key×V)),H' d = some (.eG o (.dT aj))∧(∀ o' u',H0 d≠some (.eG o' u'))∧D.nx σ' (upd H' d (.dT aj)) } σ H
theorem uR {st:Stmt} {t:TS} (h:PS X st t):PS X st (vV X.H₀ t):=by
 intro pins s σ H D I q
 refine bR (h pins s σ H _ I q) fun f s' r=>?_
 cases f with
 | next=>
  obtain ⟨σ',H',I',d,o,aj,hf,h0,q'⟩:=r
  exact ⟨σ',_,I'.C8 hf (fun xs z=>nomatch z) (fun x z=>nomatch z) h0,q'⟩
 | brk=>exact r
 | cont=>exact r
 | ret u=>exact r
theorem xD {H0:Hp} {t:TS} {D:Ends} (h:t { D with nx:=fun σ' H'=>∃ (d:Addr) (o:Obj) (aj:List (List Key×V)),H' d = some (.eG o (.dT aj))∧(∀ o' u',H0 d≠some (.eG o' u'))∧D.nx σ' (upd H' d (.dT aj)) } σ H):vV H0 t D σ H:=h
end
end L2
end
section
namespace Fw
open PySem L2 Gm
def kd (d:ab):List Key:=[.inl (d.1:Int),.inl (if d.2 then 1 else 0)]
theorem yg {d e:ab} (h:kd d = kd e):d = e:=by
 obtain ⟨p,s⟩:=d
 obtain ⟨q,t⟩:=e
 unfold kd at h
 simp only [List.cons.injEq,Sum.inl.injEq,and_true] at h
 obtain ⟨h1,h2⟩:=h
 have:p = q:=by omega
 subst this
 cases s <;> cases t <;> first | rfl | (simp at h2)
def kR (ks:List ab) (r:ab→V):List (List Key×V):=ks.map fun d=>(kd d,r d)
theorem gW:∀ (ks:List ab) (r:ab→V) (d:ab),dC (kR ks r) (kd d) = if d∈ks then some (r d) else none
 | [],r,d=>rfl
 | e :: ks,r,d=>by
  unfold kR
  rw [List.map_cons]
  by_cases z:e = d
  ·subst z
   rw [dS rfl,if_pos (List.mem_cons_self)]
  ·rw [dU (fun y=>z (yg y))]
   have:=gW ks r d
   unfold kR at this
   rw [this]
   by_cases h:d∈ks
   ·rw [if_pos h,if_pos (List.mem_cons_of_mem _ h)]
   ·rw [if_neg h,if_neg (fun y=>(List.mem_cons.mp y).elim (fun y=>z y.symm) h)]
theorem jg {ks:List ab} {r:ab→V} {d:ab} {v:V} (h:d∉ks):putK (kR ks r) (kd d) v = kR (ks ++ [d]) (fun e=>if e = d then v else r e):=by
 rw [iY v (by rw [gW,if_neg h])]
 unfold kR
 rw [List.map_append,List.map_singleton]
 dsimp only
 rw [if_pos rfl]
 congr 1
 refine List.map_congr_left fun e he=>?_
 rw [if_neg (show ¬ e = d from fun z=>h (z▸he))]
theorem jf {ks:List ab} {d:ab} {v:V} (h:d∉ks):putK (kR ks fun _=>v) (kd d) v = kR (ks ++ [d]) fun _=>v:=by
 rw [jg h]
 congr 1
 funext e
 split <;> rfl
theorem je {ks:List ab} {d:ab} {v:V} (h:d∈ks):putK (kR ks fun _=>v) (kd d) v = kR ks fun _=>v:=by
 unfold putK
 rw [gb,gW,if_pos h]
 rw [Option.isSome_some,if_pos rfl]
 unfold kR
 rw [List.map_map]
 refine List.map_congr_left fun e _=>?_
 show (if kd e = kd d then (kd e,v) else (kd e,v)) = _
 split <;> rfl
theorem eC (ks:List ab) (r:ab→V):(kR ks r).length = ks.length:=by unfold kR; rw [List.length_map]
theorem Av {ks:List ab} {r:ab→V} {j:Nat} {d:ab} (h:ks[j]? = some d):(kR ks r)[j]? = some (kd d,r d):=by unfold kR; rw [List.getElem?_map,h]; rfl
theorem Au {ks:List ab} {r:ab→V} {j:Nat} {k:List Key} {v:V} (h:(kR ks r)[j]? = some (k,v)):∃ d,ks[j]? = some d∧k = kd d∧v = r d:=by
 unfold kR at h
 rw [List.getElem?_map] at h
 cases e:ks[j]? with
 | none=>rw [e] at h; cases h
 | some d=>rw [e] at h; injection h with h; injection h with h1 h2; exact ⟨d,rfl,h1.symm,h2.symm⟩
theorem vb {ks:List ab} {r:ab→V} (j:Nat):(kR ks r).eraseIdx j = kR (ks.eraseIdx j) r:=by
 unfold kR
 induction ks generalizing j with
 | nil=>rfl
 | cons d ks ih=>
  cases j with
  | zero=>rfl
  | succ j=>show _ :: _ = _ :: _; rw [ih]
theorem sR {ks:List ab} {j:Nat} {d:ab} (nd:ks.Nodup) (h:ks[j]? = some d) (e:ab):e∈ks.eraseIdx j↔e∈ks∧e≠d:=by
 rw [List.mem_eraseIdx_iff_getElem?]
 constructor
 ·rintro ⟨i,hi,he⟩
  refine ⟨List.mem_of_getElem? he,fun z=>hi ?_⟩
  subst z
  have h1:=List.getElem?_eq_some_iff.mp he
  have h2:=List.getElem?_eq_some_iff.mp h
  exact (List.getElem_inj nd).mp (h1.2.trans h2.2.symm)
 ·rintro ⟨he,ne⟩
  obtain ⟨i,hi⟩:=List.mem_iff_getElem?.mp he
  exact ⟨i,fun z=>by subst z; rw [h] at hi; injection hi with hi; exact ne hi.symm,hi⟩
structure b9 (H:Hp) (wy:Addr) (n:Nat) (N:ab→ab→Prop) (aj:List (List Key×V)) (g:ab→Addr) (ks:ab→List ab):Prop where
 top:H wy = some (.dT aj)
 val:∀ d:ab,d.1 < n→dC aj (kd d) = some (.ref (g d))
 row:∀ d:ab,d.1 < n→H (g d) = some (.dT (kR (ks d) fun _=>.bl true))
 nd:∀ d:ab,d.1 < n→(ks d).Nodup
 mem:∀ d e:ab,d.1 < n→(e∈ks d↔N d e)
 rg:∀ d e:ab,d.1 < n→N d e→e.1 < n
 inj:∀ d e:ab,d.1 < n→e.1 < n→g d = g e→d = e
 off:∀ d:ab,d.1 < n→g d≠wy
theorem b9.same {H H':Hp} {wy:Addr} {n:Nat} {N:ab→ab→Prop} {aj:List (List Key×V)} {g:ab→Addr} {ks:ab→List ab} (W:b9 H wy n N aj g ks) (e:ak H H'):b9 H' wy n N aj g ks:=
 ⟨e _ _ W.top,W.val,fun d h=>e _ _ (W.row d h),W.nd,W.mem,W.rg,W.inj,W.off⟩
theorem b9.len {H:Hp} {wy:Addr} {n:Nat} {N:ab→ab→Prop} {aj:List (List Key×V)} {g:ab→Addr} {ks:ab→List ab} (W:b9 H wy n N aj g ks) {d:ab} (h:d.1 < n):(ks d).length≤2 * n:=by
 have h1:((ks d).map fun d:ab=>2 * d.1 + (if d.2 then 1 else 0)).Nodup:=by
  refine List.Pairwise.map _ (fun d e ne z=>ne ?_) (W.nd d h)
  obtain ⟨p,s⟩:=d
  obtain ⟨q,t⟩:=e
  dsimp only at z
  have:p = q∧s = t:=by cases s <;> cases t <;> simp at z ⊢ <;> omega
  rw [this.1,this.2]
 have sb:∀ x∈((ks d).map fun d:ab=>2 * d.1 + (if d.2 then 1 else 0)),x∈List.range (2 * n):=fun x hx=>by
  obtain ⟨e,he,rfl⟩:=List.mem_map.mp hx
  have:=W.rg d e h ((W.mem d e h).mp he)
  rw [List.mem_range]
  split <;> omega
 have:=h1.length_le_of_subset sb
 simpa using this
inductive DR (H:Hp):List Addr→List ab→Prop where
 | nil:DR H [] []
 | cons {c:Addr} {d:ab} {cs:List Addr} {ds:List ab} (h:H c = some (.tup ((kd d).map kV))) (t:DR H cs ds):DR H (c :: cs) (d :: ds)
theorem DR.mono {H H':Hp} (e:∀ c xs,H c = some (.tup xs)→H' c = some (.tup xs)) {cs:List Addr} {ds:List ab} (h:DR H cs ds):DR H' cs ds:=by
 induction h with
 | nil=>exact .nil
 | cons h _ ih=>exact .cons (e _ _ h) ih
theorem DR.add {H:Hp} {cs:List Addr} {ds:List ab} {c:Addr} {d:ab} (h:DR H cs ds) (hc:H c = some (.tup ((kd d).map kV))):DR H (cs ++ [c]) (ds ++ [d]):=by
 induction h with
 | nil=>exact .cons hc .nil
 | cons h _ ih=>exact .cons h ih
def AV (H:Hp) (v:V):Option ab→Prop
 | none=>v = .bK
 | some e=>∃ c,v = .ref c∧H c = some (.tup ((kd e).map kV))
theorem AV.mono {H H':Hp} (e:∀ c xs,H c = some (.tup xs)→H' c = some (.tup xs)) {v:V} {o:Option ab} (h:AV H v o):AV H' v o:=by
 cases o with
 | none=>exact h
 | some d=>obtain ⟨c,h1,h2⟩:=h; exact ⟨c,h1,e _ _ h2⟩
structure mz (H:Hp) (t:Addr) (aj:List (ab×Option ab)) (r:ab→V):Prop where
 top:H t = some (.dT (kR (aj.map Prod.fst) r))
 val:∀ d o,(d,o)∈aj→AV H (r d) o
theorem jh (ks:List ab) (r:ab→V) (d:ab):(dC (kR ks r) (kd d)).isSome = decide (d∈ks):=by
 rw [gW]
 by_cases h:d∈ks
 ·rw [if_pos h,decide_eq_true h]; rfl
 ·rw [if_neg h,decide_eq_false h]; rfl
theorem cY {H:Hp} {a:Addr} {o:HO} (o':HO) (h:H a = some o) (no:∀ xs,o≠.tup xs):∀ c xs,H c = some (.tup xs)→upd H a o' c = some (.tup xs):=fun c xs e=>by
 rw [ai (fun z=>by rw [z,h] at e; injection e with e; exact no xs e)]
 exact e
theorem mz.get {H:Hp} {t:Addr} {cJ:List (ab×Option ab)} {r:ab→V} (A:mz H t cJ r) {b:Addr} {d:ab} (hb:H b = some (.tup ((kd d).map kV))) (hd:d∈cJ.map Prod.fst):cz H t (.ref b) (some (r d)):=by
 have:=cz.t (k:=kd d) A.top hb
 rw [gW,if_pos hd] at this
 exact this
theorem b9.get {H:Hp} {wy:Addr} {n:Nat} {N:ab→ab→Prop} {aj:List (List Key×V)} {g:ab→Addr} {ks:ab→List ab} (W:b9 H wy n N aj g ks) {b:Addr} {d:ab} (hb:H b = some (.tup ((kd d).map kV))) (hd:d.1 < n):cz H wy (.ref b) (some (.ref (g d))):=by
 have:=cz.t (k:=kd d) W.top hb
 rw [W.val d hd] at this
 exact this
theorem mz.add {H H':Hp} {t:Addr} {cJ:List (ab×Option ab)} {r:ab→V} (A:mz H t cJ r) {c:Addr} {e x:ab} (ne:e∉cJ.map Prod.fst) (hc:H' c = some (.tup ((kd x).map kV))) (h:H' t = some (.dT (putK (kR (cJ.map Prod.fst) r) (kd e) (.ref c)))) (tu:∀ c xs,H c = some (.tup xs)→H' c = some (.tup xs)):mz H' t (cJ ++ [(e,some x)]) (fun y=>if y = e then .ref c else r y):=by
 refine ⟨by rw [h,jg ne,List.map_append]; rfl,fun d o hd=>?_⟩
 rcases List.mem_append.mp hd with hd | hd
 ·rw [if_neg (show ¬ d = e from fun z=>ne (z▸List.mem_map.mpr ⟨_,hd,rfl⟩))]
  exact (A.val d o hd).mono tu
 ·have:=List.mem_singleton.mp hd
  injection this with h1 h2
  subst h1; subst h2
  rw [if_pos rfl]
  exact ⟨c,rfl,hc⟩
theorem mz.keep {H H':Hp} {t:Addr} {cJ:List (ab×Option ab)} {r:ab→V} (A:mz H t cJ r) (h:H' t = H t) (tu:∀ c xs,H c = some (.tup xs)→H' c = some (.tup xs)):mz H' t cJ r:=⟨h.trans A.top,fun d o hd=>(A.val d o hd).mono tu⟩
def vz (cJ:List (ab×Option ab)) (v:Option V) (H:Hp):Nat:=
 match v with
 | some (.ref c)=>(match H c with | some (.tup [.int p,.int s])=>rk cJ (p.toNat,decide (s = 1)) | _=>0)
 | _=>0
theorem gZ {cJ:List (ab×Option ab)} {H:Hp} {c:Addr} {y:ab} (h:H c = some (.tup ((kd y).map kV))):vz cJ (some (.ref c)) H = rk cJ y:=by
 unfold vz
 dsimp only
 rw [h]
 obtain ⟨p,s⟩:=y
 cases s <;> rfl
theorem b9.push {H H':Hp} {wy:Addr} {n:Nat} {T:Nat→Nat→Prop} {f:Flow} {aj:List (List Key×V)} {g:ab→Addr} {ks:ab→List ab} (W:b9 H wy n (Res T f) aj g ks) {p x:ab} (pn:p.1 < n) (xn:x.1 < n)
  (sym:∀ a b,T a b→T b a) (ro:∀ a,¬ T a a) (gK:∀ u v,f.F u v = true→T u v) (r:Res T f p x) (lx lp:List ab) (nx:lx.Nodup) (mx:∀ e,e∈lx↔e∈ks x∨e = p) (np:lp.Nodup) (mp:∀ e,e∈lp↔e∈ks p∧(e = x→¬ (p.1 = x.1∨p.2 = false)))
  (hx:H' (g x) = some (.dT (kR lx fun _=>.bl true))) (hp:H' (g p) = some (.dT (kR lp fun _=>.bl true))) (HI:∀ b,b≠g x→b≠g p→H' b = H b):b9 H' wy n (Res T (f.push p x)) aj g (fun d=>if d = x then lx else if d = p then lp else ks d):=by
 have px:p≠x:=fun z=>by rw [z] at r; exact r.wd rfl
 have x4:∀ c,f.F c c = false:=fun c=>by
  cases h:f.F c c with
  | false=>rfl
  | true=>exact absurd (gK _ _ h) (ro c)
 refine ⟨?_,W.val,fun d hd=>?_,fun d hd=>?_,fun d e hd=>?_,fun d e hd hN=>?_,W.inj,W.off⟩
 ·rw [HI wy (W.off x xn).symm (W.off p pn).symm]; exact W.top
 ·by_cases h1:d = x
  ·rw [if_pos h1,h1]; exact hx
  ·rw [if_neg h1]
   by_cases h2:d = p
   ·rw [if_pos h2,h2]; exact hp
   ·rw [if_neg h2,HI (g d) (fun z=>h1 (W.inj _ _ hd xn z)) (fun z=>h2 (W.inj _ _ hd pn z))]; exact W.row d hd
 ·by_cases h1:d = x
  ·rw [if_pos h1]; exact nx
  ·rw [if_neg h1]
   by_cases h2:d = p
   ·rw [if_pos h2]; exact np
   ·rw [if_neg h2]; exact W.nd d hd
 ·by_cases h1:d = x
  ·rw [if_pos h1,mx,h1]
   by_cases h3:e = p
   ·rw [h3]; exact ⟨fun _=>ue sym gK r,fun _=>.inr rfl⟩
   ·rw [fh x e (fun z=>px z.1.symm) (fun z=>h3 z.2),← W.mem x e xn]
    exact ⟨fun z=>z.resolve_right h3,.inl⟩
  ·rw [if_neg h1]
   by_cases h2:d = p
   ·rw [if_pos h2,mp,h2]
    by_cases h3:e = x
    ·rw [h3,rf ro x4 r,W.mem p x pn]
     exact ⟨fun z=>z.2 rfl,fun z=>⟨r,fun _=>z⟩⟩
    ·rw [fh p e (fun z=>h3 z.2) (fun z=>px z.1),← W.mem p e pn]
     exact ⟨fun z=>z.1,fun z=>⟨z,fun y=>absurd y h3⟩⟩
   ·rw [if_neg h2,fh d e (fun z=>h2 z.1) (fun z=>h1 z.1)]
    exact W.mem d e hd
 ·by_cases h1:d = p∧e = x
  ·rw [h1.2]; exact xn
  ·by_cases h2:d = x∧e = p
   ·rw [h2.2]; exact pn
   ·exact W.rg d e hd ((fh d e h1 h2).mp hN)
end Fw
end
section
namespace Fw
open PySem L2 Gm
def Tw (L:List (List Int)) (a b:Nat) (p q:Nat):Prop:=(∃ l,L[p]? = some l∧(q:Int)∈l)∧¬ ((p = a∧q = b)∨(p = b∧q = a))
theorem Tw.Ci {L:List (List Int)} {a b:Nat} (m:aA L) (ha:a < L.length) (hb:b < L.length) (ne:a≠b):Net L.length (Tw L a b) a b:=by
 have rg:∀ p q,Tw L a b p q→p < L.length∧q < L.length:=fun p q ⟨⟨l,h1,h2⟩,_⟩=>⟨(List.getElem?_eq_some_iff.mp h1).1,by have:=(m.rg p l h1 _ h2).2.1; omega⟩
 refine ⟨fun p q h=>?_,fun p ⟨⟨l,h1,h2⟩,_⟩=>(m.rg p l h1 _ h2).2.2 rfl,rg,fun h=>h.2 (.inl ⟨rfl,rfl⟩),ha,hb,ne⟩
 have hq:=(rg p q h).2
 obtain ⟨⟨l,h1,h2⟩,h3⟩:=h
 refine ⟨⟨L[q],List.getElem?_eq_getElem hq,m.sy p l h1 _ h2 q rfl _ (List.getElem?_eq_getElem hq)⟩,fun z=>h3 ?_⟩
 rcases z with ⟨z1,z2⟩ | ⟨z1,z2⟩
 ·exact .inr ⟨z2,z1⟩
 ·exact .inl ⟨z2,z1⟩
def gn (f:Flow) (l:List Int) (x:Nat):List Int:=l.filter fun v=>f.F x v.toNat
theorem ju {α : Type} {q : α→Bool} {y : α}:∀ {l:List α},l.Nodup→y∈l→q y = true→(∀ z∈l,q z = true→z = y)→l.filter q = [y]
 | [],_,h,_,_=>by cases h
 | x :: l,nd,h,hq,un=>by
  rw [List.nodup_cons] at nd
  by_cases e:x = y
  ·subst e
   rw [List.filter_cons,if_pos hq]
   congr 1
   rw [List.filter_eq_nil_iff]
   intro z hz c
   exact nd.1 (un z (.tail _ hz) c▸hz)
  ·have hl:y∈l:=(List.mem_cons.mp h).resolve_left fun z=>e z.symm
   have:¬ q x = true:=fun c=>e (un x (.head _) c)
   rw [List.filter_cons,if_neg this]
   exact ju nd.2 hl hq fun z hz=>un z (.tail _ hz)
section
variable {n:Nat} {T:Nat→Nat→Prop} {a b:Nat} {i:Int} {f:Flow}
structure Rd (f:Flow) (a b:Nat) (rd:List Nat):Prop where
 len:2≤rd.length
 hd:rd[0]? = some a
 nd:rd.Nodup
 go:∀ (j u v:Nat),rd[j]? = some u→rd[j + 1]? = some v→f.F u v = true
 nb:∀ j,j + 1 < rd.length→rd[j]?≠some b
theorem Rd.start (F:Fl n T a b i f) (N:Net n T a b) {c:Nat} (h:f.F a c = true):Rd f a b [a,c]:=by
 have ac:a≠c:=fun z=>N.ro a (by have:=F.gK _ _ h; rwa [← z] at this)
 refine ⟨by simp,rfl,by simp [ac],fun j u v h1 h2=>?_,fun j hj=>?_⟩
 ·cases j with
  | zero=>injection h1 with h1; injection h2 with h2; rw [← h1,← h2]; exact h
  | succ j=>simp at h2
 ·have:j = 0:=by simp at hj; omega
  subst this
  intro z
  injection z with z
  exact N.ne z
theorem Rd.last (R:Rd f a b rd) {x:Nat} (hx:rd[rd.length - 1]? = some x):∃ u,f.F u x = true:=by
 have:=R.len
 obtain ⟨u,hu⟩:∃ u,rd[rd.length - 2]? = some u:=⟨_,List.getElem?_eq_getElem (by omega)⟩
 exact ⟨u,R.go _ _ _ hu (by rw [show rd.length - 2 + 1 = rd.length - 1 by omega]; exact hx)⟩
theorem Rd.step (F:Fl n T a b i f) (N:Net n T a b) {rd:List Nat} (R:Rd f a b rd) {x y:Nat} (hx:rd[rd.length - 1]? = some x) (xb:x≠b) (h:f.F x y = true):Rd f a b (rd ++ [y]):=by
 have l2:=R.len
 have ny:y∉rd:=fun hy=>by
  obtain ⟨j,hj⟩:=List.mem_iff_getElem?.mp hy
  have jl:=(List.getElem?_eq_some_iff.mp hj).1
  cases j with
  | zero=>
   rw [R.hd] at hj
   injection hj with hj
   subst hj
   rw [F.sM N] at h
   cases h
  | succ j=>
   obtain ⟨u,hu⟩:∃ u,rd[j]? = some u:=⟨_,List.getElem?_eq_getElem (by omega)⟩
   have h1:=R.go _ _ _ hu hj
   by_cases yb:y = b
   ·subst yb
    by_cases jj:j + 1 + 1 < rd.length
    ·exact R.nb _ jj hj
    ·have:j + 1 = rd.length - 1:=by omega
     rw [this,hx] at hj
     injection hj with hj
     exact xb hj
   ·have:=F.wC N yb h1 h
    subst this
    have e1:=List.getElem?_eq_some_iff.mp hu
    have e2:=List.getElem?_eq_some_iff.mp hx
    have:=(List.getElem_inj R.nd).mp (e1.2.trans e2.2.symm)
    omega
 refine ⟨by rw [List.length_append]; omega,by rw [List.getElem?_append_left (by omega)]; exact R.hd,?_,fun j u v h1 h2=>?_,fun j hj=>?_⟩
 ·refine List.nodup_append.mpr ⟨R.nd,by simp,fun d hd d' vm z=>ny ?_⟩
  rw [← List.mem_singleton.mp vm,← z]; exact hd
 ·by_cases hl:j + 1 < rd.length
  ·rw [List.getElem?_append_left (by omega)] at h1 h2
   exact R.go j u v h1 h2
  ·rw [List.getElem?_append_right (by omega)] at h2
   have:j + 1 - rd.length = 0:=by
    have:=(List.getElem?_eq_some_iff.mp h2).1
    rw [List.length_singleton] at this
    omega
   rw [this] at h2
   injection h2 with h2
   subst h2
   rw [List.getElem?_append_left (by omega),show j = rd.length - 1 by omega,hx] at h1
   injection h1 with h1
   subst h1
   exact h
 ·rw [List.length_append,List.length_singleton] at hj
  rw [List.getElem?_append_left (by omega)]
  by_cases hl:j + 1 < rd.length
  ·exact R.nb j hl
  ·rw [show j = rd.length - 1 by omega,hx]
   intro z
   injection z with z
   exact xb z
theorem Rd.rg (F:Fl n T a b i f) (N:Net n T a b) {rd:List Nat} (R:Rd f a b rd):∀ x∈rd,x < n:=fun x hx=>by
 obtain ⟨j,hj⟩:=List.mem_iff_getElem?.mp hx
 cases j with
 | zero=>rw [R.hd] at hj; injection hj with hj; rw [← hj]; exact N.ha
 | succ j=>
  have jl:=(List.getElem?_eq_some_iff.mp hj).1
  obtain ⟨u,hu⟩:∃ u,rd[j]? = some u:=⟨_,List.getElem?_eq_getElem (by omega)⟩
  exact (N.rg _ _ (F.gK _ _ (R.go _ _ _ hu hj))).2
theorem Rd.oA (F:Fl n T a b i f) (N:Net n T a b) {rd:List Nat} (R:Rd f a b rd):rd.length≤n:=by
 have:=R.nd.length_le_of_subset (l₂:=List.range n) fun x hx=>List.mem_range.mpr (R.rg F N x hx)
 simpa using this
end
theorem yR {l:List Int} {n:Nat} {y:Int} (hl:l.length = n + 1) (h:l[n]? = some y):jz (l.map V.int) (-1) = some (V.int y):=by
 have e:l = l.take n ++ [y]:=by
  have:=List.take_succ (l:=l) (i:=n)
  rw [h,List.take_of_length_le (by omega)] at this
  exact this
 rw [e,List.map_append]
 exact tZ _ _
theorem b9.congr {H:Hp} {wy:Addr} {n:Nat} {N N':ab→ab→Prop} {aj:List (List Key×V)} {g:ab→Addr} {ks:ab→List ab} (W:b9 H wy n N aj g ks) (h:∀ d e,d.1 < n→(N d e↔N' d e)):b9 H wy n N' aj g ks:=
 ⟨W.top,W.val,W.row,W.nd,fun d e hd=>(W.mem d e hd).trans (h d e hd),fun d e hd hN=>W.rg d e hd ((h d e hd).mpr hN),W.inj,W.off⟩
theorem b9.put {H:Hp} {wy:Addr} {n:Nat} {N:ab→ab→Prop} {aj:List (List Key×V)} {g:ab→Addr} {ks:ab→List ab} (W:b9 H wy n N aj g ks) {x p:ab} (xn:x.1 < n) (pn:p.1 < n) :
  ∃ eW,b9 (upd H (g x) (.dT (putK (kR (ks x) fun _=>V.bl true) (kd p) (V.bl true)))) wy n (fun d e=>N d e∨(d = x∧e = p)) aj g eW:=by
 obtain ⟨lx,ex,nx,mx⟩:∃ lx:List ab,putK (kR (ks x) fun _=>V.bl true) (kd p) (V.bl true) = kR lx (fun _=>V.bl true)∧lx.Nodup∧∀ e,e∈lx↔e∈ks x∨e = p:=by
  by_cases h:p∈ks x
  ·exact ⟨ks x,je h,W.nd x xn,fun e=>⟨.inl,fun z=>z.elim id fun z=>z▸h⟩⟩
  ·refine ⟨ks x ++ [p],jf h,?_,fun e=>by simp⟩
   refine List.nodup_append.mpr ⟨W.nd x xn,by simp,fun d hd d' vm z=>h ?_⟩
   rw [← List.mem_singleton.mp vm,← z]; exact hd
 rw [ex]
 refine ⟨fun d=>if d = x then lx else ks d,(ai (W.off x xn).symm).trans W.top,W.val,fun d hd=>?_,fun d hd=>?_,fun d e hd=>?_,fun d e hd hN=>?_,W.inj,W.off⟩
 ·by_cases h1:d = x
  ·rw [if_pos h1,h1]; exact af
  ·rw [if_neg h1,ai (fun z=>h1 (W.inj _ _ hd xn z))]; exact W.row d hd
 ·by_cases h1:d = x
  ·rw [if_pos h1]; exact nx
  ·rw [if_neg h1]; exact W.nd d hd
 ·by_cases h1:d = x
  ·rw [if_pos h1,mx,h1,W.mem x e xn]
   exact ⟨fun z=>z.imp id fun y=>⟨rfl,y⟩,fun z=>z.imp id And.right⟩
  ·rw [if_neg h1,W.mem d e hd]
   exact ⟨.inl,fun z=>z.resolve_right fun y=>h1 y.1⟩
 ·rcases hN with z | z
  ·exact W.rg d e hd z
  ·rw [z.2]; exact pn
def N0 (d e:ab):Prop:=d.2 = false∧e = (d.1,true)
theorem b9.lay {H H':Hp} {wy:Addr} {i:Nat} {dl:List ab} {g:ab→Addr} {ks:ab→List ab} (W:b9 H wy i N0 (kR dl fun d=>.ref (g d)) g ks) (yx:∀ d,d∈dl↔d.1 < i) {p1 p2:Addr}
  (h0:∀ b,b≠wy→∀ o,H b = some o→H' b = some o) (f1:H p1 = none) (f2:H p2 = none) (Ck:p1≠p2) (h1:H' p1 = some (.dT (kR [(i,true)] fun _=>.bl true))) (h2:H' p2 = some (.dT (kR [] fun _=>.bl true)))
  (ht:H' wy = some (.dT (putK (putK (kR dl fun d=>.ref (g d)) (kd (i,false)) (.ref p1)) (kd (i,true)) (.ref p2)))) :
  ∃ Bm g' eW,(∀ d,d∈Bm↔d.1 < i + 1)∧Bm.length = dl.length + 2∧b9 H' wy (i + 1) N0 (kR Bm fun d=>.ref (g' d)) g' eW∧∀ d:ab,d.1 < i + 1→g' d = p1∨g' d = p2∨(d.1 < i∧g' d = g d):=by
 have n1:(i,false)∉dl:=fun z=>by have:=(yx _).mp z; exact absurd this (Nat.lt_irrefl _)
 have n2:((i,true):ab)∉dl ++ [(i,false)]:=fun z=>by
  rcases List.mem_append.mp z with z | z
  ·have:=(yx _).mp z; exact absurd this (Nat.lt_irrefl _)
  ·have:=List.mem_singleton.mp z; injection this with _ y; cases y
 rw [jg n1,jg n2] at ht
 let g':ab→Addr:=fun d=>if d = (i,true) then p2 else if d = (i,false) then p1 else g d
 have eg:(fun e:ab=>if e = (i,true) then V.ref p2 else if e = (i,false) then V.ref p1 else V.ref (g e)) = fun e=>V.ref (g' e):=by
  funext e
  show _ = V.ref (if e = (i,true) then p2 else if e = (i,false) then p1 else g e)
  split
  ·rfl
  ·split <;> rfl
 rw [eg] at ht
 have two:∀ d:ab,d.1 < i + 1→d = (i,true)∨d = (i,false)∨d.1 < i:=fun d hd=>by
  obtain ⟨p,s⟩:=d
  by_cases e:p = i
  ·subst e; cases s
   ·exact .inr (.inl rfl)
   ·exact .inl rfl
  ·exact .inr (.inr (by show p < i; have:p < i + 1:=hd; omega))
 have gt:g' (i,true) = p2:=if_pos rfl
 have gf:g' (i,false) = p1:=(if_neg (by simp)).trans (if_pos rfl)
 have go:∀ d:ab,d.1 < i→g' d = g d:=fun d hd=>(if_neg (fun z=>by rw [z] at hd; exact absurd hd (Nat.lt_irrefl _))).trans (if_neg (fun z=>by rw [z] at hd; exact absurd hd (Nat.lt_irrefl _)))
 have r1:∀ d:ab,d.1 < i→g d≠p1:=fun d hd z=>by have:=W.row d hd; rw [z,f1] at this; cases this
 have r2:∀ d:ab,d.1 < i→g d≠p2:=fun d hd z=>by have:=W.row d hd; rw [z,f2] at this; cases this
 have w1:p1≠wy:=fun z=>by rw [z,W.top] at f1; cases f1
 have w2:p2≠wy:=fun z=>by rw [z,W.top] at f2; cases f2
 have hm:∀ d,d∈dl ++ [(i,false)] ++ [(i,true)]↔d.1 < i + 1:=fun d=>by
  rw [List.mem_append,List.mem_append,List.mem_singleton,List.mem_singleton,yx]
  constructor
  ·rintro ((z | z) | z)
   ·omega
   ·rw [z]; exact Nat.lt_succ_self _
   ·rw [z]; exact Nat.lt_succ_self _
  ·intro z
   rcases two d z with y | y | y
   ·exact .inr y
   ·exact .inl (.inr y)
   ·exact .inl (.inl y)
 refine ⟨dl ++ [(i,false)] ++ [(i,true)],g',fun d=>if d = (i,true) then [] else if d = (i,false) then [(i,true)] else ks d,hm,by simp,⟨ht,fun d hd=>?_,fun d hd=>?_,fun d hd=>?_,fun d e hd=>?_,fun d e hd hN=>?_,fun d e hd he hg=>?_,fun d hd=>?_⟩,fun d hd=>?_⟩
 ·rw [gW,if_pos ((hm d).mpr hd)]
 ·rcases two d hd with z | z | z
  ·rw [z,gt,if_pos rfl]; exact h2
  ·rw [z,gf,if_neg (by simp),if_pos rfl]; exact h1
  ·rw [go d z,if_neg (fun y=>by rw [y] at z; exact absurd z (Nat.lt_irrefl _)),if_neg (fun y=>by rw [y] at z; exact absurd z (Nat.lt_irrefl _))]
   exact h0 _ (W.off d z) _ (W.row d z)
 ·rcases two d hd with z | z | z
  ·rw [if_pos z]; simp
  ·rw [z,if_neg (by simp),if_pos rfl]; simp
  ·rw [if_neg (fun y=>by rw [y] at z; exact absurd z (Nat.lt_irrefl _)),if_neg (fun y=>by rw [y] at z; exact absurd z (Nat.lt_irrefl _))]
   exact W.nd d z
 ·rcases two d hd with z | z | z
  ·rw [if_pos z,z]; simp [N0]
  ·rw [z,if_neg (by simp),if_pos rfl]; simp [N0]
  ·rw [if_neg (fun y=>by rw [y] at z; exact absurd z (Nat.lt_irrefl _)),if_neg (fun y=>by rw [y] at z; exact absurd z (Nat.lt_irrefl _))]
   exact W.mem d e z
 ·rw [hN.2]; exact hd
 ·rcases two d hd with z | z | z <;> rcases two e he with y | y | y
  ·rw [z,y]
  ·rw [z,y,gt,gf] at hg; exact absurd hg.symm Ck
  ·rw [z,gt,go e y] at hg; exact absurd hg.symm (r2 e y)
  ·rw [z,y,gt,gf] at hg; exact absurd hg Ck
  ·rw [z,y]
  ·rw [z,gf,go e y] at hg; exact absurd hg.symm (r1 e y)
  ·rw [y,gt,go d z] at hg; exact absurd hg (r2 d z)
  ·rw [y,gf,go d z] at hg; exact absurd hg (r1 d z)
  ·rw [go d z,go e y] at hg; exact W.inj d e z y hg
 ·rcases two d hd with z | z | z
  ·rw [z,gt]; exact w2
  ·rw [z,gf]; exact w1
  ·rw [go d z]; exact W.off d z
 ·rcases two d hd with z | z | z
  ·rw [z]; exact .inr (.inl gt)
  ·rw [z]; exact .inl gf
  ·exact .inr (.inr ⟨z,go d z⟩)
def Nk (T:List (Int×Int)) (a b k:Nat) (d e:ab):Prop:=N0 d e∨(d.2 = true∧e.2 = false∧(((d.1:Int),(e.1:Int))∈T.take k∨((e.1:Int),(d.1:Int))∈T.take k)∧¬ ((d.1 = a∧e.1 = b)∨(d.1 = b∧e.1 = a)))
theorem vJ {T:List (Int×Int)} {a b:Nat} (d e:ab):N0 d e↔Nk T a b 0 d e:=by
 unfold Nk
 simp
theorem fk {α : Type} {T:List α} {k:Nat} {t x : α} (h:T[k]? = some t):x∈T.take (k + 1)↔x∈T.take k∨x = t:=by
 rw [List.take_add_one,h]
 simp
theorem vK {T:List (Int×Int)} {a b k u v:Nat} (h:T[k]? = some ((u:Int),(v:Int))) (ex:(u = a∧v = b)∨(u = b∧v = a)) (d e:ab):Nk T a b k d e↔Nk T a b (k + 1) d e:=by
 unfold Nk
 rw [fk h,fk h]
 refine or_congr Iff.rfl (and_congr Iff.rfl (and_congr Iff.rfl ⟨fun z=>⟨z.1.imp .inl .inl,z.2⟩,fun z=>⟨?_,z.2⟩⟩))
 rcases z.1 with (y | y) | (y | y)
 ·exact .inl y
 ·injection y with y1 y2; exact absurd (by omega) z.2
 ·exact .inr y
 ·injection y with y1 y2; exact absurd (by omega) z.2
theorem yY {T:List (Int×Int)} {a b k u v:Nat} (h:T[k]? = some ((u:Int),(v:Int))) (ex:¬ ((u = a∧v = b)∨(u = b∧v = a))) (d e:ab):((Nk T a b k d e∨(d = (u,true)∧e = (v,false)))∨(d = (v,true)∧e = (u,false)))↔Nk T a b (k + 1) d e:=by
 unfold Nk
 rw [fk h,fk h]
 obtain ⟨p,s⟩:=d
 obtain ⟨q,t⟩:=e
 constructor
 ·rintro ((z | z) | z)
  ·rcases z with z | ⟨z1,z2,z3,z4⟩
   ·exact .inl z
   ·exact .inr ⟨z1,z2,z3.imp .inl .inl,z4⟩
  ·obtain ⟨z1,z2⟩:=z
   injection z1 with z1 z3
   injection z2 with z2 z4
   subst z1; subst z2; subst z3; subst z4
   exact .inr ⟨rfl,rfl,.inl (.inr rfl),ex⟩
  ·obtain ⟨z1,z2⟩:=z
   injection z1 with z1 z3
   injection z2 with z2 z4
   subst z1; subst z2; subst z3; subst z4
   refine .inr ⟨rfl,rfl,.inr (.inr rfl),fun z=>ex ?_⟩
   dsimp only at z
   omega
 ·rintro (z | ⟨z1,z2,z3,z4⟩)
  ·exact .inl (.inl (.inl z))
  ·dsimp only at z1 z2 z3
   subst z1; subst z2
   rcases z3 with (y | y) | (y | y)
   ·exact .inl (.inl (.inr ⟨rfl,rfl,.inl y,z4⟩))
   ·injection y with y1 y2
    have:p = u:=by omega
    have:q = v:=by omega
    subst p; subst q
    exact .inl (.inr ⟨rfl,rfl⟩)
   ·exact .inl (.inl (.inr ⟨rfl,rfl,.inr y,z4⟩))
   ·injection y with y1 y2
    have:q = u:=by omega
    have:p = v:=by omega
    subst p; subst q
    exact .inr ⟨rfl,rfl⟩
def f0:Flow:=⟨fun _=>false,fun _ _=>false⟩
theorem yX {L:List (List Int)} {a b:Nat} (m:aA L) (d e:ab) (hd:d.1 < L.length):Nk (cT L L.length) a b (cT L L.length).length d e↔Res (Tw L a b) f0 d e:=by
 unfold Nk
 rw [List.take_length]
 obtain ⟨p,s⟩:=d
 obtain ⟨q,t⟩:=e
 have hp:p < L.length:=hd
 have row:rowOf L (p:Int) = L[p]:=gQ (List.getElem?_eq_getElem hp)
 have key:((((p:Int),(q:Int))∈cT L L.length∨((q:Int),(p:Int))∈cT L L.length))↔∃ l,L[p]? = some l∧(q:Int)∈l:=by
  rw [cN (Nat.le_refl _),cN (Nat.le_refl _)]
  dsimp only
  constructor
  ·rintro (z | z)
   ·exact ⟨L[p],List.getElem?_eq_getElem hp,by rw [← row]; exact z.2.2.2.2⟩
   ·have hq:q < L.length:=by omega
    have xA:rowOf L (q:Int) = L[q]:=gQ (List.getElem?_eq_getElem hq)
    rw [xA] at z
    exact ⟨L[p],List.getElem?_eq_getElem hp,m.sy q _ (List.getElem?_eq_getElem hq) _ z.2.2.2.2 p rfl _ (List.getElem?_eq_getElem hp)⟩
  ·rintro ⟨l,h1,h2⟩
   have r:=m.rg p l h1 _ h2
   have hq:q < L.length:=by omega
   have el:l = L[p]:=by rw [List.getElem?_eq_getElem hp] at h1; injection h1 with h1; exact h1.symm
   by_cases c:p < q
   ·exact .inl ⟨by omega,by omega,by omega,by omega,by rw [row,← el]; exact h2⟩
   ·have xA:rowOf L (q:Int) = L[q]:=gQ (List.getElem?_eq_getElem hq)
    exact .inr ⟨by omega,by omega,by omega,by omega,by rw [xA]; exact m.sy p l h1 _ h2 q rfl _ (List.getElem?_eq_getElem hq)⟩
 cases s <;> cases t
 ·simp [N0,Res]
 ·rw [b5]
  simp [N0,f0]
  exact eq_comm
 ·rw [cU]
  dsimp only
  rw [key]
  unfold Tw N0
  simp [f0]
 ·simp [N0,Res]
theorem Bg {n:Nat} {T:Nat→Nat→Prop} {a b:Nat}:Fl n T a b ((0:Nat):Int) f0:=by
 refine ⟨fun u v h=>absurd h Bool.false_ne_true,rfl,rfl,fun x _=>?_⟩
 obtain ⟨p,s⟩:=x
 have z:Dt.sm n (fun _=>bi false) = 0:=Dt.fm fun i _=>rfl
 cases s
 ·show Dt.sm n (fun u=>bi (f0.F u p)) - bi (f0.U p) = _
  rw [show (fun u=>bi (f0.F u p)) = fun _=>bi false from rfl,z]
  show (0:Int) - 0 = _
  grind
 ·show bi (f0.U p) - Dt.sm n (fun v=>bi (f0.F p v)) = _
  rw [show (fun u=>bi (f0.F p u)) = fun _=>bi false from rfl,z]
  show (0:Int) - 0 = _
  grind
theorem fP (c:Nat→Bool) (j:Nat):(List.range (j + 1)).filter c = (List.range j).filter c ++ if c j = true then [j] else []:=by
 rw [List.range_succ,List.filter_append]
 congr 1
 cases h:c j <;> simp [h]
theorem qz (c:Nat→Bool) (j:Nat):((List.range j).filter c).length≤j:=Nat.le_trans (List.length_filter_le _ _) (by simp)
def lenOf (v:Option V) (H:Hp):Nat:=
 match v with
 | some (.ref c)=>(match H c with | some (.lst xs)=>xs.length | _=>0)
 | _=>0
theorem nj {H:Hp} {c:Addr} {xs:List V} (h:H c = some (.lst xs)):lenOf (some (.ref c)) H = xs.length:=by
 unfold lenOf
 dsimp only
 rw [h]
end Fw
end
section
namespace Fw
open PySem L2 Gm
theorem rP {α : Type} [DecidableEq α] {A B:List α} (nd:A.Nodup) (sub:∀ x∈A,x∈B) (le:B.length≤A.length):∀ x∈B,x∈A:=fun x hx=>by
 refine Classical.byContradiction fun nx=>?_
 have h:=(List.nodup_cons.mpr ⟨nx,nd⟩).length_le_of_subset (l₂:=B) fun y hy=>by
  rcases List.mem_cons.mp hy with z | z
  ·rw [z]; exact hx
  ·exact sub y z
 rw [List.length_cons] at h
 omega
section
variable {L:List (List Int)}
theorem cP.from {S:List Int} {s x y:Int} (h:cP L S s x) (k:cP L S x y):cP L S s y:=by
 induction k with
 | here=>exact h
 | step _ h1 h2 h3 ih=>exact .step ih h1 h2 h3
theorem cP.off {S:List Int} {s x:Int} (h:cP L S s x) (hs:s∉S):x∉S:=by
 cases h with
 | here=>exact hs
 | step _ _ _ h=>exact h
theorem cP.back (m:aA L) {S:List Int} {s x:Int} (h:cP L S s x) (hs:s∉S) (r:0≤s∧s < L.length):cP L S x s:=by
 induction h with
 | here=>exact .here
 | @step i l x h1 h2 h3 h4 ih=>
  have rx:=m.rg i l h2 x h3
  obtain ⟨xn,rfl⟩:=Int.eq_ofNat_of_zero_le rx.1
  have hx:xn < L.length:=by omega
  have h5:=m.sy i l h2 _ h3 xn rfl _ (List.getElem?_eq_getElem hx)
  exact cP.from (cP.step (i:=xn) .here (List.getElem?_eq_getElem hx) h5 (cP.off h1 hs)) ih
theorem xI (m:aA L) {S:List Int} {a b:Int} (ha:0≤a∧a < L.length) (hb:0≤b∧b < L.length) (na:a∉S) (nb:b∉S) (h:¬ cP L S a b):iZ L S = true:=by
 have ma:a∈left L.length S:=List.mem_filter.mpr ⟨dw.mpr ha,by simpa using na⟩
 have mb:b∈left L.length S:=List.mem_filter.mpr ⟨dw.mpr hb,by simpa using nb⟩
 cases e:left L.length S with
 | nil=>rw [e] at ma; cases ma
 | cons s r=>
  rw [gq e]
  have hs:=fF (n:=L.length) (S:=S) (s:=s) (by rw [e]; exact .head _)
  refine decide_eq_true (Nat.lt_of_not_le fun le=>h ?_)
  have sub:∀ x∈(cg L.length).filter (fun x=>@decide (cP L S s x) (Classical.propDecidable _)),x∈s :: r:=fun x hx=>by
   obtain ⟨h1,h2⟩:=List.mem_filter.mp hx
   rw [← e]
   have h2:cP L S s x:=by simpa using h2
   exact List.mem_filter.mpr ⟨h1,by simpa using cP.off h2 hs.2.2⟩
  have nd:((cg L.length).filter (fun x=>@decide (cP L S s x) (Classical.propDecidable _))).Nodup:=(ip _).filter _
  have all:∀ x∈s :: r,cP L S s x:=fun x hx=>by
   have:=rP nd sub le x hx
   simpa using (List.mem_filter.mp this).2
  have ra:=all a (by rw [← e]; exact ma)
  have rb:=all b (by rw [← e]; exact mb)
  exact cP.from (cP.back m ra hs.2.2 ⟨hs.1,hs.2.1⟩) rb
theorem uP (m:aA L) {S:List Int} (h:iZ L S = true):∃ a b:Int,(0≤a∧a < L.length)∧(0≤b∧b < L.length)∧a∉S∧b∉S∧¬ cP L S a b:=by
 cases e:left L.length S with
 | nil=>rw [pI e] at h; cases h
 | cons s r=>
  rw [gq e] at h
  have h:=of_decide_eq_true h
  have hs:=fF (n:=L.length) (S:=S) (s:=s) (by rw [e]; exact .head _)
  refine Classical.byContradiction fun no=>?_
  have all:∀ x∈s :: r,cP L S s x:=fun x hx=>by
   have pV:=fF (n:=L.length) (S:=S) (s:=x) (by rw [e]; exact hx)
   exact Classical.byContradiction fun nx=>no ⟨s,x,⟨hs.1,hs.2.1⟩,⟨pV.1,pV.2.1⟩,hs.2.2,pV.2.2,nx⟩
  have nd:(s :: r).Nodup:=by rw [← e]; exact (ip _).filter _
  have:=nd.length_le_of_subset (l₂:=(cg L.length).filter (fun x=>@decide (cP L S s x) (Classical.propDecidable _))) fun x hx=>by
   have pV:=fF (n:=L.length) (S:=S) (s:=x) (by rw [e]; exact hx)
   exact List.mem_filter.mpr ⟨dw.mpr ⟨pV.1,pV.2.1⟩,by simpa using all x hx⟩
  unfold rn at h
  omega
theorem cP.mem {S S':List Int} (h:∀ x,x∈S↔x∈S') {s x:Int} (r:cP L S s x):cP L S' s x:=by
 induction r with
 | here=>exact .here
 | step _ h1 h2 h3 ih=>exact .step ih h1 h2 fun z=>h3 ((h _).mpr z)
theorem mK (n:Nat):∀ k,[]∈aS n k
 | 0=>.head _
 | k + 1=>List.mem_append_left _ (mK n k)
theorem mJ {n x:Nat} (h:x < n):∀ k,[(x:Int)]∈aS n k
 | 0=>.tail _ (List.mem_map.mpr ⟨_,dw.mpr ⟨by omega,by omega⟩,rfl⟩)
 | k + 1=>List.mem_append_left _ (mJ h k)
theorem iT {n x y:Nat} (h:x < y) (hy:y < n):∀ k,x < k→[(x:Int),(y:Int)]∈aS n k
 | 0,hk=>absurd hk (Nat.not_lt_zero _)
 | k + 1,hk=>by
  by_cases e:x = k
  ·subst e
   refine List.mem_append_right _ (List.mem_map.mpr ⟨y - (x + 1),List.mem_range.mpr (by omega),?_⟩)
   rw [show (x:Int) + 1 + ((y - (x + 1):Nat):Int) = (y:Int) by omega]
  ·exact List.mem_append_left _ (iT h hy k (by omega))
theorem j6 (n:Nat):∀ k,(aS n k).Pairwise fun a b=>a.length≤b.length
 | 0=>by
  refine List.pairwise_cons.mpr ⟨fun _ _=>Nat.zero_le _,List.pairwise_map.mpr ?_⟩
  exact List.Pairwise.imp (fun _=>Nat.le_refl _) (ip n)
 | k + 1=>by
  refine List.pairwise_append.mpr ⟨j6 n k,?_,fun a ha b hb=>?_⟩
  ·unfold twos
   exact List.pairwise_map.mpr (List.Pairwise.imp (fun _=>Nat.le_refl _) (List.nodup_range (n:=n - (k + 1))))
  ·obtain ⟨j,_,rfl⟩:=List.mem_map.mp hb
   exact eh n k a ha
theorem jt {p:List Int→Bool}:∀ {T:List (List Int)} {S S':List Int},T.Pairwise (fun a b=>a.length≤b.length)→T.find? p = some S→S'∈T→p S' = true→S.length≤S'.length
 | [],_,_,_,h,_,_=>by cases h
 | a :: T,S,S',pw,h,hm,hp=>by
  obtain ⟨h1,h2⟩:=List.pairwise_cons.mp pw
  rw [List.find?_cons] at h
  cases e:p a with
  | true=>
   rw [e] at h
   injection h with h
   subst h
   rcases List.mem_cons.mp hm with z | z
   ·rw [z]; exact Nat.le_refl _
   ·exact h1 _ z
  | false=>
   rw [e] at h
   rcases List.mem_cons.mp hm with z | z
   ·rw [z,e] at hp; cases hp
   ·exact jt h2 h z hp
theorem rT {n:Nat} {S:List Nat} (nd:S.Nodup) (rg:∀ x∈S,x < n) (l:S.length≤2):∃ S'∈aS n n,S'.length = S.length∧∀ x:Int,x∈S'↔x∈S.map fun y:Nat=>(y:Int):=by
 match S,nd,rg,l with
 | [],_,_,_=>exact ⟨[],mK n n,rfl,fun x=>Iff.rfl⟩
 | [x],_,rg,_=>exact ⟨[(x:Int)],mJ (rg x (.head _)) n,rfl,fun _=>Iff.rfl⟩
 | [x,y],nd,rg,_=>
  have hx:=rg x (.head _)
  have hy:=rg y (.tail _ (.head _))
  have ne:x≠y:=fun z=>by subst z; simp at nd
  by_cases c:x < y
  ·exact ⟨[(x:Int),(y:Int)],iT c hy n hx,rfl,fun _=>Iff.rfl⟩
  ·refine ⟨[(y:Int),(x:Int)],iT (by omega) hx n hy,rfl,fun z=>?_⟩
   simp
   exact or_comm
theorem fu (m:aA L) {S:List Nat} (nd:S.Nodup) (rg:∀ x∈S,x < L.length) (l:S.length≤2) {a b:Nat} (ha:a < L.length) (hb:b < L.length) (na:a∉S) (nb:b∉S) (h:¬ cP L (S.map fun y:Nat=>(y:Int)) (a:Int) (b:Int)):∃ S'∈aS L.length L.length,S'.length = S.length∧iZ L S' = true:=by
 obtain ⟨S',h1,h2,h3⟩:=rT nd rg l
 have off:∀ c:Nat,c∉S→(c:Int)∉S':=fun c hc z=>by
  obtain ⟨y,hy,e⟩:=List.mem_map.mp ((h3 _).mp z)
  have:y = c:=by omega
  exact hc (this▸hy)
 exact ⟨S',h1,h2,xI m ⟨by omega,by omega⟩ ⟨by omega,by omega⟩ (off a na) (off b nb) fun z=>h (cP.mem h3 z)⟩
theorem lL (m:aA L) {a b:Nat} {l:List Int} (hl:L[a]? = some l) (hb:b < L.length) (ou:a≠b) {f:Flow} {i:Nat} {D:ab→Bool} {S:List Nat} (hi:i < if (b:Int)∈l then 2 else 3) (F:Fl L.length (Tw L a b) a b (i:Int) f)
  (da:D (a,true) = true) (db:D (b,false) = false) (tT:D (b,true) = false) (cl:∀ d e,D d = true→Res (Tw L a b) f d e→D e = true) (hS:S = (List.range L.length).filter (fun p=>D (p,false) && !D (p,true))) :
  (3 < L.length→∃ S'∈aS L.length L.length,iZ L S' = true)∧((b:Int)∉l→S.length≤2∧∃ S'∈aS L.length L.length,S'.length = S.length∧iZ L S' = true):=by
 have ha:a < L.length:=(List.getElem?_eq_some_iff.mp hl).1
 have N:=Tw.Ci m ha hb ou
 have len:(i:Int) = (S.length:Int):=by rw [F.cut N D da db cl,gO,hS]
 have mS:∀ x,x∈S↔x < L.length∧D (x,false) = true∧D (x,true) = false:=fun x=>by
  rw [hS,List.mem_filter,List.mem_range]
  simp
 have nd:S.Nodup:=by rw [hS]; exact List.nodup_range.filter _
 have rg:∀ x∈S,x < L.length:=fun x hx=>((mS x).mp hx).1
 have na:a∉S:=fun z=>by rw [((mS a).mp z).2.2] at da; cases da
 have nb:b∉S:=fun z=>by rw [((mS b).mp z).2.1] at db; cases db
 have go:∀ x y:Nat,D (x,true) = true→Tw L a b x y→y∉S→D (y,true) = true:=fun x y hx t hy=>by
  have h1:=cl _ _ hx (cU.mpr (.inl t))
  cases h2:D (y,true) with
  | true=>rfl
  | false=>exact absurd ((mS y).mpr ⟨(N.rg _ _ t).2,h1,h2⟩) hy
 have u5:∀ (A:List Nat) (y:Nat),(y:Int)∉A.map (fun y:Nat=>(y:Int))→y∉A:=fun A y h z=>h (List.mem_map.mpr ⟨y,z,rfl⟩)
 constructor
 ·intro n3
  by_cases hn:(b:Int)∈l
  ·rw [if_pos hn] at hi
   have lS:S.length≤1:=by omega
   obtain ⟨c,hc,ca,cb,cS⟩:∃ c,c < L.length∧c≠a∧c≠b∧c∉S:=by
    refine Classical.byContradiction fun no=>?_
    have:=(List.nodup_range (n:=L.length)).length_le_of_subset (l₂:=a :: b :: S) fun x hx=>by
     refine Classical.byContradiction fun nx=>no ⟨x,List.mem_range.mp hx,fun z=>nx (z▸.head _),fun z=>nx (z▸.tail _ (.head _)),fun z=>nx (.tail _ (.tail _ z))⟩
    simp at this
    omega
   cases dc:D (c,true) with
   | false=>
    -- a and c are parted by S and b
    obtain ⟨S',h1,_,h2⟩:=fu m (S:=b :: S) (List.nodup_cons.mpr ⟨nb,nd⟩) (fun x hx=>(List.mem_cons.mp hx).elim (fun z=>z▸hb) (rg x)) (by rw [List.length_cons]; omega) ha hc (fun z=>(List.mem_cons.mp z).elim ou na) (fun z=>(List.mem_cons.mp z).elim cb cS) fun r=>by
     have:∀ z:Int,cP L ((b :: S).map fun y:Nat=>(y:Int)) (a:Int) z→∀ y:Nat,z = y→D (y,true) = true:=fun z r=>by
      induction r with
      | here=>
           intro y e; have:y = a:=by omega
           rw [this]; exact da
      | @step j lj z h1 h2 h3 h4 ih=>
       intro y e
       subst e
       have hj:=ih j rfl
       have hy:=u5 _ _ h4
       have jb:j≠b:=fun z=>by rw [z,tT] at hj; cases hj
       refine go j y hj ⟨⟨lj,h2,h3⟩,fun z=>?_⟩ fun z=>hy (.tail _ z)
       rcases z with ⟨_,z⟩ | ⟨z,_⟩
       ·exact hy (z▸.head _)
       ·exact jb z
     rw [this _ r c rfl] at dc
     cases dc
    exact ⟨S',h1,h2⟩
   | true=>
    obtain ⟨S',h1,_,h2⟩:=fu m (S:=a :: S) (List.nodup_cons.mpr ⟨na,nd⟩) (fun x hx=>(List.mem_cons.mp hx).elim (fun z=>z▸ha) (rg x)) (by rw [List.length_cons]; omega) hb hc (fun z=>(List.mem_cons.mp z).elim (fun z=>ou z.symm) nb) (fun z=>(List.mem_cons.mp z).elim ca cS) fun r=>by
     have:∀ z:Int,cP L ((a :: S).map fun y:Nat=>(y:Int)) (b:Int) z→∀ y:Nat,z = y→y∉a :: S∧D (y,true) = false:=fun z r=>by
      induction r with
      | here=>
           intro y e; have:y = b:=by omega
           rw [this]; exact ⟨fun z=>(List.mem_cons.mp z).elim (fun z=>ou z.symm) nb,tT⟩
      | @step j lj z h1 h2 h3 h4 ih=>
       intro y e
       subst e
       obtain ⟨Mu,hj⟩:=ih j rfl
       have hy:=u5 _ _ h4
       refine ⟨hy,?_⟩
       cases dy:D (y,true) with
       | false=>rfl
       | true=>
        have ya:y≠a:=fun z=>hy (z▸.head _)
        have yb:y≠b:=fun z=>by rw [z,tT] at dy; cases dy
        have t:Tw L a b j y:=⟨⟨lj,h2,h3⟩,fun z=>by rcases z with ⟨_,z⟩ | ⟨_,z⟩; exact yb z; exact ya z⟩
        rw [go y j dy (N.sym _ _ t) fun z=>Mu (.tail _ z)] at hj
        cases hj
     rw [(this _ r c rfl).2] at dc
     cases dc
    exact ⟨S',h1,h2⟩
  ·obtain ⟨S',h1,_,h2⟩:=fu m nd rg (by rw [if_neg hn] at hi; omega) ha hb na nb fun r=>by
    have:∀ z:Int,cP L (S.map fun y:Nat=>(y:Int)) (a:Int) z→∀ y:Nat,z = y→D (y,true) = true:=fun z r=>by
     induction r with
     | here=>
          intro y e; have:y = a:=by omega
          rw [this]; exact da
     | @step j lj z h1 h2 h3 h4 ih=>
      intro y e
      subst e
      have hj:=ih j rfl
      have jb:j≠b:=fun z=>by rw [z,tT] at hj; cases hj
      refine go j y hj ⟨⟨lj,h2,h3⟩,fun z=>?_⟩ (u5 _ _ h4)
      rcases z with ⟨z1,z2⟩ | ⟨z,_⟩
      ·subst z1; subst z2; rw [hl] at h2; injection h2 with h2; subst h2; exact hn h3
      ·exact jb z
    rw [this _ r b rfl] at tT
    cases tT
   exact ⟨S',h1,h2⟩
 ·intro hn
  rw [if_neg hn] at hi
  refine ⟨by omega,fu m nd rg (by omega) ha hb na nb fun r=>?_⟩
  have:∀ z:Int,cP L (S.map fun y:Nat=>(y:Int)) (a:Int) z→∀ y:Nat,z = y→D (y,true) = true:=fun z r=>by
   induction r with
   | here=>
        intro y e; have:y = a:=by omega
        rw [this]; exact da
   | @step j lj z h1 h2 h3 h4 ih=>
    intro y e
    subst e
    have hj:=ih j rfl
    have jb:j≠b:=fun z=>by rw [z,tT] at hj; cases hj
    refine go j y hj ⟨⟨lj,h2,h3⟩,fun z=>?_⟩ (u5 _ _ h4)
    rcases z with ⟨z1,z2⟩ | ⟨z,_⟩
    ·subst z1; subst z2; rw [hl] at h2; injection h2 with h2; subst h2; exact hn h3
    ·exact jb z
  rw [this _ r b rfl] at tT
  cases tT
theorem j7 (m:aA L) {S:List Int} (lS:S.length≤2) {a b:Nat} {l:List Int} (hl:L[a]? = some l) (hb:b < L.length) (ou:a≠b) (nb:(b:Int)∉S) (h:¬ cP L S (a:Int) (b:Int)) {f:Flow}:(b:Int)∉l∧¬ Fl L.length (Tw L a b) a b 3 f:=by
 have ha:a < L.length:=(List.getElem?_eq_some_iff.mp hl).1
 have N:=Tw.Ci m ha hb ou
 refine ⟨fun z=>h (.step .here hl z nb),fun F=>?_⟩
 have:=F.sY N (fun p=>@decide (cP L S (a:Int) (p:Int)) (Classical.propDecidable _)) (fun p=>decide ((p:Int)∈S)) (by simpa using cP.here) (by simpa using h) (by simpa using nb) (fun u v hu t=>by
  have hu:cP L S (a:Int) (u:Int):=by simpa using hu
  obtain ⟨⟨lu,h1,h2⟩,_⟩:=t
  by_cases c:(v:Int)∈S
  ·exact .inr (by simpa using c)
  ·exact .inl (by simpa using cP.step hu h1 h2 c))
 rw [gO] at this
 have le:((List.range L.length).filter fun p:Nat=>decide ((p:Int)∈S)).length≤S.length:=by
  have nd:(((List.range L.length).filter fun p:Nat=>decide ((p:Int)∈S)).map fun p:Nat=>(p:Int)).Nodup:=List.Pairwise.map _ (fun a b h z=>h (by omega)) (List.nodup_range.filter _)
  have:=nd.length_le_of_subset (l₂:=S) fun x hx=>by
   obtain ⟨p,hp,rfl⟩:=List.mem_map.mp hx
   simpa using (List.mem_filter.mp hp).2
  rwa [List.length_map] at this
 omega
end
end Fw
end
section
namespace Fw
open PySem L2 Gm
def vM (L:List (List Int)) (x y:Nat):Prop:=∃ l f,L[x]? = some l∧Fl L.length (Tw L x y) x y (if (y:Int)∈l then 2 else 3) f
structure J (L:List (List Int)) (al:Bool) (fw:Nat) (Dn:Nat→Nat→Prop):Prop where
 t:al = true→∀ x y,Dn x y→vM L x y
 f:al = false→3 < L.length→∃ S'∈aS L.length L.length,iZ L S' = true
 le:fw≤3
 sm:fw < 3→∃ S'∈aS L.length L.length,S'.length = fw∧iZ L S' = true
 nb:∀ x y,Dn x y→∀ l,L[x]? = some l→(y:Int)∉l→vM L x y∨fw≤2
section
variable {L:List (List Int)} {al:Bool} {fw:Nat} {Dn w9:Nat→Nat→Prop}
theorem J.start (h:∀ x y,¬ Dn x y):J L true 3 Dn:=⟨fun _ x y z=>absurd z (h x y),fun z=>Bool.noConfusion z,Nat.le_refl _,fun z=>absurd z (Nat.lt_irrefl _),fun x y z=>absurd z (h x y)⟩
theorem J.sub (j:J L al fw Dn) (h:∀ x y,w9 x y→Dn x y):J L al fw w9:=⟨fun e x y z=>j.t e x y (h x y z),j.f,j.le,j.sm,fun x y z=>j.nb x y (h x y z)⟩
theorem J.zX (j:J L al fw Dn) {a b:Nat} (r:vM L a b) (h:∀ x y,w9 x y→Dn x y∨(x = a∧y = b)):J L al fw w9:=
 ⟨fun e x y z=>(h x y z).elim (j.t e x y) fun w=>w.1▸w.2▸r,j.f,j.le,j.sm,fun x y z l hl hn=>(h x y z).elim (fun w=>j.nb x y w l hl hn) fun w=>by rw [w.1,w.2]; exact .inl r⟩
theorem J.near (j:J L al fw Dn) {a b:Nat} {l:List Int} (hl:L[a]? = some l) (hn:(b:Int)∈l) (g:3 < L.length→∃ S'∈aS L.length L.length,iZ L S' = true) (h:∀ x y,w9 x y→Dn x y∨(x = a∧y = b)):J L false fw w9:=
 ⟨fun e=>Bool.noConfusion e,fun _=>g,j.le,j.sm,fun x y z l' pY yw=>(h x y z).elim (fun w=>j.nb x y w l' pY yw) fun w=>by
  rw [w.1,hl] at pY
  injection pY with pY
  subst pY
  rw [w.2] at yw
  exact absurd hn yw⟩
theorem J.MZ (j:J L al fw Dn) {a b:Nat} {k:Nat} (k2:k≤2) (s:∃ S'∈aS L.length L.length,S'.length = k∧iZ L S' = true) (h:∀ x y,w9 x y→Dn x y∨(x = a∧y = b)):J L false (if k < fw then k else fw) w9:=by
 refine ⟨fun e=>Bool.noConfusion e,fun _ _=>s.elim fun S' h=>⟨S',h.1,h.2.2⟩,?_,fun hh=>?_,fun x y z l' pY yw=>?_⟩
 ·have:=j.le; split <;> omega
 ·by_cases c:k < fw
  ·rw [if_pos c]; exact s
  ·rw [if_neg c] at hh ⊢; exact j.sm hh
 ·rcases h x y z with w | w
  ·rcases j.nb x y w l' pY yw with v | v
   ·exact .inl v
   ·exact .inr (by split <;> omega)
  ·exact .inr (by split <;> omega)
theorem J.yU (m:aA L) (n2:2≤L.length) (j:J L al fw Dn) (all:∀ x y,x < L.length→y < L.length→x≠y→Dn x y) (h:(aS L.length L.length).find? (iZ L) = none):al = decide (3 < L.length):=by
 by_cases n3:3 < L.length
 ·rw [decide_eq_true n3]
  cases e:al with
  | true=>rfl
  | false=>
   obtain ⟨S',h1,h2⟩:=j.f e n3
   have:=List.find?_eq_none.mp h S' h1
   exact absurd h2 this
 ·rw [decide_eq_false n3]
  cases e:al with
  | false=>rfl
  | true=>
   obtain ⟨l,f,hl,F⟩:=j.t e 0 1 (all 0 1 (by omega) (by omega) (by decide))
   have:=F.oA (Tw.Ci m (by omega) (by omega) (by decide))
   split at this <;> omega
theorem J.yT (m:aA L) (j:J L al fw Dn) (all:∀ x y,x < L.length→y < L.length→x≠y→Dn x y) {S:List Int} (h:(aS L.length L.length).find? (iZ L) = some S):al = false∧S.length≤fw∧fw < 3:=by
 have hS:=List.find?_some h
 have mS:=List.mem_of_find?_eq_some h
 have lS:=eh _ _ S mS
 obtain ⟨a,b,ha,hb,na,nb,no⟩:=uP m hS
 obtain ⟨a,rfl⟩:=Int.eq_ofNat_of_zero_le ha.1
 obtain ⟨b,rfl⟩:=Int.eq_ofNat_of_zero_le hb.1
 have ou:a≠b:=fun z=>by subst z; exact no .here
 have hl:L[a]? = some L[a]:=List.getElem?_eq_getElem (by omega)
 have key:¬ vM L a b:=fun ⟨l,f,pY,F⟩=>by
  obtain ⟨h1,h2⟩:=j7 m lS pY (by omega) ou nb no (f:=f)
  rw [if_neg h1] at F
  exact h2 F
 have nl:(b:Int)∉L[a]:=(j7 m lS hl (by omega) ou nb no (f:=f0)).1
 have dn:=all a b (by omega) (by omega) ou
 have f2:fw≤2:=(j.nb a b dn _ hl nl).resolve_left key
 refine ⟨?_,?_,by omega⟩
 ·cases e:al with
  | false=>rfl
  | true=>exact absurd (j.t e a b dn) key
 ·obtain ⟨S',h1,h2,h3⟩:=j.sm (by omega)
  have:=jt (j6 _ _) h h1 h3
  omega
end
end Fw
end
section
namespace vF
open PySem L2 Fr Gm Fw
local macro_rules | `(tactic| walk_at "rd1")=>`(tactic| first
 | with_reducible refine r_seq ?_ | with_reducible refine r_asg ?_ | with_reducible refine r_gname ?_ | with_reducible refine r_op ?_ | with_reducible refine r_c ?_
 | ((with_reducible refine' r_var ?hv ?_); case' hv=>exact rfl)
 | with_reducible refine o5 ?_ | with_reducible refine uH ?_ | with_reducible refine uI ?_ | with_reducible refine pA ?_ | with_reducible refine o7 ?_
 | with_reducible refine o3 ?_ | with_reducible refine n8 ?_ | with_reducible refine lG ?_ | with_reducible refine pj ?_ | with_reducible refine lz ?_ | with_reducible refine B2 ?_ | with_reducible refine uM ?_
 | with_reducible refine rY ?_ | with_reducible refine pE ?_ | with_reducible refine uJ ?_ | with_reducible refine lH ?_ | with_reducible refine rX ?_ | with_reducible refine lC ?_ | with_reducible refine sd ?_
 | with_reducible refine j8 ?_ | with_reducible refine gR ?_ | with_reducible refine iX ?_ | with_reducible refine si ?_ | with_reducible refine oZ ?_ | with_reducible refine o8 ?_ | with_reducible refine lE ?_
 | with_reducible refine iA ?_ | with_reducible refine lF ?_ | with_reducible refine o6 ?_ | with_reducible refine Co ?_ | with_reducible refine Cp ?_ | with_reducible refine yl ?_ | with_reducible refine vg ?_
 | ((with_reducible refine rW ?hc ?_); case' hc=>walk_at "side")
 | ((with_reducible refine' o9 ?hp ?hi ?_); (case' hp=>walk_at "seq"); (case' hi=>exact rfl))
 | ((with_reducible refine' aZ ?hp ?hi ?_); (case' hp=>walk_at "seq"); (case' hi=>exact rfl))
 | ((with_reducible refine' iV ?hp ?hi ?_); (case' hp=>walk_at "seq"); (case' hi=>exact rfl))
 | ((with_reducible refine And.intro ?hl ?_); case' hl=>(first | exact y9 | exact y8))
 | with_reducible refine uL ?_ | with_reducible refine pD ?_ | with_reducible refine ly ?_ | with_reducible refine ph ?_ | with_reducible refine lD ?_ | with_reducible refine lB ?_ | with_reducible refine lr ?_ | with_reducible refine iW ?_ | with_reducible refine sf ?_ | with_reducible refine n9 ?_
 | dsimp only)
local macro_rules | `(tactic| walk_at "rd")=>`(tactic| repeat walk_at "rd1")
local macro_rules | `(tactic| walk_at "blk_vis")=>`(tactic| first | exact Or.inl rfl | exact Or.inr (Or.inl rfl) | exact Or.inr (Or.inr rfl))
local macro_rules | `(tactic| walk_at "blk_ok")=>`(tactic| exact ⟨rfl,by decide +kernel,by decide +kernel,rfl,by (first | exact trivial | exact ⟨rfl,trivial⟩ | exact ⟨rfl,rfl,trivial⟩ | exact ⟨rfl,rfl,rfl,trivial⟩ | exact ⟨rfl,rfl,rfl,rfl,trivial⟩ | exact ⟨rfl,rfl,rfl,rfl,rfl,trivial⟩),rfl,
 by (first | exact ax | exact ae ⟨rfl,by walk_at "blk_vis",rfl,rfl⟩ ax | exact ae ⟨rfl,by walk_at "blk_vis",rfl,rfl⟩ (ae ⟨rfl,by walk_at "blk_vis",rfl,rfl⟩ ax) | exact ae ⟨rfl,by walk_at "blk_vis",rfl,rfl⟩ (ae ⟨rfl,by walk_at "blk_vis",rfl,rfl⟩ (ae ⟨rfl,by walk_at "blk_vis",rfl,rfl⟩ ax)) | exact ae ⟨rfl,by walk_at "blk_vis",rfl,rfl⟩ (ae ⟨rfl,by walk_at "blk_vis",rfl,rfl⟩ (ae ⟨rfl,by walk_at "blk_vis",rfl,rfl⟩ (ae ⟨rfl,by walk_at "blk_vis",rfl,rfl⟩ ax)))),
 by (first | exact ae rfl (ae rfl (ae rfl (ae rfl ax))) | exact ax | exact ae rfl ax | exact ae rfl (ae rfl ax) | exact ae rfl (ae rfl (ae rfl ax)))⟩)
local macro_rules | `(tactic| walk_at "blk_ok1")=>`(tactic| exact ⟨rfl,fun _=>rfl,fun _=>rfl,by decide +kernel,rfl,by (first | exact trivial | exact ⟨rfl,trivial⟩ | exact ⟨rfl,rfl,trivial⟩ | exact ⟨rfl,rfl,rfl,trivial⟩ | exact ⟨rfl,rfl,rfl,rfl,trivial⟩),rfl,
 by (first | exact ax | exact ae ⟨rfl,by walk_at "blk_vis",⟨rfl,rfl⟩,rfl⟩ ax | exact ae ⟨rfl,by walk_at "blk_vis",⟨rfl,rfl⟩,rfl⟩ (ae ⟨rfl,by walk_at "blk_vis",⟨rfl,rfl⟩,rfl⟩ ax) | exact ae ⟨rfl,by walk_at "blk_vis",⟨rfl,rfl⟩,rfl⟩ (ae ⟨rfl,by walk_at "blk_vis",⟨rfl,rfl⟩,rfl⟩ (ae ⟨rfl,by walk_at "blk_vis",⟨rfl,rfl⟩,rfl⟩ ax))),
 by (first | exact ax | exact ae rfl ax | exact ae rfl (ae rfl ax) | exact ae rfl (ae rfl (ae rfl ax)))⟩)
local macro_rules | `(tactic| walk_at "side")=>`(tactic| first | assumption | exact (show (0:Int) < _ by decide) | exact iH (by decide) (by decide) | exact iI (by decide) (by decide) | exact mulL (by decide) (by decide))
local macro_rules | `(tactic| walk_at "seq")=>`(tactic| first | assumption | exact SqT.of (by assumption))
def top (i:Nat):Stmt:=PySem.Challenge.pw_standup_k33_whole_tight_maps_have_roads.main.body.getD i (.Pass ⟨0,0,0,0⟩)
abbrev eL:Stmt:=top 1
abbrev cv:Stmt:=top 2
abbrev dH:Stmt:=top 6
abbrev br:Stmt:=top 7
abbrev cq:Stmt:=top 8
abbrev bJ:Stmt:=top 9
abbrev bx:Stmt:=top 10
abbrev dI:Stmt:=top 11
abbrev cu:Stmt:=top 12
abbrev cn:Stmt:=top 13
abbrev dG:Stmt:=top 14
abbrev bc:Stmt:=top 16
abbrev uF:Stmt:=top 17
abbrev bC:Stmt:=top 18
abbrev bB:Stmt:=top 19
abbrev bT:Stmt:=top 20
abbrev bA:Stmt:=top 21
abbrev bb:Stmt:=top 22
abbrev aQ:Stmt:=top 23
abbrev bz:Stmt:=top 24
abbrev gm:Stmt:=top 25
structure Hd where
structure Txt (K:PySem.W.Frag) (mg:Str→Option Value) (Z:Hd):Prop where
 len:mg "len" = none
 range:mg "range" = none
 min:mg "min" = none
 max:mg "max" = none
 list:mg "list" = none
 enumerate:mg "enumerate" = none
 sorted:mg "sorted" = none
 g_IN:∃ t,mg "IN" = some (.int 0 t)
 g_OUT:∃ t,mg "OUT" = some (.int 1 t)
def oR (K:PySem.W.Frag):Sp:=fun vs H Q _=>∃ (a:Addr) (ns:List Int) (k:Int),vs = [.ref a,.int k]∧aG K H a (ns.map V.int)∧0≤k∧∀ n,Q (.int n) H
def dW (K:PySem.W.Frag):Sp:=fun vs H Q _=>∃ (a:Addr) (ns:List Int) (k:Int),vs = [.ref a,.int k]∧aG K H a (ns.map V.int)∧0≤k∧k≤100000∧∀ n,0≤n→n < 2147483587→Q (.int n) H
def rQ (K:PySem.W.Frag):Sp:=fun vs H Q _=>∃ (a:Addr) (ns:List Int) (st n:Int),vs = [.ref a,.int st,.int n]∧aG K H a (ns.map V.int)∧0≤st∧st≤1000∧0≤n∧n≤60∧
 ∀ p as L H',ak H H'→aU H' p as L→(p :: as).Nodup→(∀ b∈p :: as,H b = none)→(L.length:Int) = n→aA L→Q (.ref p) H'
def mG:Sp:=fun vs H Q _=>∃ (p:Addr) (as:List Addr) (L:List (List Int)),vs = [.ref p]∧aU H p as L∧aA L∧L.length≤60∧(dE L L.length).length < 1000∧
 ∀ (t:Addr) (bs:List Addr) (R:List (List au)) H',ak H H'→aU H' t bs (R.map fun c=>c.map (·.1))→(t :: bs).Nodup→(∀ b∈t :: bs,H b = none)→Dec L R→Q (.ref t) H'
def j5:Sp:=fun vs H Q _=>∃ (p ra:Addr) (as:List Addr) (L:List (List Int)) (r:List Int) (i j:Nat),vs = [.ref p,.ref ra,.int (i:Int),.int (j:Int)]∧aU H p as L∧(p :: as).Nodup∧H ra = some (.lst (r.map V.int))∧ra∉as∧bV L∧qh L∧Good L r∧(sh 0 r).Nodup∧i < r.length∧j < r.length∧L.length≤60∧
 ∀ H' L',(∀ b o,b∉as→H b = some o→H' b = some o)→aU H' p as L'→bV L'→qh L'→L'.length = L.length→Q .bK H'
def hU:Sp:=fun vs H Q _=>∃ (p ra rc:Addr) (as:List Addr) (L:List (List Int)) (r:List Int) (cs:List Nat),vs = [.ref p,.ref ra,.ref rc]∧aU H p as L∧(p :: as).Nodup∧H ra = some (.lst (r.map V.int))∧ra∉as∧H rc = some (.lst ((cs.map fun c:Nat=>(c:Int)).map V.int))∧rc∉as∧ra≠p∧rc≠p∧bV L∧qh L∧Good L r∧(sh 0 r).Nodup∧2≤cs.length∧cs.Pairwise (· < ·)∧(∀ c∈cs,c < r.length)∧cs.length≤200∧L.length≤60∧
 ∀ H' L' c,(∀ b o,b∉p :: as→H b = some o→H' b = some o)→H c = none→aU H' p (as ++ [c]) L'→(p :: (as ++ [c])).Nodup→bV L'→qh L'→L'.length = L.length + 1→Q .bK H'
def oQ:Sp:=fun vs H Q _=>∃ (p:Addr) (as:List Addr) (L:List (List Int)) (S:List Int) (st:Int) (sh:Addr),vs = [.ref p,.int st,.ref sh]∧aU H p as L∧H sh = some (.lst (S.map V.int))∧L.length≤60∧aA L∧0≤st∧st < L.length∧
 ∀ (t:Addr) (ks:List Int) H',ak H H'→H' t = some (.dK (ks.map fun x=>(Sum.inl x,V.bl true)))→ks.Nodup→(∀ x,x∈ks↔cP L S st x)→Q (.ref t) H'
def mH:Sp:=fun vs H Q _=>∃ (p sa:Addr) (as:List Addr) (L:List (List Int)) (S:List Int),vs = [.ref p,.ref sa]∧aU H p as L∧H sa = some (.lst (S.map V.int))∧aA L∧L.length≤60∧∀ H',ak H H'→Q (.bl (iZ L S)) H'
def mE:Sp:=fun vs H Q _=>∃ n:Nat,vs = [.int (n:Int)]∧n≤60∧∀ (t:Addr) (bs:List Addr) H',ak H H'→aU H' t bs (aS n n)→(t :: bs).Nodup→(∀ b∈t :: bs,H b = none)→Q (.ref t) H'
def iP:Sp:=fun vs H Q _=>∃ (p:Addr) (as:List Addr) (L:List (List Int)),vs = [.ref p]∧aU H p as L∧aA L∧L.length≤60∧
 ((aS L.length L.length).find? (iZ L) = none→∀ H',ak H H'→Q .bK H')∧(∀ S,(aS L.length L.length).find? (iZ L) = some S→∀ (x:Addr) H',ak H H'→H' x = some (.lst (S.map V.int))→Q (.ref x) H')
def kU (K:PySem.W.Frag):Sp:=fun vs H Q _=>∃ (a:Addr) (ns:List Int),vs = [.ref a]∧aG K H a (ns.map V.int)∧ns.length≤63∧∀ H',Q (.bl true) H'
def mI:Sp:=fun vs H Q _=>∃ (wy sp:Addr) (n:Nat) (N:ab→ab→Prop) (aj:List (List Key×V)) (g:ab→Addr) (ks:ab→List ab) (st:ab),vs = [.ref wy,.ref sp]∧b9 H wy n N aj g ks∧st.1 < n∧n≤60∧H sp = some (.tup ((kd st).map kV))∧
 ∀ (t:Addr) (cJ:List (ab×Option ab)) (r:ab→V) H',ak H H'→H t = none→mz H' t cJ r→Bf n N st cJ []→Q (.ref t) H'
def oP:Sp:=fun vs H Q _=>∃ (wy t gp:Addr) (n:Nat) (T:Nat→Nat→Prop) (a b:Nat) (f:Fw.Flow) (i:Int) (aj:List (List Key×V)) (g:ab→Addr) (ks:ab→List ab) (cJ:List (ab×Option ab)) (r:ab→V),vs = [.ref wy,.ref t,.ref gp]∧b9 H wy n (Res T f) aj g ks∧mz H t cJ r∧(∀ d:ab,d.1 < n→g d≠t)∧H gp = some (.tup ((kd (b,false)).map kV))∧Fan n (Res T f) (a,true) cJ∧(∃ o,((b,false),o)∈cJ)∧Fl n T a b i f∧Net n T a b∧n≤60∧
 ∀ (f':Fw.Flow) (eW:ab→List ab) H',(∀ c o,(∀ d:ab,d.1 < n→c≠g d)→H c = some o→H' c = some o)→b9 H' wy n (Res T f') aj g eW→Fl n T a b (i + 1) f'→Q .bK H'
def gM:Sp:=fun vs H Q _=>∃ (p wy:Addr) (as:List Addr) (L:List (List Int)) (T:Nat→Nat→Prop) (f:Fw.Flow) (aj:List (List Key×V)) (g:ab→Addr) (ks:ab→List ab) (x:Nat) (l:List Int),vs = [.ref p,.ref wy,.int (x:Int)]∧aU H p as L∧aA L∧L.length≤60∧b9 H wy L.length (Res T f) aj g ks∧L[x]? = some l∧
 ∀ (t:Addr) H',ak H H'→H t = none→H' t = some (.lst ((gn f l x).map V.int))→Q (.ref t) H'
def j2:Sp:=fun vs H Q _=>∃ (p wy ra:Addr) (as:List Addr) (L:List (List Int)) (T:Nat→Nat→Prop) (f:Fw.Flow) (aj:List (List Key×V)) (g:ab→Addr) (ks:ab→List ab) (a b c:Nat) (i:Int),vs = [.ref p,.ref wy,.ref ra,.int (b:Int)]∧aU H p as L∧aA L∧L.length≤60∧b9 H wy L.length (Res T f) aj g ks∧Fl L.length T a b i f∧Net L.length T a b∧(∀ p q,T p q→∃ l,L[p]? = some l∧(q:Int)∈l)∧H ra = some (.lst [.int (a:Int),.int (c:Int)])∧f.F a c = true∧
 ∀ (t:Addr) (rd:List Nat) H',ak H H'→H' t = some (.lst ((rd.map fun x:Nat=>(x:Int)).map V.int))→Fw.Rd f a b rd→rd[rd.length - 1]? = some b→Q (.ref t) H'
def oN:Sp:=fun vs H Q _=>∃ (p:Addr) (as:List Addr) (L:List (List Int)),vs = [.ref p]∧aU H p as L∧L.length≤60∧aA L∧
 ∀ t ps H',ak H H'→H t = none→H' t = some (.lst (ps.map V.ref))→PR H' ps (cT L L.length)→Q (.ref t) H'
def oO:Sp:=fun vs H Q _=>∃ (p:Addr) (as:List Addr) (L:List (List Int)) (a b:Nat),vs = [.ref p,.int (a:Int),.int (b:Int)]∧aU H p as L∧aA L∧L.length≤60∧a < L.length∧b < L.length∧a≠b∧
 ∀ (wy:Addr) (aj:List (List Key×V)) (g:ab→Addr) (ks:ab→List ab) H',ak H H'→H wy = none→(∀ d:ab,d.1 < L.length→H (g d) = none)→b9 H' wy L.length (Res (Tw L a b) f0) aj g ks→Q (.ref wy) H'
def mF:Sp:=fun vs H Q _=>∃ (p:Addr) (as:List Addr) (L:List (List Int)) (a b:Nat) (l:List Int),vs = [.ref p,.int (a:Int),.int (b:Int)]∧aU H p as L∧aA L∧L.length≤60∧L[a]? = some l∧b < L.length∧a≠b∧
 (∀ (x:Addr) (ys:List V) (t:Addr) (f:Fw.Flow) H',ak H H'→H' t = some (.tup [.str "roads",.ref x])→H' x = some (.lst ys)→Fl L.length (Tw L a b) a b (if (b:Int)∈l then 2 else 3) f→Q (.ref t) H')∧
 (∀ (x:Addr) (S:List Nat) (t:Addr) (f:Fw.Flow) (i:Nat) (D:ab→Bool) H',ak H H'→H' t = some (.tup [.str "parted",.ref x])→H' x = some (.lst ((S.map fun x:Nat=>(x:Int)).map V.int))→i < (if (b:Int)∈l then 2 else 3)→Fl L.length (Tw L a b) a b (i:Int) f→D (a,true) = true→D (b,false) = false→D (b,true) = false→(∀ d e,D d = true→Res (Tw L a b) f d e→D e = true)→S = (List.range L.length).filter (fun p=>D (p,false) && !D (p,true))→Q (.ref t) H')
def mD (K:PySem.W.Frag):Sp:=fun vs H Q _=>∃ (a:Addr) (ns:List Int) (st:Int) (n:Nat),vs = [.ref a,.int st,.int (n:Int)]∧aG K H a (ns.map V.int)∧0≤st∧st≤1000∧n≤9∧
 ∀ p as L H',ak H H'→aU H' p as L→H p = none→bV L→qh L→4≤L.length→L.length≤4 + n→Q (.ref p) H'
theorem ER {X:Cx} {a b c d:Expr} {ta tb tc td:TE} {pos:Pos} (ha:PE X a ta) (hb:PE X b tb) (hc:PE X c tc) (hd:PE X d td)
  (s1:starEach [a,b,c,d] X.env = (false,eval a X.env) :: starEach [b,c,d] X.env) (s2:starEach [b,c,d] X.env = (false,eval b X.env) :: starEach [c,d] X.env) (s3:starEach [c,d] X.env = (false,eval c X.env) :: starEach [d] X.env) (s4:starEach [d] X.env = (false,eval d X.env) :: starEach [] X.env) :
  PE X (.List [a,b,c,d] pos) (xo (jY ta (jY tb (jY tc (jY td xm))))):=bN (aa ha (aa hb (aa hc (aa hd ag s4) s3) s2) s1)
end vF
end
section
namespace vF
open PySem L2 Fr Gm Fw
local macro_rules | `(tactic| walk_at "rd1")=>`(tactic| first
 | with_reducible refine r_seq ?_ | with_reducible refine r_asg ?_ | with_reducible refine r_gname ?_ | with_reducible refine r_op ?_ | with_reducible refine r_c ?_
 | ((with_reducible refine' r_var ?hv ?_); case' hv=>exact rfl)
 | with_reducible refine o5 ?_ | with_reducible refine uH ?_ | with_reducible refine uI ?_ | with_reducible refine pA ?_ | with_reducible refine o7 ?_
 | with_reducible refine o3 ?_ | with_reducible refine n8 ?_ | with_reducible refine lG ?_ | with_reducible refine pj ?_ | with_reducible refine lz ?_ | with_reducible refine B2 ?_ | with_reducible refine uM ?_
 | with_reducible refine rY ?_ | with_reducible refine pE ?_ | with_reducible refine uJ ?_ | with_reducible refine lH ?_ | with_reducible refine rX ?_ | with_reducible refine lC ?_ | with_reducible refine sd ?_
 | with_reducible refine j8 ?_ | with_reducible refine gR ?_ | with_reducible refine iX ?_ | with_reducible refine si ?_ | with_reducible refine oZ ?_ | with_reducible refine o8 ?_ | with_reducible refine lE ?_
 | with_reducible refine iA ?_ | with_reducible refine lF ?_ | with_reducible refine o6 ?_ | with_reducible refine Co ?_ | with_reducible refine Cp ?_ | with_reducible refine yl ?_ | with_reducible refine vg ?_
 | ((with_reducible refine rW ?hc ?_); case' hc=>walk_at "side")
 | ((with_reducible refine' o9 ?hp ?hi ?_); (case' hp=>walk_at "seq"); (case' hi=>exact rfl))
 | ((with_reducible refine' aZ ?hp ?hi ?_); (case' hp=>walk_at "seq"); (case' hi=>exact rfl))
 | ((with_reducible refine' iV ?hp ?hi ?_); (case' hp=>walk_at "seq"); (case' hi=>exact rfl))
 | ((with_reducible refine And.intro ?hl ?_); case' hl=>(first | exact y9 | exact y8))
 | with_reducible refine uL ?_ | with_reducible refine pD ?_ | with_reducible refine ly ?_ | with_reducible refine ph ?_ | with_reducible refine lD ?_ | with_reducible refine lB ?_ | with_reducible refine lr ?_
 | dsimp only)
local macro_rules | `(tactic| walk_at "rd")=>`(tactic| repeat walk_at "rd1")
local macro_rules | `(tactic| walk_at "blk_vis")=>`(tactic| first | exact Or.inl rfl | exact Or.inr (Or.inl rfl) | exact Or.inr (Or.inr rfl))
local macro_rules | `(tactic| walk_at "blk_ok")=>`(tactic| exact ⟨rfl,by decide +kernel,by decide +kernel,rfl,by (first | exact trivial | exact ⟨rfl,trivial⟩ | exact ⟨rfl,rfl,trivial⟩ | exact ⟨rfl,rfl,rfl,trivial⟩ | exact ⟨rfl,rfl,rfl,rfl,trivial⟩ | exact ⟨rfl,rfl,rfl,rfl,rfl,trivial⟩),rfl,
 by (first | exact ax | exact ae ⟨rfl,by walk_at "blk_vis",rfl,rfl⟩ ax | exact ae ⟨rfl,by walk_at "blk_vis",rfl,rfl⟩ (ae ⟨rfl,by walk_at "blk_vis",rfl,rfl⟩ ax) | exact ae ⟨rfl,by walk_at "blk_vis",rfl,rfl⟩ (ae ⟨rfl,by walk_at "blk_vis",rfl,rfl⟩ (ae ⟨rfl,by walk_at "blk_vis",rfl,rfl⟩ ax)) | exact ae ⟨rfl,by walk_at "blk_vis",rfl,rfl⟩ (ae ⟨rfl,by walk_at "blk_vis",rfl,rfl⟩ (ae ⟨rfl,by walk_at "blk_vis",rfl,rfl⟩ (ae ⟨rfl,by walk_at "blk_vis",rfl,rfl⟩ ax)))),
 by (first | exact ae rfl (ae rfl (ae rfl (ae rfl ax))) | exact ax | exact ae rfl ax | exact ae rfl (ae rfl ax) | exact ae rfl (ae rfl (ae rfl ax)))⟩)
local macro_rules | `(tactic| walk_at "blk_ok1")=>`(tactic| exact ⟨rfl,fun _=>rfl,fun _=>rfl,by decide +kernel,rfl,by (first | exact trivial | exact ⟨rfl,trivial⟩ | exact ⟨rfl,rfl,trivial⟩ | exact ⟨rfl,rfl,rfl,trivial⟩ | exact ⟨rfl,rfl,rfl,rfl,trivial⟩),rfl,
 by (first | exact ax | exact ae ⟨rfl,by walk_at "blk_vis",⟨rfl,rfl⟩,rfl⟩ ax | exact ae ⟨rfl,by walk_at "blk_vis",⟨rfl,rfl⟩,rfl⟩ (ae ⟨rfl,by walk_at "blk_vis",⟨rfl,rfl⟩,rfl⟩ ax) | exact ae ⟨rfl,by walk_at "blk_vis",⟨rfl,rfl⟩,rfl⟩ (ae ⟨rfl,by walk_at "blk_vis",⟨rfl,rfl⟩,rfl⟩ (ae ⟨rfl,by walk_at "blk_vis",⟨rfl,rfl⟩,rfl⟩ ax))),
 by (first | exact ax | exact ae rfl ax | exact ae rfl (ae rfl ax) | exact ae rfl (ae rfl (ae rfl ax)))⟩)
local macro_rules | `(tactic| walk_at "side")=>`(tactic| first | assumption | exact (show (0:Int) < _ by decide) | exact iH (by decide) (by decide) | exact iI (by decide) (by decide) | exact mulL (by decide) (by decide))
local macro_rules | `(tactic| walk_at "seq")=>`(tactic| first | assumption | exact SqT.of (by assumption))
section
variable {P:Program} {w:World} {K:PySem.W.Frag} {mg:Str→Option Value} {base:Heap} {Z:Hd}
theorem dv:aR ["orders", "start", "shut", "reached", "waiting", "place", "neighbour"] ["orders", "start", "shut"] (aw cv):=⟨rfl,rfl,rfl,by decide +kernel,rfl,by decide +kernel,by decide +kernel⟩
theorem oq (D:Def K mg "come_to" cv ["orders", "start", "shut"]) (T:Txt K mg Z):dR P w K mg base (cV P w) "come_to" 1 ["orders", "start", "shut"] oQ:=by
 refine D.eD dv (fun vs H Q E h=>?_) (fun f dq A outer s H vs Q E hr h=>?_)
 ·obtain ⟨p,as,L,S,st,sh,rfl,_⟩:=h; rfl
 ·obtain ⟨p,as,L,S,st,sh,rfl,g,Fh,hn,im,s0,s1,q⟩:=h
  refine ⟨_,(ah (aC (i:=3) dv.nd rfl (by first | exact Or.inl rfl | exact Or.inr rfl) (uW (mU (pv 1) gz pJ) rfl rfl (by decide) (by decide)))
   (ah (aC (i:=4) dv.nd rfl (by first | exact Or.inl rfl | exact Or.inr rfl) (bN (aa (pv 1) ag)))
   (ah (eP PassesOwn.never (aN kh (aB aF (by rfl) T.len aT (aa (pv 4) ag)) ao (bg _)) (ah (aC (i:=5) dv.nd rfl (by first | exact Or.inl rfl | exact Or.inr rfl) (xR PySem.F.plainAttrs_list PySem.F.slot_list_pop PySem.F.type_list_pop x9 (pv 4)))
   (aq (bU PassesOwn.never rfl (de (aX aH (pv 0) (pv 5) (fun _ _=>rfl))) (aJ (i:=6) dv.nd rfl (by first | exact Or.inl rfl | exact Or.inr rfl))
   (aq (bY (PW.pt (pw_and (dP (dr (bL hr) (pv 6) (pv 3))) (pw_and1 (aN df (pv 6) (pv 2) (by with_unfolding_all rfl))))) (ah (dJ (bL hr) (pv 3) (pv 6) gz rfl)
   (aq (bo (cw PySem.F.plainAttrs_list PySem.F.slot_list_append PySem.F.type_list_append cG (pv 4) (aa (pv 6) ag))))) bh))))))
   (aq (bw (pv 3)))))),?_⟩
  dsimp only [d9]
  walk_at "rd"
  refine fun t ht=>⟨_,rfl,?_⟩
  refine ⟨af,[(.inl st,.bl true)],rfl,by simp,?_⟩
  walk_at "rd"
  refine ⟨by rw [PySem.sizeLine_eq]; simp,fun wq hw=>?_⟩
  have e0:ak H (upd (upd H t (.dK [])) t (.dK (eS [] [(.inl st,.bl true)]))):=ak.fresh (ak.upd ht) ht
  have t0:upd (upd H t (.dK [])) t (.dK (eS [] [(.inl st,.bl true)])) t = some (.dK ([st].map fun x=>((Sum.inl x:Key),V.bl true))):=af
  generalize upd (upd H t (.dK [])) t (.dK (eS [] [(.inl st,.bl true)])) = H0 at e0 t0 hw ⊢
  have wf:H wq = none:=e0.free hw
  walk_at "rd"
  refine fZ (fun σ H1=>∃ (ks ws:List Int) (v4 v5:Option V),σ = [some (.ref p),some (.int st),some (.ref sh),some (.ref t),some (.ref wq),v4,v5]∧ak H H1∧H1 t = some (.dK (ks.map fun x=>((Sum.inl x:Key),V.bl true)))∧H1 wq = some (.lst (ws.map V.int))∧rC L S st ks ws)
   (fun _ H1=>match H1 t,H1 wq with | some (.dK aj),some (.lst xs)=>2 * (L.length - aj.length) + xs.length | _,_=>0) ⟨[st],[st],none,none,rfl,e0.trans (ak.upd hw),ak.upd hw _ _ t0,af,rC.start⟩ ?_
  rintro σ H1 ⟨ks,ws,v4,v5,rfl,e1,t1,w1,fl⟩
  walk_at "rd"
  refine ⟨_,_,rfl,.inl ⟨_,aG.of w1,rfl⟩,?_⟩
  rw [List.length_map]
  walk_at "rd"
  refine if2 (fun fW=>?_) (fun fW=>?_)
  ·refine w_turn ?_
   rw [t1,w1]
   dsimp only
   rw [List.length_map,List.length_map]
   obtain ⟨uq,pl,rfl⟩:∃ uq pl,ws = uq ++ [pl]:=⟨ws.dropLast,ws.getLast (fun z=>by rw [z] at fW; simp at fW),(List.dropLast_concat_getLast _).symm⟩
   have Kb:=(fl.re pl (fl.sub pl (by simp))).rg im ⟨s0,s1⟩
   obtain ⟨pn,rfl⟩:=Int.eq_ofNat_of_zero_le Kb.1
   obtain ⟨b,l,ha,hl,eY⟩:=g.at (i:=pn) (by omega)
   have wt:wq≠t:=fun z=>by rw [z,t1] at w1; cases w1
   walk_at "rd"
   refine ⟨.inl ⟨rfl,_,aG.of w1⟩,?_⟩
   refine ⟨wq,_,.int (pn:Int),rfl,rfl,w1,by simp,?_⟩
   have e2:ak H (upd H1 wq (.lst ((uq ++ [(pn:Int)]).map V.int).dropLast)):=ak.fresh e1 wf
   have w2:upd H1 wq (.lst ((uq ++ [(pn:Int)]).map V.int).dropLast) wq = some (.lst (uq.map V.int)):=by rw [af]; simp
   have t2:upd H1 wq (.lst ((uq ++ [(pn:Int)]).map V.int).dropLast) t = some (.dK (ks.map fun x=>((Sum.inl x:Key),V.bl true))):=by rw [ai (Ne.symm wt)]; exact t1
   generalize upd H1 wq (.lst ((uq ++ [(pn:Int)]).map V.int).dropLast) = H2 at e2 w2 t2 ⊢
   walk_at "rd"
   refine cD ?_
   refine ⟨_,rfl,_,rfl,aZ (aG.of (e2 _ _ g.top)) (g.ix ha) ?_⟩
   refine ⟨b,rfl,⟨_,aG.of (e2 _ _ eY)⟩,fb (K:=K) (a:=b) (xs:=l.map V.int) (fun k σ H3=>∃ (eW jU:List Int) (v5:Option V),σ = [some (.ref p),some (.int st),some (.ref sh),some (.ref t),some (.ref wq),some (.int (pn:Int)),v5]∧ak H H3∧H3 t = some (.dK (eW.map fun x=>((Sum.inl x:Key),V.bl true)))∧H3 wq = some (.lst (jU.map V.int))∧uo L S st eW jU pn l k∧2 * (L.length - eW.length) + jU.length < 2 * (L.length - ks.length) + (uq ++ [(pn:Int)]).length)
    ⟨ks,uq,v5,rfl,e2,t2,w2,fl.pop,by simp⟩ (fun k σ H3 _ ⟨_,_,_,_,e,_⟩=>aG.of (e _ _ eY)) ?_ ?_⟩
   ·rintro k x σ H3 hx ⟨eW,jU,v5,rfl,e3,t3,w3,fi,ms⟩
    obtain ⟨y,hy,rfl⟩:∃ y,l[k]? = some y∧x = V.int y:=by
     rw [List.getElem?_map] at hx
     cases e:l[k]? with
     | none=>rw [e] at hx; cases hx
     | some z=>rw [e] at hx; exact ⟨z,rfl,(Option.some.inj hx).symm⟩
    have lk:=rC.len im ⟨s0,s1⟩ fi.nd fi.re
    have lw:jU.length≤eW.length:=eB fi.nw fi.sub
    walk_at "rd"
    refine ⟨_,rfl,_,rfl,t,_,rfl,cz.k (k:=.inl y) t3,?_⟩
    rw [iL]
    walk_at "rd"
    refine d8 (fun wL=>?_) (fun AD=>?_)
    ·walk_at "rd"
     refine rZ (ns:=S) (aG.of (e3 _ _ Fh)) ?_
     rw [if_pos rfl]
     walk_at "rd"
     refine d8 (fun nS=>?_) (fun yS=>⟨eW,jU,_,rfl,e3,t3,w3,fi.skip hy (.inr yS),ms⟩)
     have fa:=fi.add hy wL nS hl
     have Lz:=rC.len im ⟨s0,s1⟩ fa.nd fa.re
     rw [List.length_append,List.length_singleton] at Lz
     walk_at "rd"
     refine ⟨_,rfl,_,rfl,t,_,rfl,fJ.k (k:=.inl y) t3 (by rw [List.length_map]; exact az (by omega)),?_⟩
     rw [sj wL]
     have w4:upd H3 t (.dK ((eW ++ [y]).map fun x=>((Sum.inl x:Key),V.bl true))) wq = some (.lst (jU.map V.int)):=by rw [ai wt]; exact w3
     walk_at "rd"
     refine ⟨.inl ⟨rfl,_,aG.of w4⟩,?_⟩
     walk_at "rd"
     refine dY w4 (by rw [List.length_map]; exact az (by omega)) ?_
     refine ⟨eW ++ [y],jU ++ [y],_,rfl,ak.fresh (ak.fresh e3 ht) wf,by rw [ai (Ne.symm wt)]; exact af,by rw [List.map_append (l₁:=jU)]; exact af,fa,?_⟩
     rw [List.length_append,List.length_append,List.length_singleton]
     omega
    ·walk_at "rd"
     exact ⟨eW,jU,_,rfl,e3,t3,w3,fi.skip hy (.inl AD),ms⟩
   ·rintro σ H3 ⟨eW,jU,v5,rfl,e3,t3,w3,fi,ms⟩
    rw [List.length_map] at fi
    refine ⟨⟨eW,jU,_,_,rfl,e3,t3,w3,fi.done hl⟩,?_⟩
    rw [t3,w3]
    dsimp only
    rw [List.length_map,List.length_map]
    exact ms
  ·have L4:ws = []:=by
    cases ws with
    | nil=>rfl
    | cons a b=>simp at fW
   subst L4
   walk_at "rd"
   exact q t ks H1 e1 t1 fl.nd fl.all
end
end vF
end
section
namespace vF
open PySem L2 Fr Gm Fw
local macro_rules | `(tactic| walk_at "rd1")=>`(tactic| first
 | with_reducible refine r_seq ?_ | with_reducible refine r_asg ?_ | with_reducible refine r_gname ?_ | with_reducible refine r_op ?_ | with_reducible refine r_c ?_
 | ((with_reducible refine' r_var ?hv ?_); case' hv=>exact rfl)
 | with_reducible refine o5 ?_ | with_reducible refine uH ?_ | with_reducible refine uI ?_ | with_reducible refine pA ?_ | with_reducible refine o7 ?_
 | with_reducible refine o3 ?_ | with_reducible refine n8 ?_ | with_reducible refine lG ?_ | with_reducible refine pj ?_ | with_reducible refine lz ?_ | with_reducible refine B2 ?_ | with_reducible refine uM ?_
 | with_reducible refine rY ?_ | with_reducible refine pE ?_ | with_reducible refine uJ ?_ | with_reducible refine lH ?_ | with_reducible refine rX ?_ | with_reducible refine lC ?_ | with_reducible refine sd ?_
 | with_reducible refine j8 ?_ | with_reducible refine gR ?_ | with_reducible refine iX ?_ | with_reducible refine si ?_ | with_reducible refine oZ ?_ | with_reducible refine o8 ?_ | with_reducible refine lE ?_
 | with_reducible refine iA ?_ | with_reducible refine lF ?_ | with_reducible refine o6 ?_ | with_reducible refine Co ?_ | with_reducible refine Cp ?_ | with_reducible refine yl ?_ | with_reducible refine vg ?_
 | ((with_reducible refine rW ?hc ?_); case' hc=>walk_at "side")
 | ((with_reducible refine' o9 ?hp ?hi ?_); (case' hp=>walk_at "seq"); (case' hi=>exact rfl))
 | ((with_reducible refine' aZ ?hp ?hi ?_); (case' hp=>walk_at "seq"); (case' hi=>exact rfl))
 | ((with_reducible refine' iV ?hp ?hi ?_); (case' hp=>walk_at "seq"); (case' hi=>exact rfl))
 | ((with_reducible refine And.intro ?hl ?_); case' hl=>(first | exact y9 | exact y8))
 | with_reducible refine uL ?_ | with_reducible refine pD ?_ | with_reducible refine ly ?_ | with_reducible refine ph ?_ | with_reducible refine lD ?_ | with_reducible refine lB ?_ | with_reducible refine lr ?_ | with_reducible refine iW ?_ | with_reducible refine sf ?_ | with_reducible refine n9 ?_
 | dsimp only)
local macro_rules | `(tactic| walk_at "rd")=>`(tactic| repeat walk_at "rd1")
local macro_rules | `(tactic| walk_at "blk_vis")=>`(tactic| first | exact Or.inl rfl | exact Or.inr (Or.inl rfl) | exact Or.inr (Or.inr rfl))
local macro_rules | `(tactic| walk_at "blk_ok")=>`(tactic| exact ⟨rfl,by decide +kernel,by decide +kernel,rfl,by (first | exact trivial | exact ⟨rfl,trivial⟩ | exact ⟨rfl,rfl,trivial⟩ | exact ⟨rfl,rfl,rfl,trivial⟩ | exact ⟨rfl,rfl,rfl,rfl,trivial⟩ | exact ⟨rfl,rfl,rfl,rfl,rfl,trivial⟩),rfl,
 by (first | exact ax | exact ae ⟨rfl,by walk_at "blk_vis",rfl,rfl⟩ ax | exact ae ⟨rfl,by walk_at "blk_vis",rfl,rfl⟩ (ae ⟨rfl,by walk_at "blk_vis",rfl,rfl⟩ ax) | exact ae ⟨rfl,by walk_at "blk_vis",rfl,rfl⟩ (ae ⟨rfl,by walk_at "blk_vis",rfl,rfl⟩ (ae ⟨rfl,by walk_at "blk_vis",rfl,rfl⟩ ax)) | exact ae ⟨rfl,by walk_at "blk_vis",rfl,rfl⟩ (ae ⟨rfl,by walk_at "blk_vis",rfl,rfl⟩ (ae ⟨rfl,by walk_at "blk_vis",rfl,rfl⟩ (ae ⟨rfl,by walk_at "blk_vis",rfl,rfl⟩ ax)))),
 by (first | exact ae rfl (ae rfl (ae rfl (ae rfl ax))) | exact ax | exact ae rfl ax | exact ae rfl (ae rfl ax) | exact ae rfl (ae rfl (ae rfl ax)))⟩)
local macro_rules | `(tactic| walk_at "blk_ok1")=>`(tactic| exact ⟨rfl,fun _=>rfl,fun _=>rfl,by decide +kernel,rfl,by (first | exact trivial | exact ⟨rfl,trivial⟩ | exact ⟨rfl,rfl,trivial⟩ | exact ⟨rfl,rfl,rfl,trivial⟩ | exact ⟨rfl,rfl,rfl,rfl,trivial⟩),rfl,
 by (first | exact ax | exact ae ⟨rfl,by walk_at "blk_vis",⟨rfl,rfl⟩,rfl⟩ ax | exact ae ⟨rfl,by walk_at "blk_vis",⟨rfl,rfl⟩,rfl⟩ (ae ⟨rfl,by walk_at "blk_vis",⟨rfl,rfl⟩,rfl⟩ ax) | exact ae ⟨rfl,by walk_at "blk_vis",⟨rfl,rfl⟩,rfl⟩ (ae ⟨rfl,by walk_at "blk_vis",⟨rfl,rfl⟩,rfl⟩ (ae ⟨rfl,by walk_at "blk_vis",⟨rfl,rfl⟩,rfl⟩ ax))),
 by (first | exact ax | exact ae rfl ax | exact ae rfl (ae rfl ax) | exact ae rfl (ae rfl (ae rfl ax)))⟩)
local macro_rules | `(tactic| walk_at "side")=>`(tactic| first | assumption | exact (show (0:Int) < _ by decide) | exact iH (by decide) (by decide) | exact iI (by decide) (by decide) | exact mulL (by decide) (by decide))
local macro_rules | `(tactic| walk_at "seq")=>`(tactic| first | assumption | exact SqT.of (by assumption))
section
variable {P:Program} {w:World} {K:PySem.W.Frag} {mg:Str→Option Value} {base:Heap} {Z:Hd}
theorem iu:aR ["orders", "found", "place", "order"] ["orders"] (aw eL):=⟨rfl,rfl,rfl,by decide +kernel,rfl,by decide +kernel,by decide +kernel⟩
theorem u4 (D:Def K mg "ties" eL ["orders"]) (T:Txt K mg Z):dR P w K mg base (cV P w) "ties" 1 ["orders"] oN:=by
 refine D.eD iu (fun vs H Q E h=>?_) (fun f dq A outer s H vs Q E hr h=>?_)
 ·obtain ⟨p,as,L,rfl,_⟩:=h; rfl
 ·obtain ⟨p,as,L,rfl,g,hn,im,q⟩:=h
  refine ⟨_,(ah (aC (i:=1) iu.nd rfl (by first | exact Or.inl rfl | exact Or.inr rfl) (bN ag))
   (ah (bU PassesOwn.never rfl (uU T.enumerate (aa (pv 0) ag)) (sv (n:=2) rfl (gu (aJ (i:=2) iu.nd rfl (by first | exact Or.inl rfl | exact Or.inr rfl)) (gu (aJ (i:=3) iu.nd rfl (by first | exact Or.inl rfl | exact Or.inr rfl)) pL)))
   (aq (bo (cw PySem.F.plainAttrs_list PySem.F.slot_list_extend PySem.F.type_list_extend fD (pv 1) (aa (fv (tg:=["neighbour"]) (fr:=[("place",2)]) (by walk_at "blk_ok") rfl (de (aB nM (by rfl) T.sorted qZ (aa (pv 3) ag))) (fun _ _ _ _ _=>(aJ (i:=0) (show [("neighbour" : Str),("place" : Str)].Nodup by decide +kernel) rfl (by first | exact Or.inl rfl | exact Or.inr rfl))) (fun _ _ _ _ _=>(eQ (aN kg (pv 1) (pv 0) (bg _)))) (fun _ _ _ _ _=>(bG (aa (pv 1) (aa (pv 0) ag))))) ag)))))
   (aq (bw (pv 1))))),?_⟩
  dsimp only [d9]
  walk_at "rd"
  refine ⟨Nat.zero_le _,fun t ht=>?_⟩
  walk_at "rd"
  refine cD ?_
  have e0:ak H (upd H t (.lst [])):=ak.upd ht
  refine ⟨_,rfl,p,rfl,⟨_,aG.of (e0 _ _ g.top)⟩,tL (K:=K) (a:=p) (xs:=as.map V.ref) (fun i σ H1=>∃ (ps:List Addr) (v2 v3:Option V),σ = [some (.ref p),some (.ref t),v2,v3]∧ak H H1∧H1 t = some (.lst (ps.map V.ref))∧PR H1 ps (cT L i)) ⟨[],none,none,rfl,e0,af,.nil⟩ (fun i σ H1 _ ⟨_,_,_,_,e1,_⟩=>aG.of (e1 _ _ g.top)) ?_ ?_⟩
  ·rintro i x pr σ H1 hx ⟨ps,v2,v3,rfl,e1,h1,Cc⟩ Mg
   have hi:i < L.length:=by
    have:=(List.getElem?_eq_some_iff.mp hx).1
    rw [List.length_map,g.len] at this
    exact this
   obtain ⟨b,l,ha,hl,eY⟩:=g.at hi
   obtain rfl:x = V.ref b:=by
    rw [List.getElem?_map,ha] at hx
    exact (Option.some.inj hx).symm
   have e2:ak H1 (upd H1 pr (.tup [.int i,.ref b])):=ak.upd Mg
   have wG:=e2 _ _ (e1 _ _ eY)
   have h2:=e2 _ _ h1
   have DT:=Cc.same e2
   have IL:=e1.trans e2
   refine iV (SqT.of af) rfl ?_
   generalize upd H1 pr (.tup [.int i,.ref b]) = H2 at wG h2 DT IL ⊢
   walk_at "rd"
   refine ⟨.inl ⟨rfl,_,aG.of h2⟩,?_⟩
   walk_at "rd"
   refine dO ?_
   have ln:l.length≤L.length:=cx (im.nd _ _ hl) fun y hy=>⟨(im.rg _ _ hl y hy).1,(im.rg _ _ hl y hy).2.1⟩
   refine ⟨_,rfl,b,l,rfl,aG.of wG,by omega,fun lQ sp hp hs nR=>?_⟩
   have OS:=hp.length_eq
   refine ⟨sp,rfl,⟨_,aG.of af⟩,fun acc bO=>?_⟩
   have e3:ak H2 (upd H2 sp (.lst (lQ.map V.int))):=ak.upd nR
   have e4:=e3.trans (ak.upd (o:=.lst []) bO)
   have Fg:upd (upd H2 sp (.lst (lQ.map V.int))) acc (.lst []) sp = some (.lst (lQ.map V.int)):=by rw [ai (ay af bO)]; exact af
   refine fG (K:=K) (a:=sp) (xs:=lQ.map V.int) (fun k σ' ys H5=>∃ (qs:List Addr) (v:Option V),σ' = [v,some (.int i)]∧ys = qs.map V.ref∧ak H2 H5∧H5 sp = some (.lst (lQ.map V.int))∧H5 acc = some (.lst ys)∧qs.length≤k∧PR H5 qs (((lQ.take k).filter (fun y=>decide ((i:Int) < y))).map fun y=>((i:Int),y)))
    ⟨[],none,rfl,rfl,e4,Fg,af,Nat.le_refl _,.nil⟩ (fun k σ' ys H5 _ ⟨_,_,_,_,_,h,_⟩=>aG.of h) ?_ ?_
   ·rintro k x σ' ys H5 hx hk ⟨qs,v,rfl,rfl,e5,s5,a5,q5,xN⟩
    obtain ⟨y,hy,rfl⟩:∃ y,lQ[k]? = some y∧x = V.int y:=by
     rw [List.getElem?_map] at hx
     cases e:lQ[k]? with
     | none=>rw [e] at hx; cases hx
     | some z=>rw [e] at hx; exact ⟨z,rfl,(Option.some.inj hx).symm⟩
    rw [List.length_map] at hk
    have tk:lQ.take (k + 1) = lQ.take k ++ [y]:=by rw [List.take_succ,hy]; rfl
    walk_at "rd"
    refine if2 (fun dD=>?_) (fun dD=>?_)
    ·walk_at "rd"
     intro pq zf
     refine ⟨by rw [ai (ay a5 zf)]; exact a5,by rw [List.length_map]; exact az (by omega),cW (by rw [List.length_map]; exact hk) ⟨qs ++ [pq],_,rfl,by simp,?_,?_,af,by simp; omega,?_⟩⟩
     ·exact ak.fresh (e5.trans (ak.upd zf)) (e3.free bO)
     ·rw [ai (fun z=>by rw [← z] at bO; rw [af] at bO; cases bO),ai (ay s5 zf)]; exact s5
     ·have p6:PR (upd H5 pq (.tup [.int i,.int y])) qs _:=xN.same (ak.upd zf)
      have p7:=PR.lst (zs:=qs.map V.ref ++ [.ref pq]) p6 (show upd H5 pq (.tup [.int i,.int y]) acc = some (.lst (qs.map V.ref)) by rw [ai (ay a5 zf)]; exact a5)
      rw [tk,List.filter_append,List.map_append]
      refine PR.app p7 ?_
      rw [List.filter_cons,if_pos (by simpa using dD)]
      refine .cons ?_ .nil
      rw [ai (Ne.symm (ay a5 zf))]
      exact af
    ·refine cW (by rw [List.length_map]; exact hk) ⟨qs,_,rfl,rfl,e5,s5,a5,by omega,?_⟩
     rw [tk,List.filter_append,List.map_append,List.filter_cons,if_neg (by simpa using dD)]
     simpa using xN
   ·rintro σ' ys H5 ⟨qs,v,rfl,rfl,e5,s5,a5,q5,xN⟩
    rw [List.length_map] at q5 xN
    rw [List.take_length] at xN
    rw [xy hp hs (im.nd _ _ hl) (fun y hy=>(im.rg _ _ hl y hy).2.1) hi] at xN
    walk_at "rd"
    have lp:=DT.len
    have ld:=ni (L:=L) i
    have lm:i * L.length≤60 * 60:=Nat.mul_le_mul (by omega) hn
    refine mR (e5 _ _ h2) a5 (by rw [List.length_map,List.length_map,PySem.sizeLine_eq]; omega) ?_
    walk_at "rd"
    refine ⟨ps ++ qs,_,_,rfl,ak.fresh (IL.trans e5) ht,by rw [List.map_append]; exact af,?_⟩
    have hg:L.getD i [] = l:=by rw [List.getD_eq_getElem?_getD,hl]; rfl
    rw [cT,hg]
    exact PR.app (PR.lst (DT.same e5) (e5 _ _ h2)) (PR.lst xN (e5 _ _ h2))
  ·rintro σ H1 ⟨ps,v2,v3,rfl,e1,h1,Cc⟩
   rw [List.length_map,g.len] at Cc
   walk_at "rd"
   exact q t ps H1 e1 ht h1 Cc
theorem mN:aR ["orders", "places", "left"] ["orders", "places"] (aw dH):=⟨rfl,rfl,rfl,by decide +kernel,rfl,by decide +kernel,by decide +kernel⟩
theorem sG (D:Def K mg "parts" dH ["orders", "places"]) (T:Txt K mg Z) (qO:dR P w K mg base (cV P w) "come_to" 1 ["orders", "start", "shut"] oQ):dR P w K mg base (cV P w) "parts" 2 ["orders", "places"] mH:=by
 refine D.eD mN (fun vs H Q E h=>?_) (fun f dq A outer s H vs Q E hr h=>?_)
 ·obtain ⟨p,sa,as,L,S,rfl,_⟩:=h; rfl
 ·obtain ⟨p,sa,as,L,S,rfl,g,hs,im,hn,q⟩:=h
  refine ⟨_,(ah (iB (i:=2) mN.nd rfl (by first | exact Or.inl rfl | exact Or.inr rfl) (tg:=["place"]) (fr:=[("places",1)]) (by walk_at "blk_ok") rfl (bj rfl T.range (aa (aB aF (by rfl) T.len aT (aa (pv 0) ag)) ag)) (fun _ _ _ _ _=>(aJ (i:=0) (show [("place" : Str),("places" : Str)].Nodup by decide +kernel) rfl (by first | exact Or.inl rfl | exact Or.inr rfl))) (fun _ _ _ _ _=>(eQ (aN (jH (K:=K) rfl) (pv 0) (pv 1) (by with_unfolding_all rfl)))) (fun _ _ _ _ _=>(pv 0)))
   (aq (bw (og (fz kh (aB aF (by rfl) T.len aT (aa (pv 2) ag)) ao (bg _)) (sA (fz kg (aB qY (by rfl) T.len aT (aa (aK qO hr bQ (aa (pv 0) (aa (aX aH (pv 2) ao (fun _ _=>rfl)) (aa (pv 1) ag)))) ag)) (aB aF (by rfl) T.len aT (aa (pv 2) ag)) (bg _))))))),?_⟩
  dsimp only [d9]
  walk_at "rd"
  refine dO ?_
  refine ⟨_,rfl,_,_,rfl,.inl ⟨_,aG.of g.top,rfl⟩,(L.length:Int),by rw [List.length_map,g.len],by omega,by omega,?_⟩
  rw [Int.toNat_natCast]
  intro acc bO
  refine cL (fun i σ' ys H1=>∃ v:Option V,σ' = [v,some (.ref sa)]∧ys = (left i S).map V.int∧ak H H1∧H1 acc = some (.lst ys)) ⟨none,rfl,rfl,ak.upd bO,af⟩ ?_ ?_
  ·rintro i σ' ys H1 hi ⟨v,rfl,rfl,e1,a1⟩
   simp only [Int.zero_add]
   have ll:=nk i S
   walk_at "rd"
   refine rZ (x:=(i:Int)) (aG.of (e1 _ _ hs)) ?_
   rw [if_pos rfl]
   walk_at "rd"
   refine d8 (fun hm=>?_) (fun hm=>?_)
   ·walk_at "rd"
    refine ⟨a1,by rw [List.length_map]; exact az (by omega),cW hi ⟨_,rfl,?_,ak.fresh e1 bO,af⟩⟩
    rw [va hm,List.map_append]
    rfl
   ·refine cW hi ⟨_,rfl,?_,e1,?_⟩
    ·rw [sW hm]
    ·exact a1
  ·rintro σ' ys H1 ⟨v,rfl,rfl,e1,a1⟩
   have ll:=nk L.length S
   walk_at "rd"
   refine ⟨_,_,rfl,.inl ⟨_,aG.of a1,rfl⟩,?_⟩
   rw [List.length_map]
   walk_at "rd"
   cases hl:left L.length S with
   | nil=>
    rw [if_neg (by simp)]
    have:=q _ e1
    rw [pI hl] at this
    exact this
   | cons s0 r=>
    have rg:=fF (n:=L.length) (S:=S) (s:=s0) (by rw [hl]; exact List.mem_cons_self)
    cases r with
    | nil=>
     rw [if_neg (by simp)]
     have:=q _ e1
     rw [uQ hl] at this
     exact this
    | cons s1 r=>
     rw [if_pos (by simp; omega)]
     rw [hl] at a1
     walk_at "rd"
     refine aZ (aG.of a1) (show jz ((s0 :: s1 :: r).map V.int) ((0:Nat):Int) = some (V.int s0) from iJ (by simp)) ?_
     walk_at "rd"
     refine ⟨p,as,L,S,s0,sa,rfl,g.same e1,e1 _ _ hs,hn,im,rg.1,rg.2.1,fun t ks H2 e2 t2 nd al=>?_⟩
     walk_at "rd"
     refine ⟨t,_,rfl,t2,?_⟩
     walk_at "rd"
     refine ⟨_,_,rfl,.inl ⟨_,aG.of (e2 _ _ a1),rfl⟩,?_⟩
     rw [List.length_map,List.length_map,z7 im ⟨rg.1,rg.2.1⟩ nd al]
     walk_at "rd"
     have:=q _ (e1.trans e2)
     rw [gq hl] at this
     have ec:decide (((rn L S s0:Nat):Int) < (((s0 :: s1 :: r).length:Nat):Int)) = decide (rn L S s0 < (s0 :: s1 :: r).length):=by
      by_cases z:rn L S s0 < (s0 :: s1 :: r).length
      ·rw [decide_eq_true z,decide_eq_true (by omega)]
      ·rw [decide_eq_false z,decide_eq_false (by omega)]
     rw [ec]
     exact this
theorem du:aR ["size", "lists", "one"] ["size"] (aw br):=⟨rfl,rfl,rfl,by decide +kernel,rfl,by decide +kernel,by decide +kernel⟩
theorem i9 (D:Def K mg "short_lists" br ["size"]) (T:Txt K mg Z):dR P w K mg base (cV P w) "short_lists" 1 ["size"] mE:=by
 refine D.eD du (fun vs H Q E h=>?_) (fun f dq A outer s H vs Q E hr h=>?_)
 ·obtain ⟨n,rfl,_⟩:=h; rfl
 ·obtain ⟨n,rfl,hn,q⟩:=h
  refine ⟨_,(ah (aC (i:=1) du.nd rfl (by first | exact Or.inl rfl | exact Or.inr rfl) (bN (aa (bN ag) ag)))
   (ah (bo (cw PySem.F.plainAttrs_list PySem.F.slot_list_extend PySem.F.type_list_extend fD (pv 1) (aa (fv (tg:=["one"]) (fr:=[]) (by walk_at "blk_ok") rfl (bj rfl T.range (aa (pv 0) ag)) (fun _ _ _ _ _=>(aJ (i:=0) (show [("one" : Str)].Nodup by decide +kernel) rfl (by first | exact Or.inl rfl | exact Or.inr rfl))) (fun _ _ _ _ _=>eR) (fun _ _ _ _ _=>(bN (aa (pv 0) ag)))) ag)))
   (ah (bU PassesOwn.never rfl (bj rfl T.range (aa (pv 0) ag)) (aJ (i:=2) du.nd rfl (by first | exact Or.inl rfl | exact Or.inr rfl))
   (aq (bo (cw PySem.F.plainAttrs_list PySem.F.slot_list_extend PySem.F.type_list_extend fD (pv 1) (aa (fv (tg:=["other"]) (fr:=[("one",2)]) (by walk_at "blk_ok") rfl (ka rfl T.range (aa (aE ck (pv 2) ao) (aa (pv 0) ag))) (fun _ _ _ _ _=>(aJ (i:=0) (show [("other" : Str),("one" : Str)].Nodup by decide +kernel) rfl (by first | exact Or.inl rfl | exact Or.inr rfl))) (fun _ _ _ _ _=>eR) (fun _ _ _ _ _=>(bN (aa (pv 1) (aa (pv 0) ag))))) ag)))))
   (aq (bw (pv 1)))))),?_⟩
  dsimp only [d9]
  walk_at "rd"
  refine ⟨Nat.zero_le _,fun z hz=>?_⟩
  have e0:ak H (upd H z (.lst [])):=ak.upd hz
  have z0:upd H z (.lst []) z = some (.lst (([]:List Int).map V.int)):=af
  generalize upd H z (.lst []) = H0 at e0 z0 ⊢
  walk_at "rd"
  refine ⟨by rw [PySem.sizeLine_eq]; simp,fun t ht=>?_⟩
  have tH:H t = none:=e0.free ht
  have ED:z≠t:=ay z0 ht
  have e1:ak H (upd H0 t (.lst [.ref z])):=e0.trans (ak.upd ht)
  have g1:aU (upd H0 t (.lst [.ref z])) t [z] [[]]:=⟨af,rfl,fun i a l h1 h2=>by
   cases i with
   | zero=>
    cases h1
    cases h2
    rw [ai ED]
    exact z0
   | succ i=>simp at h1⟩
  generalize upd H0 t (.lst [.ref z]) = H1 at e1 g1 ⊢
  walk_at "rd"
  refine ⟨.inl ⟨rfl,_,aG.of g1.top⟩,?_⟩
  walk_at "rd"
  refine dO ?_
  refine ⟨_,rfl,(n:Int),rfl,by omega,by omega,?_⟩
  rw [Int.toNat_natCast]
  intro acc bO
  refine cL (fun i σ' ys Hx=>∃ (bs:List Addr) (v:Option V),σ' = [v]∧ys = bs.map V.ref∧ak H1 Hx∧bs.length = i∧aU Hx acc bs (((cg n).map fun i:Int=>[i]).take i)∧(acc :: bs).Nodup∧∀ b∈acc :: bs,H1 b = none)
   ⟨[],none,rfl,rfl,ak.upd bO,rfl,⟨af,rfl,fun i a l z=>by simp at z⟩,by simp,by simpa using bO⟩ ?_ ?_
  ·rintro i σ' ys Hx hi ⟨bs,v,rfl,rfl,e2,rfl,g2,x6,vw⟩
   walk_at "rd"
   refine ⟨by rw [PySem.sizeLine_eq]; simp,fun c hc=>?_⟩
   have nc:=g2.hV hc
   have hl:((cg n).map fun i:Int=>[i])[bs.length]? = some [(bs.length:Int)]:=by rw [List.getElem?_map,uu hi]; rfl
   have e3:ak Hx (upd Hx c (.lst ([(bs.length:Int)].map V.int))):=ak.upd hc
   have c3:upd Hx c (.lst ([(bs.length:Int)].map V.int)) c = some (.lst ([(bs.length:Int)].map V.int)):=af
   have cH:H1 c = none:=e2.free hc
   have eE:upd Hx c (.lst [.int (0 + (bs.length:Int))]) = upd Hx c (.lst ([(bs.length:Int)].map V.int)):=by simp
   rw [eE]
   generalize upd Hx c (.lst ([(bs.length:Int)].map V.int)) = Hy at e3 c3 ⊢
   have g3:=g2.same e3
   have Ap:c≠acc:=fun z=>nc (z▸List.mem_cons_self)
   refine ⟨g3.top,by rw [List.length_map]; exact az (by omega),cW hi ⟨bs ++ [c],_,rfl,by simp,ak.fresh (e2.trans e3) (vw _ List.mem_cons_self),by simp,?_,?_,fun y hy=>?_⟩⟩
   ·rw [take_snoc hl]; exact g3.snoc (List.nodup_cons.mp x6).1 Ap c3
   ·obtain ⟨n1,n2⟩:=List.nodup_cons.mp x6
    refine List.nodup_cons.mpr ⟨fun z=>?_,gj.mpr ⟨fun z=>nc (List.mem_cons_of_mem _ z),n2⟩⟩
    rcases List.mem_append.mp z with z | z
    ·exact n1 z
    ·exact Ap (List.mem_singleton.mp z).symm
   ·rcases List.mem_cons.mp hy with z | z
    ·rw [z]; exact vw _ List.mem_cons_self
    ·rcases List.mem_append.mp z with z | z
     ·exact vw y (List.mem_cons_of_mem _ z)
     ·rw [List.mem_singleton.mp z]; exact cH
  ·rintro σ' ys H3 ⟨cs,v,rfl,rfl,e3,zj,g3,wB,rq⟩
   have gt:=g1.same e3
   have AO:((cg n).map fun i:Int=>[i]).length = n:=by rw [List.length_map,gc]
   rw [List.take_of_length_le (by rw [AO]; exact Nat.le_refl _)] at g3
   walk_at "rd"
   refine ⟨t,acc,_,_,rfl,rfl,gt.top,g3.top,by rw [List.length_map,List.length_map,g3.len,AO,PySem.sizeLine_eq]; simp; omega,?_⟩
   have nt:t∉cs:=fun zz=>by
    have:=rq t (List.mem_cons_of_mem _ zz)
    rw [g1.top] at this
    cases this
   have g4:aU (upd H3 t (.lst ([z].map V.ref ++ cs.map V.ref))) t ([z] ++ cs) (aS n 0):=gt.cat g3 (by simpa using Ne.symm ED) nt
   have nz:z∉cs:=fun zz=>by
    have:=rq z (List.mem_cons_of_mem _ zz)
    rw [g1.row 0 z [] rfl rfl] at this
    cases this
   have EN:(t :: ([z] ++ cs)).Nodup:=by
    refine List.nodup_cons.mpr ⟨fun zz=>?_,List.nodup_cons.mpr ⟨nz,(List.nodup_cons.mp wB).2⟩⟩
    rcases List.mem_cons.mp zz with w | w
    ·exact ED w.symm
    ·exact nt w
   have FW:∀ b∈t :: ([z] ++ cs),H b = none:=fun b hb=>by
    rcases List.mem_cons.mp hb with w | w
    ·rw [w]; exact tH
    ·rcases List.mem_cons.mp w with w | w
     ·rw [w]; exact hz
     ·exact e1.free (rq b (List.mem_cons_of_mem _ w))
   have e4:ak H (upd H3 t (.lst ([z].map V.ref ++ cs.map V.ref))):=ak.fresh (e1.trans e3) tH
   generalize upd H3 t (.lst ([z].map V.ref ++ cs.map V.ref)) = H4 at g4 e4 ⊢
   generalize [z] ++ cs = NG at g4 EN FW
   walk_at "rd"
   refine cD ?_
   refine ⟨_,rfl,(n:Int),rfl,by omega,by omega,?_⟩
   rw [Int.toNat_natCast]
   refine bI (fun one σ H5=>∃ (bs:List Addr) (v2:Option V),σ = [some (.int (n:Int)),some (.ref t),v2]∧ak H H5∧aU H5 t bs (aS n one)∧(t :: bs).Nodup∧∀ b∈t :: bs,H b = none) ⟨NG,none,rfl,e4,g4,EN,FW⟩ ?_ ?_
   ·clear g3 wB rq e3 gt nt nz g4 EN FW e4 zj
    rintro one σ H5 ho ⟨CO,v2,rfl,e5,g5,Ao,yC⟩
    simp only [Int.zero_add]
    walk_at "rd"
    refine ⟨.inl ⟨rfl,_,aG.of g5.top⟩,?_⟩
    walk_at "rd"
    refine dO ?_
    refine ⟨_,rfl,(one:Int),1,rfl,rfl,_,rfl,(one:Int) + 1,(n:Int),rfl,⟨by omega,by omega,by omega,by omega⟩,?_⟩
    rw [show ((n:Int) - ((one:Int) + 1)).toNat = n - (one + 1) by omega]
    intro acc bO
    refine cL (fun i σ' ys Hx=>∃ (bs:List Addr) (v:Option V),σ' = [v,some (.int (one:Int))]∧ys = bs.map V.ref∧ak H5 Hx∧bs.length = i∧aU Hx acc bs ((twos n one).take i)∧(acc :: bs).Nodup∧∀ b∈acc :: bs,H5 b = none)
     ⟨[],none,rfl,rfl,ak.upd bO,rfl,⟨af,rfl,fun i a l z=>by simp at z⟩,by simp,by simpa using bO⟩ ?_ ?_
    ·rintro i σ' ys Hx hi ⟨bs,v,rfl,rfl,e2,rfl,g2,x6,vw⟩
     walk_at "rd"
     intro c hc
     have nc:=g2.hV hc
     have hl:(twos n one)[bs.length]? = some [(one:Int),(one:Int) + 1 + (bs.length:Int)]:=twos_at hi
     have e3:ak Hx (upd Hx c (.lst ([(one:Int),(one:Int) + 1 + (bs.length:Int)].map V.int))):=ak.upd hc
     have c3:upd Hx c (.lst ([(one:Int),(one:Int) + 1 + (bs.length:Int)].map V.int)) c = some (.lst ([(one:Int),(one:Int) + 1 + (bs.length:Int)].map V.int)):=af
     have cH:H5 c = none:=e2.free hc
     have eE:upd Hx c (.lst [.int (one:Int),.int ((one:Int) + 1 + (bs.length:Int))]) = upd Hx c (.lst ([(one:Int),(one:Int) + 1 + (bs.length:Int)].map V.int)):=rfl
     rw [eE]
     generalize upd Hx c (.lst ([(one:Int),(one:Int) + 1 + (bs.length:Int)].map V.int)) = Hy at e3 c3 ⊢
     have g3:=g2.same e3
     have Ap:c≠acc:=fun z=>nc (z▸List.mem_cons_self)
     refine ⟨g3.top,by rw [List.length_map]; exact az (by omega),cW hi ⟨bs ++ [c],_,rfl,by simp,ak.fresh (e2.trans e3) (vw _ List.mem_cons_self),by simp,?_,?_,fun y hy=>?_⟩⟩
     ·rw [take_snoc hl]; exact g3.snoc (List.nodup_cons.mp x6).1 Ap c3
     ·obtain ⟨n1,n2⟩:=List.nodup_cons.mp x6
      refine List.nodup_cons.mpr ⟨fun z=>?_,gj.mpr ⟨fun z=>nc (List.mem_cons_of_mem _ z),n2⟩⟩
      rcases List.mem_append.mp z with z | z
      ·exact n1 z
      ·exact Ap (List.mem_singleton.mp z).symm
     ·rcases List.mem_cons.mp hy with z | z
      ·rw [z]; exact vw _ List.mem_cons_self
      ·rcases List.mem_append.mp z with z | z
       ·exact vw y (List.mem_cons_of_mem _ z)
       ·rw [List.mem_singleton.mp z]; exact cH
    ·rintro σ' ys H7 ⟨cs,v,rfl,rfl,e7,zj,g7,EM,ID⟩
     have gt:=g5.same e7
     rw [List.take_of_length_le (by rw [twos_len]; exact Nat.le_refl _)] at g7
     have sl:=iS n one (by omega)
     have m1:one * n≤60 * 60:=Nat.mul_le_mul (by omega) (by omega)
     walk_at "rd"
     refine ⟨t,acc,_,_,rfl,rfl,gt.top,g7.top,by rw [List.length_map,List.length_map,g7.len,gt.len,twos_len,PySem.sizeLine_eq]; omega,?_⟩
     have inc:∀ b∈t :: CO,b∉cs:=fun b hb zz=>g5.hV (ID b (List.mem_cons_of_mem _ zz)) hb
     have g8:=gt.cat g7 (List.nodup_cons.mp Ao).1 (inc t List.mem_cons_self)
     refine ⟨CO ++ cs,_,rfl,ak.fresh (e5.trans e7) (yC _ List.mem_cons_self),g8,?_,fun b hb=>?_⟩
     ·refine List.nodup_cons.mpr ⟨fun zz=>?_,List.nodup_append.mpr ⟨(List.nodup_cons.mp Ao).2,(List.nodup_cons.mp EM).2,fun a ha b hb e=>inc a (List.mem_cons_of_mem _ ha) (e▸hb)⟩⟩
      rcases List.mem_append.mp zz with w | w
      ·exact (List.nodup_cons.mp Ao).1 w
      ·exact inc t List.mem_cons_self w
     ·rcases List.mem_cons.mp hb with w | w
      ·rw [w]; exact yC _ List.mem_cons_self
      ·rcases List.mem_append.mp w with w | w
       ·exact yC b (List.mem_cons_of_mem _ w)
       ·exact e5.free (ID b (List.mem_cons_of_mem _ w))
   ·rintro σ H5 ⟨CO,v2,rfl,e5,g5,Ao,yC⟩
    walk_at "rd"
    exact q t CO H5 e5 g5 Ao yC
theorem iU:aR ["orders", "places"] ["orders"] (aw cq):=⟨rfl,rfl,rfl,by decide +kernel,rfl,by decide +kernel,by decide +kernel⟩
theorem om (D:Def K mg "parting" cq ["orders"]) (T:Txt K mg Z) (vp:dR P w K mg base (cV P w) "parts" 2 ["orders", "places"] mH) (jN:dR P w K mg base (cV P w) "short_lists" 1 ["size"] mE):dR P w K mg base (cV P w) "parting" 3 ["orders"] iP:=by
 refine D.eD iU (fun vs H Q E h=>?_) (fun f dq A outer s H vs Q E hr h=>?_)
 ·obtain ⟨p,as,L,rfl,_⟩:=h; rfl
 ·obtain ⟨p,as,L,rfl,g,im,hn,qn,qs⟩:=h
  refine ⟨_,(ah (bU PassesOwn.never rfl (de (aK jN hr bQ (aa (aB aF (by rfl) T.len aT (aa (pv 0) ag)) ag))) (aJ (i:=1) iU.nd rfl (by first | exact Or.inl rfl | exact Or.inr rfl))
   (aq (bY (xJ (aK vp hr bQ (aa (pv 0) (aa (pv 1) ag)))) (aq (bw (pv 1))) bh)))
   (aq (bw sC))),?_⟩
  dsimp only [d9]
  walk_at "rd"
  refine cD ?_
  refine iX (gR (si (gR (r_var rfl (j8 ?_)))))
  refine ⟨_,_,rfl,.inl ⟨_,aG.of g.top,rfl⟩,j8 ⟨L.length,by rw [List.length_map,g.len]; rfl,hn,fun t ts H1 F6 t1 qE jP=>?_⟩⟩
  refine ⟨t,rfl,⟨_,aG.of t1.top⟩,fb (K:=K) (a:=t) (xs:=ts.map V.ref) (fun i σ H2=>∃ v:Option V,σ = [some (.ref p),v]∧ak H1 H2∧∀ (k:Nat) (S:List Int),k < i→(aS L.length L.length)[k]? = some S→iZ L S = false) ⟨_,rfl,fun _ _ e=>e,fun k S hk _=>by omega⟩ (fun i σ H2 _ ⟨_,_,e,_⟩=>aG.of (e _ _ t1.top)) ?_ ?_⟩
  ·rintro i x σ H2 hx ⟨v,rfl,e2,no⟩
   have hi:i < (aS L.length L.length).length:=by
    have:=(List.getElem?_eq_some_iff.mp hx).1
    rw [List.length_map,t1.len] at this
    exact this
   obtain ⟨b,S,hb,hS,eY⟩:=t1.at hi
   obtain rfl:x = V.ref b:=by
    rw [List.getElem?_map,hb] at hx
    exact (Option.some.inj hx).symm
   walk_at "rd"
   refine ⟨p,b,as,L,S,rfl,(g.same F6).same e2,e2 _ _ eY,im,hn,fun H3 e3=>?_⟩
   walk_at "rd"
   cases hp:iZ L S with
   | true=>
    walk_at "rd"
    exact qs S (oz hS hp no) b H3 ((F6.trans e2).trans e3) (e3 _ _ (e2 _ _ eY))
   | false=>
    walk_at "rd"
    refine ⟨_,rfl,e2.trans e3,fun k S' hk AS=>?_⟩
    by_cases z:k < i
    ·exact no k S' z AS
    ·obtain rfl:k = i:=by omega
     rw [hS] at AS
     cases AS
     exact hp
  ·rintro σ H2 ⟨v,rfl,e2,no⟩
   rw [List.length_map,t1.len] at no
   walk_at "rd"
   exact qn (find_none no) H2 (F6.trans e2)
theorem cZ:aR ["orders", "one", "other", "ways", "place", "tie"] ["orders", "one", "other"] (aw bJ):=⟨rfl,rfl,rfl,by decide +kernel,rfl,by decide +kernel,by decide +kernel⟩
theorem lO (D:Def K mg "open_ways" bJ ["orders", "one", "other"]) (T:Txt K mg Z) (yB:dR P w K mg base (cV P w) "ties" 1 ["orders"] oN):dR P w K mg base (cV P w) "open_ways" 2 ["orders", "one", "other"] oO:=by
 refine D.eD cZ (fun vs H Q E h=>?_) (fun fa dq A outer s H vs Q E hr h=>?_)
 ·obtain ⟨p,as,L,a,b,rfl,_⟩:=h; rfl
 ·obtain ⟨p,as,L,a,b,rfl,gr,im,hn,ha,hb,ou,q⟩:=h
  refine ⟨_,(ah (aC (i:=3) cZ.nd rfl (by first | exact Or.inl rfl | exact Or.inr rfl) i8)
   (ah (bU PassesOwn.never rfl (bj rfl T.range (aa (aB aF (by rfl) T.len aT (aa (pv 0) ag)) ag)) (aJ (i:=4) cZ.nd rfl (by first | exact Or.inl rfl | exact Or.inr rfl))
   (ah (dJ (bL hr) (pv 3) (bG (aa (pv 4) (aa (bu rfl T.g_IN) ag))) (mW (iM hr) (bG (aa (pv 4) (aa (bu rfl T.g_OUT) ag))) gz) rfl)
   (aq (dJ (bL hr) (pv 3) (bG (aa (pv 4) (aa (bu rfl T.g_OUT) ag))) i8 rfl))))
   (ah (bU PassesOwn.never rfl (de (aK yB hr bQ (aa (pv 0) ag))) (aJ (i:=5) cZ.nd rfl (by first | exact Or.inl rfl | exact Or.inr rfl))
   (aq (bY (aN (xT (iM hr)) (pv 5) (bG (aa (aB (hE rfl) (by rfl) T.min oE (aa (pv 1) (aa (pv 2) ag))) (aa (aB (qX rfl) (by rfl) T.max yO (aa (pv 1) (aa (pv 2) ag))) ag))) (bg _)) (ah (dJ (bL hr) (dM (bL hr) (pv 3) (bG (aa (aX fV (pv 5) ao (fun _ _=>rfl)) (aa (bu rfl T.g_OUT) ag))) (fun _ _=>rfl)) (bG (aa (aX fV (pv 5) ao (fun _ _=>rfl)) (aa (bu rfl T.g_IN) ag))) gz rfl)
   (aq (dJ (bL hr) (dM (bL hr) (pv 3) (bG (aa (aX fV (pv 5) ao (fun _ _=>rfl)) (aa (bu rfl T.g_OUT) ag))) (fun _ _=>rfl)) (bG (aa (aX fV (pv 5) ao (fun _ _=>rfl)) (aa (bu rfl T.g_IN) ag))) gz rfl))) bh)))
   (aq (bw (pv 3)))))),?_⟩
  dsimp only [d9]
  walk_at "rd"
  intro wy Cr
  walk_at "rd"
  refine cD ?_
  have e0:ak H (upd H wy (.dT [])):=ak.upd Cr
  have W0:b9 (upd H wy (.dT [])) wy 0 N0 (kR [] fun _=>V.ref 0) (fun _=>0) (fun _=>[]):=⟨af,fun d h=>absurd h (Nat.not_lt_zero _),fun d h=>absurd h (Nat.not_lt_zero _),fun d h=>absurd h (Nat.not_lt_zero _),fun d e h=>absurd h (Nat.not_lt_zero _),fun d e h=>absurd h (Nat.not_lt_zero _),fun d e h=>absurd h (Nat.not_lt_zero _),fun d h=>absurd h (Nat.not_lt_zero _)⟩
  generalize upd H wy (.dT []) = H0 at e0 W0 ⊢
  refine ⟨_,rfl,_,_,rfl,.inl ⟨_,aG.of (e0 _ _ gr.top),rfl⟩,(L.length:Int),by rw [List.length_map,gr.len],by omega,by omega,?_⟩
  rw [Int.toNat_natCast]
  refine bI (fun i σ H1=>∃ (dl:List ab) (g:ab→Addr) (ks:ab→List ab) (v4 v5:Option V),σ = [some (.ref p),some (.int (a:Int)),some (.int (b:Int)),some (.ref wy),v4,v5]∧ak H H1∧(∀ d,d∈dl↔d.1 < i)∧dl.length = 2 * i∧b9 H1 wy i N0 (kR dl fun d=>V.ref (g d)) g ks∧∀ d:ab,d.1 < i→H (g d) = none)
   ⟨[],fun _=>0,fun _=>[],none,none,rfl,e0,by simp,rfl,W0,fun d h=>absurd h (Nat.not_lt_zero _)⟩ ?_ ?_
  ·rintro i σ H1 hi ⟨dl,g,ks,v4,v5,rfl,e1,yx,ll,W1,jP⟩
   simp only [Int.zero_add]
   walk_at "rd"
   refine pB fun p1 wK=>?_
   walk_at "rd"
   intro q1 vi
   walk_at "rd"
   have Ee:p1≠q1:=fun z=>by rw [← z,af] at vi; cases vi
   refine ⟨(ai Ee).trans af,q1,kd (i,true),.bl true,rfl,af,?_⟩
   have e2:ak H1 (upd (upd (upd H1 p1 (.dT [])) q1 (.tup [.int (i:Int),.int 1])) p1 (.dT [(kd (i,true),V.bl true)])):=ak.fresh ((ak.upd wK).trans (ak.upd vi)) wK
   have d2:upd (upd (upd H1 p1 (.dT [])) q1 (.tup [.int (i:Int),.int 1])) p1 (.dT [(kd (i,true),V.bl true)]) p1 = some (.dT (kR [(i,true)] fun _=>V.bl true)):=af
   generalize upd (upd (upd H1 p1 (.dT [])) q1 (.tup [.int (i:Int),.int 1])) p1 (.dT [(kd (i,true),V.bl true)]) = H2 at e2 d2 ⊢
   walk_at "rd"
   intro q2 wI
   have e3:ak H2 (upd H2 q2 (.tup [.int (i:Int),.int 0])):=ak.upd wI
   have k3:upd H2 q2 (.tup [.int (i:Int),.int 0]) q2 = some (.tup ((kd (i,false)).map kV)):=af
   generalize upd H2 q2 (.tup [.int (i:Int),.int 0]) = H3 at e3 k3 ⊢
   have t3:=e3 _ _ (e2 _ _ W1.top)
   have lk:(kR dl fun d=>V.ref (g d)).length < sizeLine:=by rw [eC,ll]; exact az (by omega)
   refine ⟨wy,_,rfl,fJ.t (k:=kd (i,false)) t3 k3 lk,?_⟩
   have w1:p1≠wy:=fun z=>by rw [z,W1.top] at wK; cases wK
   have o4:∀ b,b≠wy→upd H3 wy (.dT (putK (kR dl fun d=>V.ref (g d)) (kd (i,false)) (V.ref p1))) b = H3 b:=fun b nb=>ai nb
   have t4:upd H3 wy (.dT (putK (kR dl fun d=>V.ref (g d)) (kd (i,false)) (V.ref p1))) wy = some (.dT (putK (kR dl fun d=>V.ref (g d)) (kd (i,false)) (V.ref p1))):=af
   generalize upd H3 wy (.dT (putK (kR dl fun d=>V.ref (g d)) (kd (i,false)) (V.ref p1))) = H4 at o4 t4 ⊢
   walk_at "rd"
   intro p2 tD
   have e5:ak H4 (upd H4 p2 (.dT [])):=ak.upd tD
   have d5:upd H4 p2 (.dT []) p2 = some (.dT (kR [] fun _=>V.bl true)):=af
   generalize upd H4 p2 (.dT []) = H5 at e5 d5 ⊢
   walk_at "rd"
   intro q3 Fp
   have e6:ak H5 (upd H5 q3 (.tup [.int (i:Int),.int 1])):=ak.upd Fp
   have k6:upd H5 q3 (.tup [.int (i:Int),.int 1]) q3 = some (.tup ((kd (i,true)).map kV)):=af
   generalize upd H5 q3 (.tup [.int (i:Int),.int 1]) = H6 at e6 k6 ⊢
   have t6:=e6 _ _ (e5 _ _ t4)
   have n1:((i,false):ab)∉dl:=fun z=>by have:=(yx _).mp z; exact absurd this (Nat.lt_irrefl _)
   refine ⟨wy,_,rfl,fJ.t (k:=kd (i,true)) t6 k6 (by rw [jg n1,eC,List.length_append,ll]; exact az (by simp; omega)),?_⟩
   have w2:p2≠wy:=fun z=>by rw [z,t4] at tD; cases tD
   have h0:∀ b,b≠wy→∀ o,H1 b = some o→upd H6 wy (.dT (putK (putK (kR dl fun d=>V.ref (g d)) (kd (i,false)) (V.ref p1)) (kd (i,true)) (V.ref p2))) b = some o:=fun b nb o hb=>by
    rw [ai nb]
    exact e6 _ _ (e5 _ _ ((o4 b nb).trans (e3 _ _ (e2 _ _ hb))))
   have Ef:p1≠p2:=fun z=>by rw [← z,o4 p1 w1,e3 _ _ d2] at tD; cases tD
   have f2:H1 p2 = none:=by
    cases h:H1 p2 with
    | none=>rfl
    | some o=>rw [o4 p2 w2,e3 _ _ (e2 _ _ h)] at tD; cases tD
   obtain ⟨Bm,g',eW,FK,OT,W7,nw⟩:=W1.lay yx h0 wK f2 Ef (by rw [ai w1]; exact e6 _ _ (e5 _ _ ((o4 p1 w1).trans (e3 _ _ d2)))) (by rw [ai w2]; exact e6 _ _ d5) af
   refine ⟨Bm,g',eW,_,_,rfl,fun b o hb=>h0 b (fun z=>by rw [z,Cr] at hb; cases hb) o (e1 _ _ hb),FK,by omega,W7,fun d hd=>?_⟩
   rcases nw d hd with z | z | ⟨z1,z2⟩
   ·rw [z]; exact e1.free wK
   ·rw [z]; exact e1.free f2
   ·rw [z2]; exact jP d z1
  ·rintro σ H1 ⟨dl,g,ks,v4,v5,rfl,e1,yx,ll,W1,jP⟩
   walk_at "rd"
   refine cD ?_
   refine ⟨_,rfl,?_⟩
   refine ⟨p,as,L,rfl,gr.same e1,hn,im,fun t ps H2 e2 ht tt pr=>?_⟩
   refine ⟨t,rfl,⟨_,aG.of tt⟩,fb (K:=K) (a:=t) (xs:=ps.map V.ref) (fun k σ H3=>∃ (ks:ab→List ab) (v5:Option V),σ = [some (.ref p),some (.int (a:Int)),some (.int (b:Int)),some (.ref wy),v4,v5]∧ak H H3∧H3 t = some (.lst (ps.map V.ref))∧(∀ c xs,H2 c = some (.tup xs)→H3 c = some (.tup xs))∧b9 H3 wy L.length (Nk (cT L L.length) a b k) (kR dl fun d=>V.ref (g d)) g ks)
    ⟨ks,v5,rfl,e1.trans e2,tt,fun _ _ h=>h,(W1.same e2).congr fun d e _=>vJ d e⟩ (fun k σ H3 _ ⟨_,_,_,_,z,_⟩=>aG.of z) ?_ ?_⟩
   ·rintro k x σ H3 hx ⟨ks,v5,rfl,e3,t3,rm,W3⟩
    obtain ⟨c,hc,rfl⟩:∃ c,ps[k]? = some c∧x = V.ref c:=by
     rw [List.getElem?_map] at hx
     cases e:ps[k]? with
     | none=>rw [e] at hx; cases hx
     | some z=>rw [e] at hx; exact ⟨z,rfl,(Option.some.inj hx).symm⟩
    obtain ⟨⟨u,v⟩,hT,A2⟩:=Gm.PR.at pr hc
    have hm:=(cN (Nat.le_refl _)).mp (List.mem_of_getElem? hT)
    dsimp only at hm A2
    obtain ⟨u,rfl⟩:=Int.eq_ofNat_of_zero_le hm.1
    obtain ⟨v,rfl⟩:=Int.eq_ofNat_of_zero_le (show 0≤v by omega)
    have un:∀ {s:Bool},((u,s):ab).1 < L.length:=by intro s; show u < _; omega
    have vn:∀ {s:Bool},((v,s):ab).1 < L.length:=by intro s; show v < _; omega
    have c3:=rm _ _ A2
    walk_at "rd"
    refine ⟨_,_,rfl,?_⟩
    walk_at "rd"
    refine ⟨_,_,rfl,?_⟩
    walk_at "rd"
    intro q0 Ih
    refine z8 (SqT.of (ak.upd Ih _ _ c3)) (SqT.of af) ?_
    have e4:ak H3 (upd H3 q0 (.tup [.int (if (b:Int) < a then b else a),.int (if (b:Int) > a then b else a)])):=ak.upd Ih
    generalize upd H3 q0 (.tup [.int (if (b:Int) < a then b else a),.int (if (b:Int) > a then b else a)]) = H4 at e4 ⊢
    have c4:=e4 _ _ c3
    have W4:=W3.same e4
    have gt:∀ d:ab,d.1 < L.length→g d≠t:=fun d hd z=>by have:=W3.row d hd; rw [z,t3] at this; cases this
    walk_at "rd"
    refine d8 (fun nu=>?_) (fun he=>?_)
    ·have ex:¬ ((u = a∧v = b)∨(u = b∧v = a)):=fun z=>nu (by constructor <;> split <;> omega)
     walk_at "rd"
     refine eO (r_var rfl ?_)
     walk_at "rd"
     intro Cb Fo
     have yF:ak H4 (upd H4 Cb (.tup [.int (u:Int),.int 1])):=ak.upd Fo
     have HY:upd H4 Cb (.tup [.int (u:Int),.int 1]) Cb = some (.tup ((kd (u,true)).map kV)):=af
     generalize upd H4 Cb (.tup [.int (u:Int),.int 1]) = Ax at yF HY ⊢
     have ND:=yF _ _ c4
     refine ⟨wy,_,rfl,(W4.same yF).get HY un,?_⟩
     walk_at "rd"
     intro Ca Fn
     have zo:ak Ax (upd Ax Ca (.tup [.int (v:Int),.int 0])):=ak.upd Fn
     have HV:upd Ax Ca (.tup [.int (v:Int),.int 0]) Ca = some (.tup ((kd (v,false)).map kV)):=af
     generalize upd Ax Ca (.tup [.int (v:Int),.int 0]) = Bx at zo HV ⊢
     have CQ:=(W4.same yF).same zo
     have OV:=CQ.len (d:=(u,true)) un
     refine ⟨_,_,rfl,fJ.t (k:=kd (v,false)) (CQ.row _ un) HV (by rw [eC]; exact az (by omega)),?_⟩
     obtain ⟨LD,GZ⟩:=CQ.put un (p:=(v,false)) vn
     have Hf:=cY (.dT (putK (kR (ks (u,true)) fun _=>V.bl true) (kd (v,false)) (V.bl true))) (CQ.row (u,true) un) (fun xs z=>by cases z)
     have cX:=Hf _ _ (zo _ _ ND)
     have tX:upd Bx (g (u,true)) (.dT (putK (kR (ks (u,true)) fun _=>V.bl true) (kd (v,false)) (V.bl true))) t = some (.lst (ps.map V.ref)):=(ai (gt _ un).symm).trans (zo _ _ (yF _ _ (e4 _ _ t3)))
     have oX:ak H (upd Bx (g (u,true)) (.dT (putK (kR (ks (u,true)) fun _=>V.bl true) (kd (v,false)) (V.bl true)))):=fun b o hb=>by
      rw [ai (fun z=>by rw [z,jP _ un] at hb; cases hb)]
      exact zo _ _ (yF _ _ (e4 _ _ (e3 _ _ hb)))
     have Hh:∀ c xs,H2 c = some (.tup xs)→upd Bx (g (u,true)) (.dT (putK (kR (ks (u,true)) fun _=>V.bl true) (kd (v,false)) (V.bl true))) c = some (.tup xs):=fun c xs h=>Hf _ _ (zo _ _ (yF _ _ (e4 _ _ (rm c xs h))))
     generalize upd Bx (g (u,true)) (.dT (putK (kR (ks (u,true)) fun _=>V.bl true) (kd (v,false)) (V.bl true))) = HX at GZ cX tX oX Hh ⊢
     walk_at "rd"
     refine eO (r_var rfl ?_)
     walk_at "rd"
     intro B9 Fm
     have yE:ak HX (upd HX B9 (.tup [.int (v:Int),.int 1])):=ak.upd Fm
     have HW:upd HX B9 (.tup [.int (v:Int),.int 1]) B9 = some (.tup ((kd (v,true)).map kV)):=af
     generalize upd HX B9 (.tup [.int (v:Int),.int 1]) = Ay at yE HW ⊢
     have Pj:=yE _ _ cX
     refine ⟨wy,_,rfl,(GZ.same yE).get HW vn,?_⟩
     walk_at "rd"
     intro B8 Fj
     have Bj:ak Ay (upd Ay B8 (.tup [.int (u:Int),.int 0])):=ak.upd Fj
     have HU:upd Ay B8 (.tup [.int (u:Int),.int 0]) B8 = some (.tup ((kd (u,false)).map kV)):=af
     generalize upd Ay B8 (.tup [.int (u:Int),.int 0]) = By at Bj HU ⊢
     have CP:=(GZ.same yE).same Bj
     have OU:=CP.len (d:=(v,true)) vn
     refine ⟨_,_,rfl,fJ.t (k:=kd (u,false)) (CP.row _ vn) HU (by rw [eC]; exact az (by omega)),?_⟩
     obtain ⟨LC,NU⟩:=CP.put vn (p:=(u,false)) un
     have Jn:=cY (.dT (putK (kR (LD (v,true)) fun _=>V.bl true) (kd (u,false)) (V.bl true))) (CP.row (v,true) vn) (fun xs z=>by cases z)
     refine ⟨LC,_,rfl,fun b o hb=>?_,(ai (gt _ vn).symm).trans (Bj _ _ (yE _ _ tX)),fun c xs h=>Jn _ _ (Bj _ _ (yE _ _ (Hh c xs h))),NU.congr fun d e _=>yY hT ex d e⟩
     rw [ai (fun z=>by rw [z,jP _ vn] at hb; cases hb)]
     exact Bj _ _ (yE _ _ (oX _ _ hb))
    ·have ex:(u = a∧v = b)∨(u = b∧v = a):=by obtain ⟨h1,h2⟩:=he; split at h1 <;> split at h2 <;> omega
     exact ⟨ks,_,rfl,e3.trans e4,e4 _ _ t3,fun c xs h=>e4 _ _ (rm c xs h),W4.congr fun d e _=>vK hT ex d e⟩
   ·rintro σ H3 ⟨ks,v5,rfl,e3,t3,rm,W3⟩
    rw [List.length_map,PR.len pr] at W3
    walk_at "rd"
    exact q wy _ g ks H3 e3 Cr jP (W3.congr fun d e hd=>yX im d e hd)
theorem b6:aR ["ways", "start", "ahead", "waiting", "door", "beyond"] ["ways", "start"] (aw bx):=⟨rfl,rfl,rfl,by decide +kernel,rfl,by decide +kernel,by decide +kernel⟩
theorem jI (D:Def K mg "doors_from" bx ["ways", "start"]) (T:Txt K mg Z):dR P w K mg base (cV P w) "doors_from" 1 ["ways", "start"] mI:=by
 refine D.eD b6 (fun vs H Q E h=>?_) (fun f dq A outer s H vs Q E hr h=>?_)
 ·obtain ⟨wy,sp,n,N,aj,g,ks,st,rfl,_⟩:=h; rfl
 ·obtain ⟨wy,sp,n,N,aj,g,ks,st,rfl,W,Ff,hn,nR,q⟩:=h
  refine ⟨_,(ah (aC (i:=2) b6.nd rfl (by first | exact Or.inl rfl | exact Or.inr rfl) (mW (iM hr) (pv 1) sC))
   (ah (aC (i:=3) b6.nd rfl (by first | exact Or.inl rfl | exact Or.inr rfl) (bN (aa (pv 1) ag)))
   (ah (eP PassesOwn.never (aN kh (aB aF (by rfl) T.len aT (aa (pv 3) ag)) ao (bg _)) (ah (aC (i:=4) b6.nd rfl (by first | exact Or.inl rfl | exact Or.inr rfl) (cw PySem.F.plainAttrs_list PySem.F.slot_list_pop PySem.F.type_list_pop sQ (pv 3) (aa ao ag)))
   (aq (uR (bU PassesOwn.never rfl (su (dM (bL hr) (pv 0) (pv 4) (fun _ _=>rfl))) (aJ (i:=5) b6.nd rfl (by first | exact Or.inl rfl | exact Or.inr rfl))
   (aq (bY (dP (dr (bL hr) (pv 5) (pv 2))) (ah (dJ (bL hr) (pv 2) (pv 5) (pv 4) rfl)
   (aq (bo (cw PySem.F.plainAttrs_list PySem.F.slot_list_append PySem.F.type_list_append cG (pv 3) (aa (pv 5) ag))))) bh)))))))
   (aq (bw (pv 2)))))),?_⟩
  dsimp only [d9]
  walk_at "rd"
  refine pB fun t ht=>?_
  walk_at "rd"
  have Jo:t≠sp:=fun z=>by rw [z,nR] at ht; cases ht
  refine ⟨af,sp,kd st,.bK,rfl,by rw [ai (Ne.symm Jo)]; exact nR,?_⟩
  have e0:ak H (upd (upd H t (.dT [])) t (.dT [(kd st,V.bK)])):=ak.fresh (ak.upd ht) ht
  have a0:mz (upd (upd H t (.dT [])) t (.dT [(kd st,V.bK)])) t [(st,none)] (fun _=>V.bK):=⟨af,fun d o hd=>by
   have:=List.mem_singleton.mp hd
   injection this with h1 h2
   subst h2; rfl⟩
  generalize upd (upd H t (.dT [])) t (.dT [(kd st,V.bK)]) = H0 at e0 a0 ⊢
  walk_at "rd"
  refine ⟨by rw [PySem.sizeLine_eq]; simp,fun wq hw=>?_⟩
  have wf:H wq = none:=e0.free hw
  have w0:upd H0 wq (.lst [V.ref sp]) wq = some (.lst (([sp]:List Addr).map V.ref)):=af
  have a1:mz (upd H0 wq (.lst [V.ref sp])) t [(st,none)] (fun _=>V.bK):=a0.keep (ai (ay a0.top hw)) fun c xs e=>ak.upd hw _ _ e
  have d0:DR (upd H0 wq (.lst [V.ref sp])) [sp] [st]:=.cons (ak.upd hw _ _ (e0 _ _ nR)) .nil
  have e1:ak H (upd H0 wq (.lst [V.ref sp])):=e0.trans (ak.upd hw)
  have wt:wq≠t:=(ay a0.top hw).symm
  generalize upd H0 wq (.lst [V.ref sp]) = H1 at w0 a1 d0 e1 ⊢
  walk_at "rd"
  refine fZ (fun σ H1=>∃ (cJ:List (ab×Option ab)) (r:ab→V) (ws:List ab) (cs:List Addr) (v4 v5:Option V),σ = [some (.ref wy),some (.ref sp),some (.ref t),some (.ref wq),v4,v5]∧ak H H1∧mz H1 t cJ r∧H1 wq = some (.lst (cs.map V.ref))∧DR H1 cs ws∧Bf n N st cJ ws∧cs.length≤cJ.length)
   (fun _ H1=>match H1 t,H1 wq with | some (.dT aj),some (.lst xs)=>2 * (2 * n - aj.length) + xs.length | _,_=>0) ⟨[(st,none)],_,[st],[sp],none,none,rfl,e1,a1,w0,d0,Bf.start Ff,Nat.le_refl _⟩ ?_
  clear e0 a0 hw w0 a1 d0 e1 H0 H1
  rintro σ H1 ⟨cJ,r,ws,cs,v4,v5,rfl,e1,a1,w1,d1,bf,cf⟩
  walk_at "rd"
  refine ⟨_,_,rfl,.inl ⟨_,aG.of w1,rfl⟩,?_⟩
  rw [List.length_map]
  walk_at "rd"
  refine if2 (fun fW=>?_) (fun fW=>?_)
  ·refine w_turn ?_
   rw [a1.top,w1]
   dsimp only
   rw [eC,List.length_map,List.length_map]
   cases d1 with
   | nil=>simp at fW
   | @cons c x cs ws hc d1=>
   have hx:x.1 < n:=bf.rg x (bf.sub x (.head _))
   have hlen:=bf.len
   walk_at "rd"
   refine ⟨.inl ⟨rfl,_,aG.of w1⟩,?_⟩
   refine ⟨wq,_,0,0,.ref c,rfl,rfl,w1,by decide,by decide,by simp [seqIndex?],rfl,?_⟩
   have e2:ak H (upd H1 wq (.lst ((cs.map V.ref)))):=ak.fresh e1 wf
   have vT:=cY (.lst (cs.map V.ref)) w1 (fun xs z=>by cases z)
   have a2:mz (upd H1 wq (.lst (cs.map V.ref))) t cJ r:=a1.keep (ai wt.symm) vT
   have w2:upd H1 wq (.lst (cs.map V.ref)) wq = some (.lst (cs.map V.ref)):=af
   have d2:DR (upd H1 wq (.lst (cs.map V.ref))) cs ws:=d1.mono vT
   have c2:=vT _ _ hc
   have er:(List.map V.ref (c :: cs)).eraseIdx 0 = cs.map V.ref:=rfl
   rw [er]
   generalize upd H1 wq (.lst (cs.map V.ref)) = H2 at e2 a2 w2 d2 c2 ⊢
   walk_at "rd"
   have gx:=e2 _ _ (W.row x hx)
   refine xD ?_
   refine cD ?_
   refine se ?_
   refine eO ?_
   refine ⟨_,rfl,_,rfl,wy,_,rfl,(W.same e2).get c2 hx,?_⟩
   refine ⟨g x,_,rfl,gx,fun o=>?_⟩
   have gt:g x≠t:=fun z=>by have:=W.row x hx; rw [z,ht] at this; cases this
   have gw:g x≠wq:=fun z=>by have:=W.row x hx; rw [z,wf] at this; cases this
   have rm:=cY (.eG o (.dT (kR (ks x) fun _=>V.bl true))) gx (fun xs z=>by cases z)
   have k3:∀ b u,b≠g x→H b = some u→upd H2 (g x) (.eG o (.dT (kR (ks x) fun _=>V.bl true))) b = some u:=fun b u nb hb=>by rw [ai nb]; exact e2 _ _ hb
   have a3:=a2.keep (H':=upd H2 (g x) (.eG o (.dT (kR (ks x) fun _=>V.bl true)))) (ai gt.symm) rm
   have w3:upd H2 (g x) (.eG o (.dT (kR (ks x) fun _=>V.bl true))) wq = some (.lst (cs.map V.ref)):=by rw [ai gw.symm]; exact w2
   have d3:=d2.mono rm
   have c3:=rm _ _ c2
   have g3:upd H2 (g x) (.eG o (.dT (kR (ks x) fun _=>V.bl true))) (g x) = some (.eG o (.dT (kR (ks x) fun _=>V.bl true))):=af
   generalize upd H2 (g x) (.eG o (.dT (kR (ks x) fun _=>V.bl true))) = H3 at k3 a3 w3 d3 c3 g3 ⊢
   clear e2 a2 w2 d2 c2 gx rm H2
   refine qP (fun k σ H3=>∃ (fX:List (ab×Option ab)) (r':ab→V) (jU:List ab) (qV:List Addr) (v5:Option V),σ = [some (.ref wy),some (.ref sp),some (.ref t),some (.ref wq),some (.ref c),v5]∧(∀ b u,b≠g x→H b = some u→H3 b = some u)∧H3 (g x) = some (.eG o (.dT (kR (ks x) fun _=>V.bl true)))∧H3 c = some (.tup ((kd x).map kV))∧mz H3 t fX r'∧H3 wq = some (.lst (qV.map V.ref))∧DR H3 qV jU∧Bi n N st fX jU x (ks x) k∧2 * (2 * n - fX.length) + qV.length < 2 * (2 * n - cJ.length) + (c :: cs).length∧qV.length≤fX.length)
    ⟨cJ,r,ws,cs,v5,rfl,k3,g3,c3,a3,w3,d3,bf.pop _,by simp,Nat.le_of_succ_le cf⟩ (fun k σ H3 _ ⟨_,_,_,_,_,_,_,z,_⟩=>z) ?_ ?_
   ·clear k3 a3 w3 d3 c3 g3 H3
    rintro k key v b σ H3 hk hb ⟨fX,r',jU,qV,v5,rfl,k3,g3,c3,a3,w3,d3,bi,ms,GB⟩
    obtain ⟨e,he,rfl,_⟩:=Au hk
    have hN:N x e:=(W.mem x e hx).mp (List.mem_of_getElem? he)
    have en:e.1 < n:=W.rg x e hx hN
    walk_at "rd"
    refine ⟨t,_,rfl,cz.t (k:=kd e) a3.top hb,?_⟩
    rw [jh]
    walk_at "rd"
    refine d8 (fun wL=>?_) (fun AD=>?_)
    ·have ba:=bi.add he wL hN en
     have lb:=ba.len
     rw [List.length_append,List.length_singleton] at lb
     have lw:qV.length≤1000:=by
      have:=bi.len
      omega
     walk_at "rd"
     refine ⟨t,_,rfl,fJ.t (k:=kd e) a3.top hb (by rw [eC,List.length_map]; exact az (by omega)),?_⟩
     have vS:=cY (.dT (putK (kR (fX.map Prod.fst) r') (kd e) (.ref c))) a3.top (fun xs z=>by cases z)
     have a4:=a3.add (H':=upd H3 t (.dT (putK (kR (fX.map Prod.fst) r') (kd e) (.ref c)))) wL (vS _ _ c3) af vS
     have w4:upd H3 t (.dT (putK (kR (fX.map Prod.fst) r') (kd e) (.ref c))) wq = some (.lst (qV.map V.ref)):=by rw [ai wt]; exact w3
     have d4:=d3.mono vS
     have c4:=vS _ _ c3
     have b4:=vS _ _ hb
     have g4:upd H3 t (.dT (putK (kR (fX.map Prod.fst) r') (kd e) (.ref c))) (g x) = _:=(ai gt).trans g3
     have k4:∀ b u,b≠g x→H b = some u→upd H3 t (.dT (putK (kR (fX.map Prod.fst) r') (kd e) (.ref c))) b = some u:=fun b u nb hb=>by
      rw [ai (fun z=>by rw [z,ht] at hb; cases hb)]; exact k3 b u nb hb
     generalize upd H3 t (.dT (putK (kR (fX.map Prod.fst) r') (kd e) (.ref c))) = H4 at a4 w4 d4 c4 b4 g4 k4 ⊢
     walk_at "rd"
     refine ⟨.inl ⟨rfl,_,aG.of w4⟩,?_⟩
     walk_at "rd"
     refine dY w4 (by rw [List.length_map]; exact az (by omega)) ?_
     have BU:=cY (.lst (qV.map V.ref ++ [V.ref b])) w4 (fun xs z=>by cases z)
     refine ⟨fX ++ [(e,some x)],_,jU ++ [e],qV ++ [b],_,rfl,fun b u nb hb=>?_,(ai gw).trans g4,BU _ _ c4,a4.keep (ai wt.symm) BU,by rw [List.map_append]; exact af,(d4.mono BU).add (BU _ _ b4),ba,?_,by simp only [List.length_append,List.length_cons,List.length_nil]; omega⟩
     ·rw [ai (fun z=>by rw [z,wf] at hb; cases hb)]; exact k4 b u nb hb
     ·rw [List.length_append,List.length_append,List.length_singleton]
      simp only [List.length_cons,List.length_nil] at ms ⊢
      omega
    ·walk_at "rd"
     exact ⟨fX,r',jU,qV,_,rfl,k3,g3,c3,a3,w3,d3,bi.skip he AD,ms,GB⟩
   ·clear k3 a3 w3 d3 c3 g3 H3
    rintro σ H3 ⟨fX,r',jU,qV,v5,rfl,k3,g3,c3,a3,w3,d3,bi,ms,GB⟩
    rw [eC] at bi
    have vS:=cY (.dT (kR (ks x) fun _=>V.bl true)) g3 (fun xs z=>by cases z)
    have a4:=a3.keep (H':=upd H3 (g x) (.dT (kR (ks x) fun _=>V.bl true))) (ai gt.symm) vS
    have w4:upd H3 (g x) (.dT (kR (ks x) fun _=>V.bl true)) wq = some (.lst (qV.map V.ref)):=(ai gw.symm).trans w3
    refine ⟨g x,o,_,g3,fun o' u' z=>?_,⟨fX,r',jU,qV,_,_,rfl,fun b u hb=>?_,a4,w4,d3.mono vS,bi.done fun e he=>(W.mem x e hx).mpr he,GB⟩,?_⟩
    ·have z:H (g x) = _:=z
     rw [W.row x hx] at z
     cases z
    ·by_cases nb:b = g x
     ·rw [nb,af,← W.row x hx,← nb]; exact hb
     ·rw [ai nb]; exact k3 b u nb hb
    ·rw [a4.top,w4]
     dsimp only
     rw [eC,List.length_map,List.length_map]
     exact ms
  ·have Iv:cs = []:=by
    cases cs with
    | nil=>rfl
    | cons c cs=>simp at fW
   subst Iv
   cases d1
   walk_at "rd"
   exact q t cJ r H1 e1 ht a1 bf
theorem gk:aR ["ways", "ahead", "goal", "door", "last"] ["ways", "ahead", "goal"] (aw dI):=⟨rfl,rfl,rfl,by decide +kernel,rfl,by decide +kernel,by decide +kernel⟩
theorem sH (D:Def K mg "go_to" dI ["ways", "ahead", "goal"]) (T:Txt K mg Z):dR P w K mg base (cV P w) "go_to" 1 ["ways", "ahead", "goal"] oP:=by
 refine D.eD gk (fun vs H Q E h=>?_) (fun fa dq A outer s H vs Q E hr h=>?_)
 ·obtain ⟨wy,t,gp,n,N,a,b,f,i,aj,g,ks,cJ,r,rfl,_⟩:=h; rfl
 ·obtain ⟨wy,t,gp,n,TT,a,b,f,i,aj,g,ks,cJ,r,rfl,W,Ah,off,My,fn,hb,F,N,hn,q⟩:=h
  refine ⟨_,(ah (aC (i:=3) gk.nd rfl (by first | exact Or.inl rfl | exact Or.inr rfl) (pv 2))
   (aq (eP PassesOwn.never (dP (uY (dM (bL hr) (pv 1) (pv 3) (fun _ _=>rfl)))) (ah (aC (i:=4) gk.nd rfl (by first | exact Or.inl rfl | exact Or.inr rfl) (dM (bL hr) (pv 1) (pv 3) (fun _ _=>rfl)))
   (ah (dJ (bL hr) (dM (bL hr) (pv 0) (pv 3) (fun _ _=>rfl)) (pv 4) gz rfl)
   (ah (bY (PW.pt (pw_or (aN ki (aX fV (pv 4) ao (fun _ _=>rfl)) (aX fV (pv 3) ao (fun _ _=>rfl)) (bg _)) (pw_or1 (aN ki (aX fV (pv 4) ao (fun _ _=>rfl)) (bu rfl T.g_IN) (bg _))))) (aq (bo (sD (bL hr) (dM (bL hr) (pv 0) (pv 4) (fun _ _=>rfl)) (pv 3) ⟨rfl,rfl,rfl,rfl⟩))) bh)
   (aq (aC (i:=3) gk.nd rfl (by first | exact Or.inl rfl | exact Or.inr rfl) (pv 4))))))))),?_⟩
  dsimp only [d9]
  walk_at "rd"
  have O6:(b,false)∈cJ.map Prod.fst:=by obtain ⟨o,h⟩:=hb; exact List.mem_map.mpr ⟨_,h,rfl⟩
  refine fZ (fun σ H1=>∃ (x:ab) (c:Addr) (f':Fw.Flow) (eW:ab→List ab) (v4:Option V),σ = [some (.ref wy),some (.ref t),some (.ref gp),some (.ref c),v4]∧(∀ c o,(∀ d:ab,d.1 < n→c≠g d)→H c = some o→H1 c = some o)∧H1 c = some (.tup ((kd x).map kV))∧b9 H1 wy n (Res TT f') aj g eW∧mz H1 t cJ r∧Go n TT a b f cJ x f')
   (fun σ H1=>vz cJ (σ.getD 3 none) H1) ⟨(b,false),gp,f,ks,none,rfl,fun c o _ h=>h,My,W,Ah,Go.start F hb⟩ ?_
  rintro σ H1 ⟨x,c,f',eW,v4,rfl,k1,c1,W1,A1,G1⟩
  obtain ⟨o,ho⟩:=G1.xk
  have xk:x∈cJ.map Prod.fst:=List.mem_map.mpr ⟨_,ho,rfl⟩
  have xn:x.1 < n:=fn.rg x xk
  have av:=A1.val x o ho
  walk_at "rd"
  refine eO ?_
  refine ⟨_,rfl,_,rfl,t,_,rfl,A1.get c1 xk,?_⟩
  cases o with
  | none=>
   have av:r x = V.bK:=av
   rw [av]
   walk_at "rd"
   refine d8 (fun h=>absurd rfl h) (fun _=>?_)
   exact q f' eW H1 k1 W1 (G1.done F fn ho)
  | some p=>
   obtain ⟨cp,ev,hp⟩:=av
   obtain ⟨DG,_,op,Mh⟩:=fn.up ho
   have pk:p∈cJ.map Prod.fst:=List.mem_map.mpr ⟨_,Mh,rfl⟩
   have pn:p.1 < n:=fn.rg p pk
   have r0:=G1.open F N fn ho
   have G2:=G1.step F N fn ho
   rw [ev]
   walk_at "rd"
   refine d8 (fun _=>?_) (fun h=>by cases h)
   refine w_turn ?_
   walk_at "rd"
   refine eO ?_
   refine ⟨_,rfl,_,rfl,t,_,rfl,A1.get c1 xk,?_⟩
   rw [ev]
   walk_at "rd"
   refine eO ?_
   refine ⟨_,rfl,_,rfl,wy,_,rfl,W1.get c1 xn,?_⟩
   walk_at "rd"
   refine ⟨g x,_,rfl,fJ.t (k:=kd p) (W1.row x xn) hp (by rw [eC]; have:=W1.len xn; exact az (by omega)),?_⟩
   obtain ⟨lx,ex,nx,mx⟩:∃ lx:List ab,putK (kR (eW x) fun _=>V.bl true) (kd p) (V.bl true) = kR lx (fun _=>V.bl true)∧lx.Nodup∧∀ e,e∈lx↔e∈eW x∨e = p:=by
    by_cases h:p∈eW x
    ·exact ⟨eW x,je h,W1.nd x xn,fun e=>⟨.inl,fun z=>z.elim id fun z=>z▸h⟩⟩
    ·refine ⟨eW x ++ [p],jf h,?_,fun e=>by simp⟩
     refine List.nodup_append.mpr ⟨W1.nd x xn,by simp,fun d hd d' vm z=>h ?_⟩
     rw [← List.mem_singleton.mp vm,← z]; exact hd
   rw [ex]
   have vT:=cY (.dT (kR lx fun _=>V.bl true)) (W1.row x xn) (fun xs z=>by cases z)
   have c2:=vT _ _ c1
   have p2:=vT _ _ hp
   have g2:upd H1 (g x) (.dT (kR lx fun _=>V.bl true)) (g x) = some (.dT (kR lx fun _=>V.bl true)):=af
   have o2:∀ b,b≠g x→upd H1 (g x) (.dT (kR lx fun _=>V.bl true)) b = H1 b:=fun b nb=>ai nb
   have a2:=A1.keep (H':=upd H1 (g x) (.dT (kR lx fun _=>V.bl true))) (ai (off x xn).symm) vT
   have px:p≠x:=fun z=>by rw [z] at r0; exact r0.wd rfl
   have IB:g p≠g x:=fun z=>px (W1.inj _ _ pn xn z)
   have Bc:upd H1 (g x) (.dT (kR lx fun _=>V.bl true)) (g p) = some (.dT (kR (eW p) fun _=>V.bl true)):=(ai IB).trans (W1.row p pn)
   have t2:upd H1 (g x) (.dT (kR lx fun _=>V.bl true)) wy = some (.dT aj):=(ai (W1.off x xn).symm).trans W1.top
   generalize upd H1 (g x) (.dT (kR lx fun _=>V.bl true)) = H2 at vT c2 p2 g2 o2 a2 Bc t2 ⊢
   have pd:∃ s:Int,(kd p).map kV = [.int (p.1:Int),.int s]∧(s = 0↔p.2 = false):=by
    obtain ⟨u,s⟩:=p
    cases s
    ·exact ⟨0,rfl,by simp⟩
    ·exact ⟨1,rfl,by simp⟩
   have xd:∃ s:Int,(kd x).map kV = [.int (x.1:Int),.int s]:=by
    obtain ⟨u,s⟩:=x
    cases s
    ·exact ⟨0,rfl⟩
    ·exact ⟨1,rfl⟩
   obtain ⟨sp,ep,Pc⟩:=pd
   obtain ⟨sx,O8⟩:=xd
   have pop:p.1 = x.1∨p.2 = false→∀ R:VK,(∀ (v:V) (H':Hp) (lV:ab→List ab),(∀ c o,(∀ d:ab,d.1 < n→c≠g d)→H c = some o→H' c = some o)→H' cp = some (.tup ((kd p).map kV))→b9 H' wy n (Res TT (f'.push p x)) aj g lV→mz H' t cJ r→R v H')→rM (rN (qu 0) (qu 4)) (qu 3) [some (.ref wy),some (.ref t),some (.ref gp),some (.ref c),some (.ref cp)] H2 R:=by
    intro cond R hR
    have xp:x∈eW p:=(W1.mem p x pn).mpr r0
    obtain ⟨j,hj⟩:=List.mem_iff_getElem?.mp xp
    refine eO ?_
    have dg:=cz.t (k:=kd p) t2 p2
    rw [W1.val p pn] at dg
    refine ⟨_,rfl,_,rfl,wy,_,rfl,dg,g p,rfl,.inr ⟨_,.inl Bc⟩,_,rfl,_,j,kd x,.bl true,c,Bc,rfl,c2,Av hj,?_⟩
    rw [vb]
    have rm:=cY (.dT (kR ((eW p).eraseIdx j) fun _=>V.bl true)) Bc (fun xs z=>by cases z)
    refine hR _ _ _ (fun c o hc ho=>?_) (rm _ _ p2) (W1.push pn xn N.sym N.ro G1.gK r0 lx ((eW p).eraseIdx j) nx mx ((W1.nd p pn).sublist (List.eraseIdx_sublist _ _)) (fun e=>?_) ((ai IB.symm).trans g2) af (fun b n1 n2=>(ai n2).trans (o2 b n1))) (a2.keep (ai (off p pn).symm) rm)
    ·rw [ai (hc p pn),o2 c (hc x xn)]; exact k1 c o hc ho
    ·rw [sR (W1.nd p pn) hj]
     exact ⟨fun z=>⟨z.1,fun y=>absurd y z.2⟩,fun z=>⟨z.1,fun y=>z.2 y cond⟩⟩
   have keep:¬ (p.1 = x.1∨p.2 = false)→∃ (lV:ab→List ab),(∀ c o,(∀ d:ab,d.1 < n→c≠g d)→H c = some o→H2 c = some o)∧H2 cp = some (.tup ((kd p).map kV))∧b9 H2 wy n (Res TT (f'.push p x)) aj g lV∧mz H2 t cJ r:=by
    intro cond
    refine ⟨_,fun c o hc ho=>?_,p2,W1.push pn xn N.sym N.ro G1.gK r0 lx (eW p) nx mx (W1.nd p pn) (fun e=>⟨fun z=>⟨z,fun _=>cond⟩,fun z=>z.1⟩) g2 Bc (fun b n1 _=>o2 b n1),a2⟩
    rw [o2 c (hc x xn)]; exact k1 c o hc ho
   walk_at "rd"
   refine ⟨rfl,_,rfl,if2 (fun h1=>?_) (fun h1=>?_)⟩
   ·have h1:p.1 = x.1:=by injection h1 with h1; omega
    rw [if_pos rfl]
    refine pop (.inl h1) _ fun v H' lV k3 c3 W3 A3=>?_
    walk_at "rd"
    refine ⟨⟨p,cp,_,lV,_,rfl,k3,c3,W3,A3,G2⟩,?_⟩
    show vz cJ (some (V.ref cp)) _ < vz cJ (some (V.ref c)) H1
    rw [gZ c3,gZ c1]
    exact DG
   ·have h1:¬ p.1 = x.1:=fun z=>h1 (by rw [z])
    walk_at "rd"
    refine ⟨rfl,_,rfl,?_⟩
    refine if2 (fun h2=>?_) (fun h2=>?_)
    ·have h2:p.2 = false:=by
      obtain ⟨u,s⟩:=p
      cases s
      ·rfl
      ·injection h2 with h2; simp at h2
     refine pop (.inr h2) _ fun v H' lV k3 c3 W3 A3=>?_
     walk_at "rd"
     refine ⟨⟨p,cp,_,lV,_,rfl,k3,c3,W3,A3,G2⟩,?_⟩
     show vz cJ (some (V.ref cp)) _ < vz cJ (some (V.ref c)) H1
     rw [gZ c3,gZ c1]
     exact DG
    ·have h2:¬ p.2 = false:=fun z=>h2 (by
      obtain ⟨u,s⟩:=p
      cases s
      ·rfl
      ·cases z)
     obtain ⟨lV,k3,c3,W3,A3⟩:=keep (fun z=>z.elim h1 h2)
     walk_at "rd"
     refine ⟨⟨p,cp,_,lV,_,rfl,k3,c3,W3,A3,G2⟩,?_⟩
     show vz cJ (some (V.ref cp)) _ < vz cJ (some (V.ref c)) H1
     rw [gZ c3,gZ c1]
     exact DG
theorem nY:aR ["orders", "ways", "place"] ["orders", "ways", "place"] (aw cu):=⟨rfl,rfl,rfl,by decide +kernel,rfl,by decide +kernel,by decide +kernel⟩
theorem oo (D:Def K mg "gone_on" cu ["orders", "ways", "place"]) (T:Txt K mg Z):dR P w K mg base (cV P w) "gone_on" 1 ["orders", "ways", "place"] gM:=by
 refine D.eD nY (fun vs H Q E h=>?_) (fun fa dq A outer s H vs Q E hr h=>?_)
 ·obtain ⟨p,wy,as,L,TT,f,aj,g,ks,x,l,rfl,_⟩:=h; rfl
 ·obtain ⟨p,wy,as,L,TT,f,aj,g,ks,i,r,rfl,gr,im,hn,W,pX,q⟩:=h
  refine ⟨_,(aq (bw (fv (tg:=["neighbour"]) (fr:=[("place",2),("ways",1)]) (by walk_at "blk_ok") rfl (de (aX aH (pv 0) (pv 2) (fun _ _=>rfl))) (fun _ _ _ _ _=>(aJ (i:=0) (show [("neighbour" : Str),("place" : Str),("ways" : Str)].Nodup by decide +kernel) rfl (by first | exact Or.inl rfl | exact Or.inr rfl))) (fun _ _ _ _ _=>(eQ (dP (sE (bL hr) (bG (aa (pv 1) (aa (bu rfl T.g_OUT) ag))) (dM (bL hr) (pv 2) (bG (aa (pv 0) (aa (bu rfl T.g_IN) ag))) (fun _ _=>rfl)))))) (fun _ _ _ _ _=>(pv 0))))),?_⟩
  try dsimp only [d9]
  have hi:i < L.length:=(List.getElem?_eq_some_iff.mp pX).1
  obtain ⟨b,r',ha,wH,eY⟩:=gr.at (i:=i) hi
  rw [pX] at wH
  injection wH with wH
  subst wH
  have rl:=oU im pX
  walk_at "rd"
  refine dO ?_
  refine ⟨_,rfl,_,rfl,aZ (aG.of gr.top) (gr.ix ha) ⟨b,rfl,⟨_,aG.of eY⟩,fun acc bO=>?_⟩⟩
  refine fG (K:=K) (a:=b) (xs:=r.map V.int) (fun j σ' ys H3=>∃ w:Option V,σ' = [w,some (.int (i:Int)),some (.ref wy)]∧ys = ((r.take j).filter fun v=>f.F i v.toNat).map V.int∧ak H H3∧H3 acc = some (.lst ys))
   ⟨none,rfl,rfl,ak.upd bO,af⟩ (fun j σ' ys H3 _ ⟨_,_,_,e,_⟩=>aG.of (e _ _ eY)) ?_ ?_
  ·rintro j x σ' ys H3 hx hj ⟨w,rfl,rfl,e3,a3⟩
   obtain ⟨y,hy,rfl⟩:∃ y,r[j]? = some y∧x = V.int y:=by
    rw [List.getElem?_map] at hx
    cases e:r[j]? with
    | none=>rw [e] at hx; cases hx
    | some z=>rw [e] at hx; exact ⟨z,rfl,(Option.some.inj hx).symm⟩
   have yr:=im.rg i r pX y (List.mem_of_getElem? hy)
   obtain ⟨yn,rfl⟩:=Int.eq_ofNat_of_zero_le yr.1
   have jl:=hj
   rw [List.length_map] at jl
   have fl:((r.take j).filter fun v=>f.F i v.toNat).length≤j:=Nat.le_trans (List.length_filter_le _ _) (by rw [List.length_take]; omega)
   walk_at "rd"
   intro q1 vi
   have C1:((yn,false):ab).1 < L.length:=by have:=yr.2.1; show yn < _; omega
   have e4:ak H3 (upd H3 q1 (.tup [.int i,.int 1])):=ak.upd vi
   have k4:upd H3 q1 (.tup [.int i,.int 1]) q1 = some (.tup ((kd (i,true)).map kV)):=af
   generalize upd H3 q1 (.tup [.int i,.int 1]) = H4 at e4 k4 ⊢
   refine eO (r_var rfl ?_)
   walk_at "rd"
   intro q2 wI
   have e5:ak H4 (upd H4 q2 (.tup [.int (yn:Int),.int 0])):=ak.upd wI
   have k5:upd H4 q2 (.tup [.int (yn:Int),.int 0]) q2 = some (.tup ((kd (yn,false)).map kV)):=af
   generalize upd H4 q2 (.tup [.int (yn:Int),.int 0]) = H5 at e5 k5 ⊢
   have W5:=W.same ((e3.trans e4).trans e5)
   have eH:=(e3.trans e4).trans e5
   have a5:=e5 _ _ (e4 _ _ a3)
   refine ⟨wy,_,rfl,W5.get k5 C1,?_⟩
   refine ⟨_,_,rfl,cz.t (k:=kd (i,true)) (W5.row _ C1) (e5 _ _ k4),?_⟩
   rw [jh]
   have key:((i,true):ab)∈ks (yn,false)↔f.F i ((yn:Int)).toNat = true:=by
    rw [W.mem _ _ C1,b5,Int.toNat_natCast]
    exact ⟨fun z=>z.resolve_left fun y=>yr.2.2 (by rw [y.1]),.inr⟩
   refine ⟨_,rfl,if2 (fun hk=>?_) (fun hk=>?_)⟩
   ·walk_at "rd"
    refine ⟨a5,by rw [List.length_map]; exact az (by omega),cW hj ⟨_,rfl,?_,ak.fresh eH bO,af⟩⟩
    rw [kz hy,if_pos (key.mp hk),List.map_append]
    rfl
   ·refine cW hj ⟨_,rfl,?_,eH,a5⟩
    rw [kz hy,if_neg (fun z=>hk (key.mpr z)),List.append_nil]
  ·rintro σ' ys H3 ⟨w,rfl,rfl,e3,a3⟩
   rw [List.length_map,List.take_length] at a3
   walk_at "rd"
   exact q acc H3 e3 bO a3
theorem fN:aR ["orders", "ways", "start", "goal", "road"] ["orders", "ways", "start", "goal"] (aw cn):=⟨rfl,rfl,rfl,by decide +kernel,rfl,by decide +kernel,by decide +kernel⟩
theorem oj (D:Def K mg "road_by" cn ["orders", "ways", "start", "goal"]) (T:Txt K mg Z) (gX:dR P w K mg base (cV P w) "gone_on" 1 ["orders", "ways", "place"] gM):dR P w K mg base (cV P w) "road_by" 2 ["orders", "ways", "start", "goal"] j2:=by
 refine D.eD fN (fun vs H Q E h=>?_) (fun fa dq A outer s H vs Q E hr h=>?_)
 ·obtain ⟨p,wy,ra,as,L,TT,f,aj,g,ks,a,b,c,i,rfl,_⟩:=h; rfl
 ·obtain ⟨p,wy,ra,as,L,TT,f,aj,g,ks,a,b,c,i,rfl,gr,im,hn,W,F,N,tl,vh,MK,q⟩:=h
  refine ⟨_,(ah (aC (i:=4) fN.nd rfl (by first | exact Or.inl rfl | exact Or.inr rfl) (pv 2))
   (ah (eP PassesOwn.never (aN kc (aX aH (pv 4) (wx rF ao) (fun _ _=>rfl)) (pv 3) (bg _)) (aq (aC (i:=4) fN.nd rfl (by first | exact Or.inl rfl | exact Or.inr rfl) (aE xU (pv 4) (aK gX hr bQ (aa (pv 0) (aa (pv 1) (aa (aX aH (pv 4) (wx rF ao) (fun _ _=>rfl)) ag))))))))
   (aq (bw (pv 4))))),?_⟩
  try dsimp only [d9]
  walk_at "rd"
  refine fZ (fun σ H1=>∃ (rd:List Nat) (rb:Addr),σ = [some (.ref p),some (.ref wy),some (.ref ra),some (.int (b:Int)),some (.ref rb)]∧ak H H1∧H1 rb = some (.lst ((rd.map fun x:Nat=>(x:Int)).map V.int))∧Fw.Rd f a b rd)
   (fun σ H1=>100 - lenOf (σ.getD 4 none) H1) ⟨[a,c],ra,rfl,fun b o h=>h,vh,Fw.Rd.start F N MK⟩ ?_
  rintro σ H1 ⟨rd,rb,rfl,e1,r1,R⟩
  have l2:=R.len
  have lf:=R.oA F N
  obtain ⟨x,hx⟩:∃ x,rd[rd.length - 1]? = some x:=⟨_,List.getElem?_eq_getElem (by omega)⟩
  have Ja:jz ((rd.map fun x:Nat=>(x:Int)).map V.int) (-1) = some (V.int (x:Int)):=by
   have e:(rd.map fun x:Nat=>(x:Int))[rd.length - 1]? = some (x:Int):=by rw [List.getElem?_map,hx]; rfl
   exact yR (n:=rd.length - 1) (by rw [List.length_map]; omega) e
  walk_at "rd"
  refine aZ (aG.of r1) Ja ?_
  walk_at "rd"
  have xn:x < L.length:=R.rg F N x (List.mem_of_getElem? hx)
  refine d8 (fun nu=>?_) (fun he=>?_)
  ·have xb:x≠b:=fun z=>nu (by rw [z])
   obtain ⟨u,hu⟩:=R.last hx
   obtain ⟨y,hy⟩:=F.next N xb hu
   have xa:x≠a:=fun z=>by rw [z,F.sM N] at hu; cases hu
   obtain ⟨l,hl,LX⟩:=tl _ _ (F.gK _ _ hy)
   have gy:gn f l x = [(y:Int)]:=by
    refine ju (im.nd x l hl) LX (by simpa using hy) fun z hz hq=>?_
    have zr:=im.rg x l hl z hz
    obtain ⟨zn,rfl⟩:=Int.eq_ofNat_of_zero_le zr.1
    have:=F.wA N xa hy (by simpa using hq)
    rw [this]
   have R2:=R.step F N hx xb hy
   have LA:=R2.oA F N
   rw [List.length_append,List.length_singleton] at LA
   refine w_turn ?_
   walk_at "rd"
   refine aZ (aG.of r1) Ja ?_
   walk_at "rd"
   refine ⟨p,wy,as,L,TT,f,aj,g,ks,x,l,rfl,gr.same e1,im,hn,W.same e1,hl,fun t H' e' ht AF=>?_⟩
   rw [gy] at AF
   walk_at "rd"
   refine ⟨rb,t,_,_,rfl,rfl,e' _ _ r1,AF,by rw [List.length_map,List.length_map,List.length_map]; exact Nat.le_of_lt (az (by simp; omega)),fun pz hz=>?_⟩
   walk_at "rd"
   refine ⟨⟨rd ++ [y],pz,rfl,(e1.trans e').trans (ak.upd hz),by rw [af,List.map_append,List.map_append]; rfl,R2⟩,?_⟩
   show 100 - lenOf (some (.ref pz)) _ < 100 - lenOf (some (.ref rb)) H1
   rw [nj af,nj r1]
   simp only [List.length_append,List.length_map,List.length_cons,List.length_nil]
   omega
  ·have he:x = b:=by omega
   subst he
   walk_at "rd"
   exact q rb rd H1 e1 r1 R hx
theorem dX:aR ["orders", "one", "other", "found", "ways", "number", "ahead", "places"] ["orders", "one", "other"] (aw dG):=⟨rfl,rfl,rfl,by decide +kernel,rfl,by decide +kernel,by decide +kernel⟩
theorem sF (D:Def K mg "roads" dG ["orders", "one", "other"]) (T:Txt K mg Z) (nC:dR P w K mg base (cV P w) "open_ways" 2 ["orders", "one", "other"] oO) (lZ:dR P w K mg base (cV P w) "doors_from" 1 ["ways", "start"] mI) (vq:dR P w K mg base (cV P w) "go_to" 1 ["ways", "ahead", "goal"] oP) (gX:dR P w K mg base (cV P w) "gone_on" 1 ["orders", "ways", "place"] gM) (qM:dR P w K mg base (cV P w) "road_by" 2 ["orders", "ways", "start", "goal"] j2):dR P w K mg base (cV P w) "roads" 3 ["orders", "one", "other"] mF:=by
 refine D.eD dX (fun vs H Q E h=>?_) (fun fa dq A outer s H vs Q E hr h=>?_)
 ·obtain ⟨p,as,L,a,b,l,rfl,_⟩:=h; rfl
 ·obtain ⟨p,as,L,a,b,l,rfl,gr,im,hn,hl,hb,ou,qr,qp⟩:=h
  refine ⟨_,(ah (aC (i:=3) dX.nd rfl (by first | exact Or.inl rfl | exact Or.inr rfl) (bN ag))
   (ah (bY (aN qC (pv 2) (aX aH (pv 0) (pv 1) (fun _ _=>rfl)) (by with_unfolding_all rfl)) (aq (bo (cw PySem.F.plainAttrs_list PySem.F.slot_list_append PySem.F.type_list_append cG (pv 3) (aa (bN (aa (pv 1) (aa (pv 2) ag))) ag)))) bh)
   (ah (aC (i:=4) dX.nd rfl (by first | exact Or.inl rfl | exact Or.inr rfl) (aK nC hr bQ (aa (pv 0) (aa (pv 1) (aa (pv 2) ag)))))
   (ah (bU PassesOwn.never rfl (ka rfl T.range (aa (aB aF (by rfl) T.len aT (aa (pv 3) ag)) (aa ao ag))) (aJ (i:=5) dX.nd rfl (by first | exact Or.inl rfl | exact Or.inr rfl))
   (ah (aC (i:=6) dX.nd rfl (by first | exact Or.inl rfl | exact Or.inr rfl) (aK lZ hr bQ (aa (pv 4) (aa (bG (aa (pv 1) (aa (bu rfl T.g_OUT) ag))) ag))))
   (ah (bY (dP (dr (bL hr) (bG (aa (pv 2) (aa (bu rfl T.g_IN) ag))) (pv 6))) (ah (iB (i:=7) dX.nd rfl (by first | exact Or.inl rfl | exact Or.inr rfl) (tg:=["place"]) (fr:=[("ahead",6)]) (by walk_at "blk_ok") rfl (bj rfl T.range (aa (aB aF (by rfl) T.len aT (aa (pv 0) ag)) ag)) (fun _ _ _ _ _=>(aJ (i:=0) (show [("place" : Str),("ahead" : Str)].Nodup by decide +kernel) rfl (by first | exact Or.inl rfl | exact Or.inr rfl))) (fun _ _ _ _ _=>(eQ (PW.pt (pw_and (dP (sE (bL hr) (bG (aa (pv 0) (aa (bu rfl T.g_IN) ag))) (pv 1))) (pw_and1 (dP (dr (bL hr) (bG (aa (pv 0) (aa (bu rfl T.g_OUT) ag))) (pv 1)))))))) (fun _ _ _ _ _=>(pv 0)))
   (aq (bw (bG (aa oe (aa (pv 7) ag)))))) bh)
   (aq (bo (aK vq hr bQ (aa (pv 4) (aa (pv 6) (aa (bG (aa (pv 2) (aa (bu rfl T.g_IN) ag))) ag)))))))))
   (ah (bo (cw PySem.F.plainAttrs_list PySem.F.slot_list_extend PySem.F.type_list_extend fD (pv 3) (aa (fv (tg:=["first"]) (fr:=[("orders",0),("ways",4),("other",2),("one",1)]) (by walk_at "blk_ok") rfl (de (aK gX hr bQ (aa (pv 0) (aa (pv 4) (aa (pv 1) ag))))) (fun _ _ _ _ _=>(aJ (i:=0) (show [("first" : Str),("orders" : Str),("ways" : Str),("other" : Str),("one" : Str)].Nodup by decide +kernel) rfl (by first | exact Or.inl rfl | exact Or.inr rfl))) (fun _ _ _ _ _=>eR) (fun _ _ _ _ _=>(aK qM hr bQ (aa (pv 1) (aa (pv 2) (aa (bN (aa (pv 4) (aa (pv 0) ag))) (aa (pv 3) ag))))))) ag)))
   (aq (bw (bG (aa oe (aa (pv 3) ag)))))))))),?_⟩
  dsimp only [d9]
  have ha:a < L.length:=(List.getElem?_eq_some_iff.mp hl).1
  obtain ⟨ra,l',FQ,pY,eY⟩:=gr.at (i:=a) ha
  rw [hl] at pY
  injection pY with pY
  subst pY
  have N:=Tw.Ci im ha hb ou
  walk_at "rd"
  refine ⟨Nat.zero_le _,fun fo zh=>?_⟩
  refine r_gname ?_
  try dsimp only
  refine lA (fun σ' H'=>∃ (fs:List V),σ' = [some (.ref p),some (.int (a:Int)),some (.int (b:Int)),some (.ref fo),none,none,none,none]∧ak H H'∧H' fo = some (.lst fs)∧fs.length = if (b:Int)∈l then 1 else 0) ?_ ?_
  ·rintro σ' H1 ⟨fs,rfl,e1,f1,lf⟩
   walk_at "rd"
   refine ⟨p,as,L,a,b,rfl,gr.same e1,im,hn,ha,hb,ou,fun wy aj g ks H2 e2 Cr hg W2=>?_⟩
   have gF:∀ d:ab,d.1 < L.length→H (g d) = none:=fun d hd=>e1.free (hg d hd)
   have MT:∀ d:ab,d.1 < L.length→g d≠fo:=fun d hd z=>by have:=hg d hd; rw [z,f1] at this; cases this
   have f2:=e2 _ _ f1
   have e2:=e1.trans e2
   have O5:∀ d:ab,d.1 < L.length→g d≠wy:=W2.off
   walk_at "rd"
   refine cD ?_
   refine ⟨_,rfl,_,_,rfl,.inl ⟨_,aG.of f2,rfl⟩,(fs.length:Int),3,rfl,⟨by omega,by rw [lf]; split <;> omega,by omega,by omega⟩,?_⟩
   have three:((3:Int) - (fs.length:Int)).toNat = if (b:Int)∈l then 2 else 3:=by rw [lf]; split <;> rfl
   rw [three]
   refine bI (fun i σ H3=>∃ (f:Fw.Flow) (ks:ab→List ab) (v5 v6 v7:Option V),σ = [some (.ref p),some (.int (a:Int)),some (.int (b:Int)),some (.ref fo),some (.ref wy),v5,v6,v7]∧ak H H3∧H3 fo = some (.lst fs)∧b9 H3 wy L.length (Res (Tw L a b) f) aj g ks∧Fl L.length (Tw L a b) a b (i:Int) f)
    ⟨f0,ks,none,none,none,rfl,e2,f2,W2,Bg⟩ ?_ ?_
   ·rintro i σ H3 hi ⟨f,ks,v5,v6,v7,rfl,e3,f3,W3,F3⟩
    walk_at "rd"
    intro q1 vi
    have e4:ak H3 (upd H3 q1 (.tup [.int (a:Int),.int 1])):=ak.upd vi
    have k4:upd H3 q1 (.tup [.int (a:Int),.int 1]) q1 = some (.tup ((kd (a,true)).map kV)):=af
    generalize upd H3 q1 (.tup [.int (a:Int),.int 1]) = H4 at e4 k4 ⊢
    walk_at "rd"
    refine ⟨wy,q1,L.length,_,aj,g,ks,(a,true),rfl,W3.same e4,ha,hn,k4,fun t cJ r H5 e5 ht A5 B5=>?_⟩
    have C6:∀ d:ab,d.1 < L.length→g d≠t:=fun d hd z=>by have:=(W3.same e4).row d hd; rw [z,ht] at this; cases this
    walk_at "rd"
    intro q2 wI
    have e6:ak H5 (upd H5 q2 (.tup [.int (b:Int),.int 0])):=ak.upd wI
    have k6:upd H5 q2 (.tup [.int (b:Int),.int 0]) q2 = some (.tup ((kd (b,false)).map kV)):=af
    generalize upd H5 q2 (.tup [.int (b:Int),.int 0]) = H6 at e6 k6 ⊢
    have A6:=A5.keep (H':=H6) ((e6 _ _ A5.top).trans A5.top.symm) fun c xs h=>e6 _ _ h
    have W6:=W3.same ((e4.trans e5).trans e6)
    have f6:=e6 _ _ (e5 _ _ (e4 _ _ f3))
    have e6:=((e3.trans e4).trans e5).trans e6
    walk_at "rd"
    refine ⟨t,_,rfl,cz.t (k:=kd (b,false)) A6.top k6,?_⟩
    rw [jh]
    walk_at "rd"
    refine d8 (fun Ij=>?_) (fun Mv=>?_)
    ·walk_at "rd"
     refine dO ?_
     refine ⟨_,rfl,_,_,rfl,.inl ⟨_,aG.of (e6 _ _ gr.top),rfl⟩,(L.length:Int),by rw [List.length_map,gr.len],by omega,by omega,?_⟩
     rw [Int.toNat_natCast]
     intro acc bO
     refine cL (fun j σ' ys H7=>∃ v:Option V,σ' = [v,some (.ref t)]∧ys = (((List.range j).filter fun p=>decide ((p,false)∈cJ.map Prod.fst) && !decide ((p,true)∈cJ.map Prod.fst)).map fun x:Nat=>(x:Int)).map V.int∧ak H6 H7∧H7 acc = some (.lst ys)) ⟨none,rfl,rfl,ak.upd bO,af⟩ ?_ ?_
     ·rintro j σ' ys H7 hj ⟨v,rfl,rfl,e7,a7⟩
      simp only [Int.zero_add]
      have lj:=qz (fun p=>decide ((p,false)∈cJ.map Prod.fst) && !decide ((p,true)∈cJ.map Prod.fst)) j
      walk_at "rd"
      intro q3 Fp
      have e8:ak H7 (upd H7 q3 (.tup [.int (j:Int),.int 0])):=ak.upd Fp
      have k8:upd H7 q3 (.tup [.int (j:Int),.int 0]) q3 = some (.tup ((kd (j,false)).map kV)):=af
      generalize upd H7 q3 (.tup [.int (j:Int),.int 0]) = H8 at e8 k8 ⊢
      walk_at "rd"
      refine ⟨t,_,rfl,cz.t (k:=kd (j,false)) (e8 _ _ (e7 _ _ A6.top)) k8,?_⟩
      rw [jh]
      refine ⟨_,rfl,if2 (fun h1=>?_) (fun h1=>?_)⟩
      ·walk_at "rd"
       intro q4 Mf
       have e9:ak H8 (upd H8 q4 (.tup [.int (j:Int),.int 1])):=ak.upd Mf
       have k9:upd H8 q4 (.tup [.int (j:Int),.int 1]) q4 = some (.tup ((kd (j,true)).map kV)):=af
       generalize upd H8 q4 (.tup [.int (j:Int),.int 1]) = H9 at e9 k9 ⊢
       walk_at "rd"
       refine ⟨t,_,rfl,cz.t (k:=kd (j,true)) (e9 _ _ (e8 _ _ (e7 _ _ A6.top))) k9,?_⟩
       rw [jh]
       refine ⟨_,rfl,d8 (fun h2=>?_) (fun h2=>?_)⟩
       ·walk_at "rd"
        refine ⟨e9 _ _ (e8 _ _ a7),by rw [List.length_map,List.length_map]; exact az (by omega),cW hj ⟨_,rfl,?_,ak.fresh ((e7.trans e8).trans e9) bO,af⟩⟩
        rw [fP,if_pos (by simp only [decide_eq_true h1,decide_eq_false h2]; rfl),List.map_append,List.map_append]
        rfl
       ·refine cW hj ⟨_,rfl,?_,(e7.trans e8).trans e9,e9 _ _ (e8 _ _ a7)⟩
        rw [fP,if_neg (by simp only [decide_eq_true h1,decide_eq_true h2]; decide),List.append_nil]
      ·refine cW hj ⟨_,rfl,?_,e7.trans e8,e8 _ _ a7⟩
       rw [fP,if_neg (by simp only [decide_eq_false h1]; simp),List.append_nil]
     ·rintro σ' ys H7 ⟨v,rfl,rfl,e7,a7⟩
      walk_at "rd"
      intro tt AE
      walk_at "rd"
      refine qp acc _ tt f i (fun d=>decide (d∈cJ.map Prod.fst)) _ ((e6.trans e7).trans (ak.upd AE)) af (ak.upd AE _ _ a7) hi F3 (decide_eq_true ?_) (decide_eq_false Ij) (decide_eq_false ?_) (fun d e hd hN=>?_) rfl
      ·exact List.mem_map.mpr ⟨_,List.mem_of_getElem? B5.st,rfl⟩
      ·intro z
       obtain ⟨⟨d,o⟩,h1,h2⟩:=List.mem_map.mp z
       dsimp only at h2
       subst h2
       cases o with
       | none=>have:=B5.root h1; injection this with this; exact ou this.symm
       | some r0=>
        obtain ⟨_,hN,o',pX⟩:=B5.up h1
        obtain ⟨r',s'⟩:=r0
        cases s' with
        | true=>exact hN.elim
        | false=>
         rcases b5.mp hN with y | y
         ·rw [y.1] at pX; exact Ij (List.mem_map.mpr ⟨_,pX,rfl⟩)
         ·rw [F3.x3 N] at y; cases y
      ·exact decide_eq_true (B5.qw d (of_decide_eq_true hd) (by simp) e hN)
    ·walk_at "rd"
     intro q5 Me
     have e7:ak H6 (upd H6 q5 (.tup [.int (b:Int),.int 0])):=ak.upd Me
     have k7:upd H6 q5 (.tup [.int (b:Int),.int 0]) q5 = some (.tup ((kd (b,false)).map kV)):=af
     generalize upd H6 q5 (.tup [.int (b:Int),.int 0]) = H7 at e7 k7 ⊢
     have A7:=A6.keep (H':=H7) ((e7 _ _ A6.top).trans A6.top.symm) fun c xs h=>e7 _ _ h
     have MH:∃ o,((b,false),o)∈cJ:=by obtain ⟨⟨d,o⟩,h1,h2⟩:=List.mem_map.mp Mv; exact ⟨o,by rw [← h2]; exact h1⟩
     walk_at "rd"
     refine ⟨wy,t,q5,L.length,Tw L a b,a,b,f,(i:Int),aj,g,ks,cJ,r,rfl,W6.same e7,A7,C6,k7,B5.toFan,MH,F3,N,hn,fun f' eW H8 k8 W8 F8=>?_⟩
     walk_at "rd"
     refine ⟨f',eW,_,_,_,rfl,fun c o hc=>k8 c o (fun d hd z=>by rw [z,gF d hd] at hc; cases hc) (e7 _ _ (e6 _ _ hc)),k8 fo _ (fun d hd z=>MT d hd z.symm) (e7 _ _ f6),W8,F8⟩
   ·rintro σ H3 ⟨f,ks,v5,v6,v7,rfl,e3,f3,W3,F3⟩
    walk_at "rd"
    refine ⟨.inl ⟨rfl,_,aG.of f3⟩,?_⟩
    walk_at "rd"
    refine dO ?_
    refine uK ?_
    walk_at "rd"
    refine ⟨p,wy,as,L,Tw L a b,f,aj,g,ks,a,l,rfl,gr.same e3,im,hn,W3,hl,fun t H4 e4 ht AF=>?_⟩
    refine ⟨t,rfl,⟨_,aG.of AF⟩,fun acc bO=>?_⟩
    have lg:(gn f l a).length≤l.length:=List.length_filter_le _ _
    have ll:=oU im hl
    refine fG (K:=K) (a:=t) (xs:=(gn f l a).map V.int) (fun j σ' ys H5=>∃ v:Option V,σ' = [v,some (.ref p),some (.ref wy),some (.int (b:Int)),some (.int (a:Int))]∧ys.length = j∧ak H4 H5∧H5 acc = some (.lst ys))
     ⟨none,rfl,rfl,ak.upd bO,af⟩ (fun j σ' ys H5 _ ⟨_,_,_,e,_⟩=>aG.of (e _ _ AF)) ?_ ?_
    ·rintro j x σ' ys H5 hx hj ⟨v,rfl,lj,e5,a5⟩
     obtain ⟨y,hy,rfl⟩:∃ y,(gn f l a)[j]? = some y∧x = V.int y:=by
      rw [List.getElem?_map] at hx
      cases e:(gn f l a)[j]? with
      | none=>rw [e] at hx; cases hx
      | some z=>rw [e] at hx; exact ⟨z,rfl,(Option.some.inj hx).symm⟩
     have ym:=List.mem_filter.mp (List.mem_of_getElem? hy)
     obtain ⟨c,rfl⟩:=Int.eq_ofNat_of_zero_le (im.rg a l hl y ym.1).1
     have fc:f.F a c = true:=by simpa using ym.2
     walk_at "rd"
     intro rl yo
     have e6:ak H5 (upd H5 rl (.lst [.int (a:Int),.int (c:Int)])):=ak.upd yo
     have k6:upd H5 rl (.lst [.int (a:Int),.int (c:Int)]) rl = some (.lst [.int (a:Int),.int (c:Int)]):=af
     generalize upd H5 rl (.lst [.int (a:Int),.int (c:Int)]) = H6 at e6 k6 ⊢
     have IJ:=(e4.trans e5).trans e6
     walk_at "rd"
     refine ⟨p,wy,rl,as,L,Tw L a b,f,aj,g,ks,a,b,c,_,rfl,gr.same (e3.trans IJ),im,hn,W3.same IJ,F3,N,fun p q h=>h.1,k6,fc,fun t7 rd H7 e7 h7 R7 _=>?_⟩
     rw [List.length_map] at hj
     refine ⟨e7 _ _ (e6 _ _ a5),by rw [lj]; exact az (by omega),cW (by rw [List.length_map]; exact hj) ⟨_,rfl,by rw [List.length_append,lj]; rfl,ak.fresh ((e5.trans e6).trans e7) bO,af⟩⟩
    ·rintro σ' ys H5 ⟨v,rfl,lj,e5,a5⟩
     rw [List.length_map] at lj
     have f5:=e5 _ _ (e4 _ _ f3)
     walk_at "rd"
     refine mR f5 a5 (by
                  have:fs.length≤1:=by rw [lf]; split <;> omega
                  exact Nat.le_of_lt (az (by omega))) ?_
     have e6:ak H (upd H5 fo (.lst (fs ++ ys))):=ak.fresh ((e3.trans e4).trans e5) zh
     have k6:upd H5 fo (.lst (fs ++ ys)) fo = some (.lst (fs ++ ys)):=af
     generalize upd H5 fo (.lst (fs ++ ys)) = H6 at e6 k6 ⊢
     walk_at "rd"
     intro tt AE
     refine qr fo (fs ++ ys) tt f _ (e6.trans (ak.upd AE)) af (ak.upd AE _ _ k6) ?_
     have F3:=F3
     split at F3
     ·rename_i h; rw [if_pos h]; exact F3
     ·rename_i h; rw [if_neg h]; exact F3
  ·intro TT hT
   walk_at "rd"
   refine aZ (aG.of (ak.upd zh _ _ gr.top)) (gr.ix FQ) ?_
   refine rZ (ns:=l) (aG.of (ak.upd zh _ _ eY)) ?_
   rw [if_neg (by decide)]
   walk_at "rd"
   refine if2 (fun AU=>?_) (fun AU=>?_)
   ·walk_at "rd"
    refine ⟨.inl ⟨rfl,_,aG.of af⟩,?_⟩
    walk_at "rd"
    intro lb vk
    walk_at "rd"
    refine dY (xs:=[]) ((ai (ay af vk)).trans af) (by rw [PySem.sizeLine_eq]; simp) ?_
    refine hT _ _ ⟨[V.ref lb],rfl,ak.fresh ((ak.upd zh).trans (ak.upd vk)) zh,af,?_⟩
    rw [if_pos AU]; rfl
   ·walk_at "rd"
    refine hT _ _ ⟨[],rfl,ak.upd zh,af,?_⟩
    rw [if_neg AU]; rfl
theorem hZ:aR ["_law_script", "_law_k"] ["_law_script", "_law_k"] (aw bc):=⟨rfl,rfl,rfl,by decide +kernel,rfl,by decide +kernel,by decide +kernel⟩
theorem h9 (D:Def K mg "_law_cell_at" bc ["_law_script", "_law_k"]) (T:Txt K mg Z):dR P w K mg base (cV P w) "_law_cell_at" 1 ["_law_script", "_law_k"] (oR K):=by
 refine D.eD hZ (fun vs H Q E h=>?_) (fun f dq A outer s H vs Q E hr h=>?_)
 ·obtain ⟨a,ns,k,rfl,_⟩:=h; rfl
 ·obtain ⟨a,ns,k,rfl,hS,hk,q⟩:=h
  refine ⟨_,(ah (bY (aN kg (pv 1) (aB aF (by rfl) T.len aT (aa (pv 0) ag)) (bg _)) (aq (bw (aX aH (pv 0) (pv 1) (fun _ _=>rfl)))) bh)
   (aq (bw ao))),?_⟩
  dsimp only [d9]
  walk_at "rd"
  refine ⟨_,_,rfl,.inl ⟨_,hS,rfl⟩,?_⟩
  walk_at "rd"
  refine if2 (fun dD=>?_) (fun dD=>?_)
  ·walk_at "rd"
   obtain ⟨j,rfl⟩:=Int.eq_ofNat_of_zero_le hk
   have hj:j < ns.length:=by rw [List.length_map] at dD; omega
   refine aZ hS (iJ (j:=j) (v:=V.int ns[j]) (by simp [hj])) ?_
   exact q _
  ·walk_at "rd"
   exact q _
theorem b7:aR ["_law_script", "_law_k", "_law_cell", "_law_j"] ["_law_script", "_law_k"] (aw bC):=⟨rfl,rfl,rfl,by decide +kernel,rfl,by decide +kernel,by decide +kernel⟩
theorem jM (D:Def K mg "_law_block" bC ["_law_script", "_law_k"]) (T:Txt K mg Z):dR P w K mg base (cV P w) "_law_block" 1 ["_law_script", "_law_k"] (dW K):=by
 refine D.eD b7 (fun vs H Q E h=>?_) (fun f dq A outer s H vs Q E hr h=>?_)
 ·obtain ⟨a,ns,k,rfl,_⟩:=h; rfl
 ·obtain ⟨a,ns,k,rfl,hS,Im,Il,q⟩:=h
  refine ⟨_,(ah (aC (i:=2) b7.nd rfl (by first | exact Or.inl rfl | exact Or.inr rfl) ao)
   (ah (bY (aN kg (aE ck ao (aE bH (aE cE (pv 1) ao) ao)) (aB aF (by rfl) T.len aT (aa (pv 0) ag)) (bg _)) (aq (aC (i:=2) b7.nd rfl (by first | exact Or.inl rfl | exact Or.inr rfl) (aE cE (aX aH (pv 0) (aE ck ao (aE bH (aE cE (pv 1) ao) ao)) (fun _ _=>rfl)) (lK (v:=10000000000000000000000000000000000000000000000000000000000000000) oh ao ao ⟨by decide,by decide,by decide⟩ (by decide +kernel))))) bh)
   (ah (bU PassesOwn.never rfl (bj rfl T.range (aa (aE bH (pv 1) ao) ag)) (aJ (i:=3) b7.nd rfl (by first | exact Or.inl rfl | exact Or.inr rfl))
   (aq (aC (i:=2) b7.nd rfl (by first | exact Or.inl rfl | exact Or.inr rfl) (aE cE (pv 2) ao))))
   (aq (bw (aE bH (pv 2) ao)))))),?_⟩
  dsimp only [d9]
  walk_at "rd"
  refine ⟨_,_,rfl,.inl ⟨_,hS,rfl⟩,?_⟩
  walk_at "rd"
  refine if2 (fun dD=>?_) (fun dD=>?_)
  ·walk_at "rd"
   rw [List.length_map] at dD
   obtain ⟨n0,AJ⟩:=lP (ns:=ns) (k:=1 + k / 8 % 62) (by omega) dD
   refine aZ hS AJ ?_
   walk_at "rd"
   refine cD ?_
   refine ⟨_,rfl,_,_,rfl,rfl,(show (0:Int) < 8 by decide),k % 8,rfl,by omega,by omega,bI (fun i σ H1=>∃ (c:Int) (v:Option V),σ = [some (.ref a),some (.int k),some (.int c),v]∧H1 = H) ⟨_,_,rfl,rfl⟩ ?_ ?_⟩
   ·rintro i σ H1 hi ⟨c,v,rfl,rfl⟩
    walk_at "rd"
    exact ⟨_,_,rfl,rfl⟩
   ·rintro σ H1 ⟨c,v,rfl,rfl⟩
    walk_at "rd"
    exact q _ (Int.emod_nonneg _ (by decide)) (Int.emod_lt_of_pos _ (by decide))
  ·walk_at "rd"
   refine cD ?_
   refine ⟨_,rfl,_,_,rfl,rfl,(show (0:Int) < 8 by decide),k % 8,rfl,by omega,by omega,bI (fun i σ H1=>∃ (c:Int) (v:Option V),σ = [some (.ref a),some (.int k),some (.int c),v]∧H1 = H) ⟨_,_,rfl,rfl⟩ ?_ ?_⟩
   ·rintro i σ H1 hi ⟨c,v,rfl,rfl⟩
    walk_at "rd"
    exact ⟨_,_,rfl,rfl⟩
   ·rintro σ H1 ⟨c,v,rfl,rfl⟩
    walk_at "rd"
    exact q _ (Int.emod_nonneg _ (by decide)) (Int.emod_lt_of_pos _ (by decide))
theorem bM:aR ["_law_script", "_law_k", "_law_cell", "_law_number"] ["_law_script", "_law_k"] (aw bB):=⟨rfl,rfl,rfl,by decide +kernel,rfl,by decide +kernel,by decide +kernel⟩
theorem jL (D:Def K mg "_law_mixed" bB ["_law_script", "_law_k"]) (T:Txt K mg Z) (mh:dR P w K mg base (cV P w) "_law_block" 1 ["_law_script", "_law_k"] (dW K)):dR P w K mg base (cV P w) "_law_mixed" 2 ["_law_script", "_law_k"] (dW K):=by
 refine D.eD bM (fun vs H Q E h=>?_) (fun f dq A outer s H vs Q E hr h=>?_)
 ·obtain ⟨a,ns,k,rfl,_⟩:=h; rfl
 ·obtain ⟨a,ns,k,rfl,hS,Im,Il,q⟩:=h
  refine ⟨_,(ah (aC (i:=2) bM.nd rfl (by first | exact Or.inl rfl | exact Or.inr rfl) ao)
   (ah (bY (aN kh (aB aF (by rfl) T.len aT (aa (pv 0) ag)) ao (bg _)) (aq (aC (i:=2) bM.nd rfl (by first | exact Or.inl rfl | exact Or.inr rfl) (aX aH (pv 0) ao (fun _ _=>rfl)))) bh)
   (ah (bY (aN ki (aE bH (aE cE (pv 2) (lK (v:=1000000) oh ao ao ⟨by decide,by decide,by decide⟩ (by decide +kernel))) ao) ao (bg _)) (aq (bw (aK mh hr bQ (aa (pv 0) (aa (pv 1) ag))))) bh)
   (ah (bY (aN kh (aB aF (by rfl) T.len aT (aa (pv 0) ag)) ao (bg _)) (aq (aC (i:=2) bM.nd rfl (by first | exact Or.inl rfl | exact Or.inr rfl) (aX aH (pv 0) (aE bH (pv 1) (aB (hE rfl) (by rfl) T.min oE (aa ao (aa (aB aF (by rfl) T.len aT (aa (pv 0) ag)) ag)))) (fun _ _=>rfl)))) bh)
   (ah (aC (i:=3) bM.nd rfl (by first | exact Or.inl rfl | exact Or.inr rfl) (aE ck (aE bH (pv 2) (lK (v:=1000000000000000000) oh ao ao ⟨by decide,by decide,by decide⟩ (by decide +kernel))) (aE fB ao (aE ck (pv 1) ao))))
   (ah (aC (i:=3) bM.nd rfl (by first | exact Or.inl rfl | exact Or.inr rfl) (aE ck (aE bH (aE fB (pv 3) (pv 3)) ao) (aE fB ao (pv 1))))
   (aq (bw (aE bH (aE fB (pv 3) (pv 3)) ao))))))))),?_⟩
  dsimp only [d9]
  walk_at "rd"
  refine ⟨_,_,rfl,.inl ⟨_,hS,rfl⟩,?_⟩
  walk_at "rd"
  refine if2 (fun fW=>?_) (fun fW=>?_)
  ·walk_at "rd"
   rw [List.length_map] at fW
   obtain ⟨n0,AJ⟩:=lP (ns:=ns) (k:=0) (by omega) fW
   refine aZ hS AJ ?_
   walk_at "rd"
   refine if2 (fun _=>?_) (fun _=>?_)
   ·walk_at "rd"
    exact ⟨a,ns,k,rfl,hS,Im,Il,q⟩
   ·walk_at "rd"
    refine ⟨_,_,rfl,.inl ⟨_,hS,rfl⟩,?_⟩
    walk_at "rd"
    rw [List.length_map]
    refine if2 (fun _=>?_) (fun h=>absurd fW h)
    walk_at "rd"
    refine ⟨_,_,rfl,.inl ⟨_,hS,rfl⟩,?_⟩
    walk_at "rd"
    rw [List.length_map]
    refine ⟨_,_,rfl,?_⟩
    have mp:0 < (if (ns.length:Int) < 63 then (ns.length:Int) else 63):=by split <;> omega
    have ml:(if (ns.length:Int) < 63 then (ns.length:Int) else 63)≤ns.length:=by split <;> omega
    generalize (if (ns.length:Int) < 63 then (ns.length:Int) else 63) = mm at mp ml ⊢
    walk_at "rd"
    have i0:=Int.emod_nonneg k (show mm≠0 by omega)
    have i1:=Int.emod_lt_of_pos k mp
    obtain ⟨n1,Ik⟩:=lP (ns:=ns) (k:=k % mm) i0 (by omega)
    refine aZ hS Ik ?_
    walk_at "rd"
    generalize n1 = cc
    have c0:=Int.emod_nonneg cc (show (1000000000000000000:Int)≠0 by decide)
    have c1:=Int.emod_lt_of_pos cc (show (0:Int) < 1000000000000000000 by decide)
    generalize cc % 1000000000000000000 = r at c0 c1 ⊢
    have hm:IntMulOk (r + 48271 * (k + 1)) (r + 48271 * (k + 1)):=mulL (by omega) (by omega)
    walk_at "rd"
    generalize (r + 48271 * (k + 1)) * (r + 48271 * (k + 1)) = zz
    have z0:=Int.emod_nonneg zz (show (2147483629:Int)≠0 by decide)
    have z1:=Int.emod_lt_of_pos zz (show (0:Int) < 2147483629 by decide)
    generalize zz % 2147483629 = r2 at z0 z1 ⊢
    have Fx:IntMulOk (r2 + 69621 * k) (r2 + 69621 * k):=mulL (by omega) (by omega)
    walk_at "rd"
    exact q _ (Int.emod_nonneg _ (by decide)) (Int.emod_lt_of_pos _ (by decide))
  ·walk_at "rd"
   rw [List.length_map] at fW
   refine if2 (fun z=>absurd z (by decide)) (fun _=>?_)
   walk_at "rd"
   refine ⟨_,_,rfl,.inl ⟨_,hS,rfl⟩,?_⟩
   walk_at "rd"
   rw [List.length_map]
   refine if2 (fun h=>absurd h fW) (fun _=>?_)
   walk_at "rd"
   generalize pX:(0:Int) % 1000000000000000000 = r
   have c0:0≤r:=by omega
   have c1:r < 1000000000000000000:=by omega
   have hm:IntMulOk (r + 48271 * (k + 1)) (r + 48271 * (k + 1)):=mulL (by omega) (by omega)
   walk_at "rd"
   generalize (r + 48271 * (k + 1)) * (r + 48271 * (k + 1)) = zz
   have z0:=Int.emod_nonneg zz (show (2147483629:Int)≠0 by decide)
   have z1:=Int.emod_lt_of_pos zz (show (0:Int) < 2147483629 by decide)
   generalize zz % 2147483629 = r2 at z0 z1 ⊢
   have Fx:IntMulOk (r2 + 69621 * k) (r2 + 69621 * k):=mulL (by omega) (by omega)
   walk_at "rd"
   exact q _ (Int.emod_nonneg _ (by decide)) (Int.emod_lt_of_pos _ (by decide))
theorem cm:aR ["_law_script", "_law_start", "_law_many", "_law_orders", "_law_thick", "_law_one", "_law_other", "_law_number"] ["_law_script", "_law_start", "_law_many"] (aw bT):=⟨rfl,rfl,rfl,by decide +kernel,rfl,by decide +kernel,by decide +kernel⟩
theorem mX (D:Def K mg "_law_any" bT ["_law_script", "_law_start", "_law_many"]) (T:Txt K mg Z) (bX:dR P w K mg base (cV P w) "_law_mixed" 2 ["_law_script", "_law_k"] (dW K)):dR P w K mg base (cV P w) "_law_any" 3 ["_law_script", "_law_start", "_law_many"] (rQ K):=by
 refine D.eD cm (fun vs H Q E h=>?_) (fun f dq A outer s H vs Q E hr h=>?_)
 ·obtain ⟨a,ns,st,n,rfl,_⟩:=h; rfl
 ·obtain ⟨a,ns,st,n,rfl,hS,OY,OX,AJ,Ik,q⟩:=h
  refine ⟨_,(ah (iB (i:=3) cm.nd rfl (by first | exact Or.inl rfl | exact Or.inr rfl) (tg:=["_law_k"]) (fr:=[]) (by walk_at "blk_ok") rfl (bj rfl T.range (aa (pv 2) ag)) (fun _ _ _ _ _=>(aJ (i:=0) (show [("_law_k" : Str)].Nodup by decide +kernel) rfl (by first | exact Or.inl rfl | exact Or.inr rfl))) (fun _ _ _ _ _=>eR) (fun _ _ _ _ _=>(bN ag)))
   (ah (aC (i:=4) cm.nd rfl (by first | exact Or.inl rfl | exact Or.inr rfl) (aE ck ao (aE bH (aK bX hr bQ (aa (pv 0) (aa (pv 1) ag))) ao)))
   (ah (bU PassesOwn.never rfl (bj rfl T.range (aa (pv 2) ag)) (aJ (i:=5) cm.nd rfl (by first | exact Or.inl rfl | exact Or.inr rfl))
   (aq (bU PassesOwn.never rfl (bj rfl T.range (aa (pv 5) ag)) (aJ (i:=6) cm.nd rfl (by first | exact Or.inl rfl | exact Or.inr rfl))
   (ah (aC (i:=7) cm.nd rfl (by first | exact Or.inl rfl | exact Or.inr rfl) (aK bX hr bQ (aa (pv 0) (aa (aE ck (aE ck (aE ck (pv 1) ao) (aE fB ao (pv 5))) (pv 6)) ag))))
   (aq (bY (aN kc (aE bH (pv 7) (pv 4)) ao (bg _)) (ah (bo (cw PySem.F.plainAttrs_list PySem.F.slot_list_insert PySem.F.type_list_insert d6 (aX aH (pv 3) (pv 5) (fun _ _=>rfl)) (aa (aE bH (aE cE (pv 7) ao) (aE ck (aB aF (by rfl) T.len aT (aa (aX aH (pv 3) (pv 5) (fun _ _=>rfl)) ag)) ao)) (aa (pv 6) ag))))
   (aq (bo (cw PySem.F.plainAttrs_list PySem.F.slot_list_insert PySem.F.type_list_insert d6 (aX aH (pv 3) (pv 6) (fun _ _=>rfl)) (aa (aE bH (aE cE (pv 7) ao) (aE ck (aB aF (by rfl) T.len aT (aa (aX aH (pv 3) (pv 6) (fun _ _=>rfl)) ag)) ao)) (aa (pv 5) ag)))))) bh))))))
   (aq (bw (pv 3)))))),?_⟩
  dsimp only [d9]
  walk_at "rd"
  refine dO ?_
  refine ⟨_,rfl,n,rfl,by omega,by omega,fun acc bO=>cL (fun i σ' ys H1=>∃ (as:List Addr) (v:Option V),σ' = [v]∧ys = as.map V.ref∧as.length = i∧ak H H1∧H1 acc = some (.lst ys)∧(acc :: as).Nodup∧(∀ b∈acc :: as,H b = none)∧∀ b∈as,H1 b = some (.lst [])) ⟨[],none,rfl,rfl,rfl,ak.upd bO,af,by simp,by simpa using bO,by simp⟩ ?_ ?_⟩
  ·rintro i σ' ys H1 hi ⟨as,v,rfl,rfl,rfl,e1,h1,nd,fr,hb⟩
   walk_at "rd"
   refine ⟨Nat.zero_le _,fun p hp=>⟨by rw [ai (ay h1 hp)]; exact h1,by rw [List.length_map]; exact az (by omega),cW hi ⟨as ++ [p],_,rfl,by simp,by simp,ak.fresh (ak.fresh e1 (e1.free hp)) bO,af,?_,?_,?_⟩⟩⟩
   ·have np:p∉acc :: as:=fun z=>by
     rcases List.mem_cons.mp z with z | z
     ·rw [z,h1] at hp; cases hp
     ·rw [hb p z] at hp; cases hp
    have:=List.nodup_cons.mpr ⟨np,nd⟩
    have pm:(acc :: (as ++ [p])).Perm (p :: acc :: as):=by
     have:acc :: (as ++ [p]) = (acc :: as) ++ [p]:=rfl
     rw [this]
     exact List.perm_append_singleton _ _
    exact pm.nodup_iff.mpr this
   ·intro b rp
    rcases List.mem_cons.mp rp with z | z
    ·rw [z]; exact bO
    ·rcases List.mem_append.mp z with z | z
     ·exact fr b (List.mem_cons_of_mem _ z)
     ·rw [List.mem_singleton.mp z]; exact e1.free hp
   ·intro b rp
    have ba:b≠acc:=fun z=>by
     subst z
     rcases List.mem_append.mp rp with z | z
     ·exact (List.nodup_cons.mp nd).1 z
     ·exact ay h1 hp (List.mem_singleton.mp z)
    rw [ai ba]
    rcases List.mem_append.mp rp with z | z
    ·rw [ai (ay (hb b z) hp)]; exact hb b z
    ·rw [List.mem_singleton.mp z]; exact af
  ·rintro σ' ys H1 ⟨as,v,rfl,rfl,has,e1,h1,nd,fr,hb⟩
   walk_at "rd"
   refine ⟨a,ns,st,rfl,e1.seq hS,by omega,by omega,fun n1 a0 a1=>?_⟩
   have Jr:(0:Int) < 2 + n1 % 3:=by omega
   walk_at "rd"
   generalize 2 + n1 % 3 = th at Jr ⊢
   refine cD ?_
   refine ⟨_,rfl,n,rfl,by omega,by omega,bI (fun i σ H1=>∃ (L:List (List Int)) (v5 v6 v7:Option V),σ = [some (.ref a),some (.int st),some (.int n),some (.ref acc),some (.int th),v5,v6,v7]∧ak H H1∧aU H1 acc as L∧Made n.toNat i 0 L) ⟨List.replicate n.toNat [],none,none,none,rfl,e1,⟨h1,by simp [has],fun i b l h2 h3=>?_⟩,Made.start (by simp) fun i l h=>?_⟩ ?_ ?_⟩
   ·rw [List.getElem?_replicate] at h3
    split at h3
    ·cases h3; exact hb b (List.mem_of_getElem? h2)
    ·cases h3
   ·rw [List.getElem?_replicate] at h
    split at h
    ·cases h; rfl
    ·cases h
   ·rintro i σ H2 hi ⟨L,v5,v6,v7,rfl,e2,g2,m2⟩
    simp only [Int.zero_add]
    walk_at "rd"
    refine cD ?_
    refine ⟨_,rfl,(i:Int),rfl,by omega,by omega,?_⟩
    rw [Int.toNat_natCast]
    refine bI (fun j σ H1=>∃ (L:List (List Int)) (v6 v7:Option V),σ = [some (.ref a),some (.int st),some (.int n),some (.ref acc),some (.int th),some (.int (i:Int)),v6,v7]∧ak H H1∧aU H1 acc as L∧Made n.toNat i j L) ⟨L,v6,v7,rfl,e2,g2,m2⟩ ?_ ?_
    ·rintro j σ H3 hj ⟨L3,w6,w7,rfl,e3,g3,m3⟩
     simp only [Int.zero_add]
     walk_at "rd"
     refine ⟨a,ns,_,rfl,e3.seq hS,by omega,by omega,fun nb b0 b1=>?_⟩
     walk_at "rd"
     refine d8 (fun _=>?_) (fun _=>?_)
     ·have hL:=m3.len
      obtain ⟨p1,l1,Ba,AO,wH⟩:=g3.at (i:=i) (by omega)
      obtain ⟨p2,l2,A9,AN,Ig⟩:=g3.at (i:=j) (by omega)
      have z1:=m3.small AO
      have z2:=m3.small AN
      have Ef:p2≠p1:=fun z=>by
       subst z
       obtain ⟨q1,w1⟩:=List.getElem?_eq_some_iff.mp Ba
       obtain ⟨q2,w2⟩:=List.getElem?_eq_some_iff.mp A9
       exact Nat.ne_of_lt hj ((List.getElem_inj (List.nodup_cons.mp nd).2).mp (w2.trans w1.symm))
      walk_at "rd"
      refine aZ (aG.of g3.top) (g3.ix Ba) ?_
      refine ⟨.inl ⟨rfl,_,aG.of wH⟩,?_⟩
      walk_at "rd"
      refine aZ (aG.of g3.top) (g3.ix Ba) ?_
      walk_at "rd"
      refine ⟨_,_,rfl,.inl ⟨_,aG.of wH,rfl⟩,?_⟩
      rw [List.length_map]
      have wK:(0:Int) < (l1.length:Int) + 1:=by omega
      walk_at "rd"
      have d0:=Int.emod_nonneg (nb / 12) (show (l1.length:Int) + 1≠0 by omega)
      have d1:=Int.emod_lt_of_pos (nb / 12) wK
      generalize nb / 12 % ((l1.length:Int) + 1) = k1 at d0 d1 ⊢
      refine eN (k:=k1.toNat) (by omega) wH (by rw [List.length_map]; omega) (by rw [List.length_map]; exact az (by omega)) ?_
      rw [map_put]
      have g4:=g3.set (l':=put l1 k1.toNat (j:Int)) nd Ba
      have jP:H p1 = none:=fr p1 (List.mem_cons_of_mem _ (List.mem_of_getElem? Ba))
      have vw:H p2 = none:=fr p2 (List.mem_cons_of_mem _ (List.mem_of_getElem? A9))
      have yp:upd H3 p1 (.lst ((put l1 k1.toNat (j:Int)).map V.int)) p2 = some (.lst (l2.map V.int)):=by rw [ai Ef]; exact Ig
      have e4:ak H (upd H3 p1 (.lst ((put l1 k1.toNat (j:Int)).map V.int))):=ak.fresh e3 jP
      walk_at "rd"
      refine aZ (aG.of g4.top) (g4.ix A9) ?_
      refine ⟨.inl ⟨rfl,_,aG.of yp⟩,?_⟩
      walk_at "rd"
      refine aZ (aG.of g4.top) (g4.ix A9) ?_
      walk_at "rd"
      refine ⟨_,_,rfl,.inl ⟨_,aG.of yp,rfl⟩,?_⟩
      rw [List.length_map]
      have tD:(0:Int) < (l2.length:Int) + 1:=by omega
      walk_at "rd"
      have c0:=Int.emod_nonneg (nb / 128) (show (l2.length:Int) + 1≠0 by omega)
      have c1:=Int.emod_lt_of_pos (nb / 128) tD
      generalize nb / 128 % ((l2.length:Int) + 1) = k2 at c0 c1 ⊢
      refine eN (k:=k2.toNat) (by omega) yp (by rw [List.length_map]; omega) (by rw [List.length_map]; exact az (by omega)) ?_
      rw [map_put]
      exact ⟨_,_,_,rfl,ak.fresh e4 vw,g4.set nd A9,m3.step hj (by omega) AO AN⟩
     ·walk_at "rd"
      exact ⟨L3,_,_,rfl,e3,g3,m3.skip⟩
    ·rintro σ H3 ⟨L3,w6,w7,rfl,e3,g3,m3⟩
     exact ⟨L3,_,_,_,rfl,e3,g3,m3.next⟩
   ·rintro σ H2 ⟨L,v5,v6,v7,rfl,e2,g2,m2⟩
    walk_at "rd"
    exact q acc as L H2 e2 g2 nd fr (by have:=m2.len; omega) m2.map
theorem aV:aR ["_law_orders", "_law_gone", "_law_found", "_law_one", "_law_other", "_law_ring", "_law_here", "_law_there", "_law_order"] ["_law_orders"] (aw bA):=⟨rfl,rfl,rfl,by decide +kernel,rfl,by decide +kernel,by decide +kernel⟩
theorem jK (D:Def K mg "_law_rings" bA ["_law_orders"]) (T:Txt K mg Z):dR P w K mg base (cV P w) "_law_rings" 1 ["_law_orders"] mG:=by
 refine D.eD aV (fun vs H Q E h=>?_) (fun f dq A outer s H vs Q E hr h=>?_)
 ·obtain ⟨p,as,L,rfl,_⟩:=h; rfl
 ·obtain ⟨p,as,L,rfl,g,im,hn,hd,q⟩:=h
  refine ⟨_,(ah (aC (i:=1) aV.nd rfl (by first | exact Or.inl rfl | exact Or.inr rfl) i8)
   (ah (aC (i:=2) aV.nd rfl (by first | exact Or.inl rfl | exact Or.inr rfl) (bN ag))
   (ah (bU PassesOwn.never rfl (bj rfl T.range (aa (aB aF (by rfl) T.len aT (aa (pv 0) ag)) ag)) (aJ (i:=3) aV.nd rfl (by first | exact Or.inl rfl | exact Or.inr rfl))
   (aq (bU PassesOwn.never rfl (de (aX aH (pv 0) (pv 3) (fun _ _=>rfl))) (aJ (i:=4) aV.nd rfl (by first | exact Or.inl rfl | exact Or.inr rfl))
   (aq (bY (dP (dr (bL hr) (bG (aa (pv 3) (aa (pv 4) ag))) (pv 1))) (ah (aC (i:=5) aV.nd rfl (by first | exact Or.inl rfl | exact Or.inr rfl) (bN ag))
   (ah (aC (i:=6) aV.nd rfl (by first | exact Or.inl rfl | exact Or.inr rfl) (pv 3))
   (ah (aC (i:=7) aV.nd rfl (by first | exact Or.inl rfl | exact Or.inr rfl) (pv 4))
   (ah (eP PassesOwn.never (dP (dr (bL hr) (bG (aa (pv 6) (aa (pv 7) ag))) (pv 1))) (ah (dJ (bL hr) (pv 1) (bG (aa (pv 6) (aa (pv 7) ag))) gz rfl)
   (ah (bo (cw PySem.F.plainAttrs_list PySem.F.slot_list_append PySem.F.type_list_append cG (pv 5) (aa (pv 6) ag)))
   (ah (aC (i:=8) aV.nd rfl (by first | exact Or.inl rfl | exact Or.inr rfl) (aX aH (pv 0) (pv 7) (fun _ _=>rfl)))
   (aq (xK (i:=6) (j:=7) rfl aV.nd rfl rfl (by decide) rfl rfl (aa (pv 7) (aa (aX aH (pv 8) (aE lM (cw PySem.F.plainAttrs_list PySem.F.slot_list_index PySem.F.type_list_index gD (pv 8) (aa (pv 6) ag)) ao) (fun _ _=>rfl)) ag)) rfl))))))
   (aq (bo (cw PySem.F.plainAttrs_list PySem.F.slot_list_append PySem.F.type_list_append cG (pv 2) (aa (pv 5) ag)))))))) bh)))))
   (aq (bw (pv 2)))))),?_⟩
  dsimp only [d9]
  walk_at "rd"
  intro gd FG
  walk_at "rd"
  refine ⟨Nat.zero_le _,fun t ht=>?_⟩
  have tH:H t = none:=(ak.upd FG).free ht
  have e0:ak H (upd (upd H gd (.dT [])) t (.lst [])):=(ak.upd FG).trans (ak.upd ht)
  have g0:upd (upd H gd (.dT [])) t (.lst []) gd = some (.dT (kD [])):=by rw [ai (ay af ht)]; exact af
  have t0:aU (upd (upd H gd (.dT [])) t (.lst [])) t [] []:=⟨af,rfl,fun i a l z=>by simp at z⟩
  generalize upd (upd H gd (.dT [])) t (.lst []) = H0 at e0 g0 t0 ⊢
  walk_at "rd"
  refine cD ?_
  refine ⟨_,rfl,_,_,rfl,.inl ⟨_,aG.of (e0 _ _ g.top),rfl⟩,(L.length:Int),by rw [List.length_map,g.len],by omega,by omega,?_⟩
  rw [Int.toNat_natCast]
  refine bI (fun i σ H1=>∃ (bs:List Addr) (R:List (List au)) (v3 v4 v5 v6 v7 v8:Option V),σ = [some (.ref p),some (.ref gd),some (.ref t),v3,v4,v5,v6,v7,v8]∧ak H H1∧H1 gd = some (.dT (kD R.flatten))∧aU H1 t bs (R.map fun c=>c.map (·.1))∧(t :: bs).Nodup∧(∀ b∈t :: bs,H b = none)∧Dp L R∧∀ d,Dt L d→d.1 < i→d∈R.flatten)
   ⟨[],[],none,none,none,none,none,none,rfl,e0,g0,t0,by simp,by simpa using tH,Dp.start,fun d h1 h2=>by have:=h1.lo; omega⟩ ?_ ?_
  ·rintro i σ H1 hi ⟨bs,R,v3,v4,v5,v6,v7,v8,rfl,e1,g1,t1,qE,jP,Cm,CL⟩
   obtain ⟨b,l,ha,hl,eY⟩:=g.at hi
   simp only [Int.zero_add]
   have el:rowOf L (i:Int) = l:=by
    have:=aD (L:=L) (a:=(i:Int)) (by omega) (by omega)
    rw [Int.toNat_natCast,hl] at this
    exact (Option.some.inj this).symm
   walk_at "rd"
   refine cD ?_
   refine ⟨_,rfl,_,rfl,aZ (aG.of (e1 _ _ g.top)) (g.ix ha) ?_⟩
   refine ⟨b,rfl,⟨_,aG.of (e1 _ _ eY)⟩,fb (K:=K) (a:=b) (xs:=l.map V.int) (fun k σ H3=>∃ (bs:List Addr) (R:List (List au)) (v4 v5 v6 v7 v8:Option V),σ = [some (.ref p),some (.ref gd),some (.ref t),some (.int (i:Int)),v4,v5,v6,v7,v8]∧ak H H3∧H3 gd = some (.dT (kD R.flatten))∧aU H3 t bs (R.map fun c=>c.map (·.1))∧(t :: bs).Nodup∧(∀ b∈t :: bs,H b = none)∧Dp L R∧∀ d,Dt L d→d.1 < i∨d.1 = i∧d.2∈l.take k→d∈R.flatten)
    ⟨bs,R,v4,v5,v6,v7,v8,rfl,e1,g1,t1,qE,jP,Cm,fun d h1 h2=>CL d h1 (h2.elim id fun z=>by simp at z)⟩ (fun k σ H3 _ ⟨_,_,_,_,_,_,_,_,e,_⟩=>aG.of (e _ _ eY)) ?_ ?_⟩
   ·clear bs R v3 v4 v5 v6 v7 v8 e1 g1 t1 qE jP Cm CL
    rintro k x σ H3 hx ⟨bs,R,v4,v5,v6,v7,v8,rfl,e3,g3,t3,wB,rq,zc,zp⟩
    obtain ⟨y,hy,rfl⟩:∃ y,l[k]? = some y∧x = V.int y:=by
     rw [List.getElem?_map] at hx
     cases e:l[k]? with
     | none=>rw [e] at hx; cases hx
     | some z=>rw [e] at hx; exact ⟨z,rfl,(Option.some.inj hx).symm⟩
    have dt:Dt L ((i:Int),y):=⟨by simp,by simpa using hi,by rw [el]; exact List.mem_of_getElem? hy⟩
    walk_at "rd"
    intro q1 vi
    have e4:ak H3 (upd H3 q1 (.tup [.int i,.int y])):=ak.upd vi
    have k4:upd H3 q1 (.tup [.int i,.int y]) q1 = some (.tup ((gU ((i:Int),y)).map kV)):=af
    generalize upd H3 q1 (.tup [.int i,.int y]) = H4 at e4 k4 ⊢
    refine ⟨_,rfl,gd,_,rfl,cz.t (k:=gU ((i:Int),y)) (e4 _ _ g3) k4,?_⟩
    rw [fj]
    walk_at "rd"
    refine d8 (fun wL=>?_) (fun AD=>?_)
    ·obtain ⟨n,n0,ek,nr⟩:=jv im dt
     have dp:=zc.add im dt n0 ek nr wL
     have lb:=dp.len
     have lf:=Dp.oA fun c hc=>(zc.jE c hc).ne
     rw [List.flatten_append,List.flatten_singleton,List.length_append] at lb
     have tn:∀ j,(tr L ((i:Int),y) j).length = j:=fun j=>by unfold tr; simp
     rw [tn] at lb
     walk_at "rd"
     refine ⟨Nat.zero_le _,fun r pX=>?_⟩
     have g4:=e4 _ _ g3
     have t4:=t3.same e4
     have nc:=t4.hV pX
     have rH:H r = none:=(e3.trans e4).free pX
     have e5:ak H (upd H4 r (.lst [])):=(e3.trans e4).trans (ak.upd pX)
     have g5:upd H4 r (.lst []) gd = some (.dT (kD (R.flatten ++ tr L ((i:Int),y) 0))):=by
      rw [ai (ay g4 pX),show tr L ((i:Int),y) 0 = [] from rfl,List.append_nil]; exact g4
     have t5:=t4.same (ak.upd (o:=.lst []) pX)
     have r5:upd H4 r (.lst []) r = some (.lst ((aW L ((i:Int),y) 0).map V.int)):=af
     generalize upd H4 r (.lst []) = H5 at e5 g5 t5 r5 ⊢
     walk_at "rd"
     refine fZ (fun σ H6=>∃ (j:Nat) (v8:Option V),σ = [some (.ref p),some (.ref gd),some (.ref t),some (.int (i:Int)),some (.int y),some (.ref r),some (.int (it L ((i:Int),y) j).1),some (.int (it L ((i:Int),y) j).2),v8]∧j≤n∧ak H H6∧H6 gd = some (.dT (kD (R.flatten ++ tr L ((i:Int),y) j)))∧aU H6 t bs (R.map fun c=>c.map (·.1))∧H6 r = some (.lst ((aW L ((i:Int),y) j).map V.int)))
      (fun _ H6=>match H6 r with | some (.lst xs)=>n - xs.length | _=>0) ⟨0,v8,rfl,Nat.zero_le _,e5,g5,t5,r5⟩ ?_
     rintro σ H6 ⟨j,w8,rfl,hj,e6,g6,t6,r6⟩
     walk_at "rd"
     intro q7 Md
     have e7:ak H6 (upd H6 q7 (.tup [.int (it L ((i:Int),y) j).1,.int (it L ((i:Int),y) j).2])):=ak.upd Md
     have k7:upd H6 q7 (.tup [.int (it L ((i:Int),y) j).1,.int (it L ((i:Int),y) j).2]) q7 = some (.tup ((gU (it L ((i:Int),y) j)).map kV)):=af
     generalize upd H6 q7 (.tup [.int (it L ((i:Int),y) j).1,.int (it L ((i:Int),y) j).2]) = H7 at e7 k7 ⊢
     have g7:=e7 _ _ g6
     have t7:=t6.same e7
     have r7:=e7 _ _ r6
     refine ⟨_,rfl,gd,_,rfl,cz.t (k:=gU (it L ((i:Int),y) j)) g7 k7,?_⟩
     rw [fj]
     have rl:∀ j,((aW L ((i:Int),y) j).map V.int).length = j:=fun j=>by unfold aW; simp
     have ts:tr L ((i:Int),y) (j + 1) = tr L ((i:Int),y) j ++ [it L ((i:Int),y) j]:=by unfold tr; rw [List.range_succ,List.map_append]; rfl
     walk_at "rd"
     refine d8 (fun AI=>?_) (fun hold=>?_)
     ·have jn:j < n:=by
       refine Nat.lt_of_le_of_ne hj fun z=>AI (List.mem_append_right _ ?_)
       rw [z,ek]
       exact List.mem_map.mpr ⟨0,List.mem_range.mpr n0,rfl⟩
      have M8:=ji im dt j
      obtain ⟨b0,b1,b2,b3⟩:=M8.back im
      obtain ⟨c2,l2,NF,IQ,Gz⟩:=g.at (i:=(it L ((i:Int),y) j).2.toNat) (by omega)
      have M5:l2 = rowOf L (it L ((i:Int),y) j).2:=by rw [aD b0 b1] at IQ; exact (Option.some.inj IQ).symm
      subst M5
      have i2:jz (as.map V.ref) (it L ((i:Int),y) j).2 = some (V.ref c2):=by
       have:=g.ix NF
       rwa [Int.toNat_of_nonneg b0] at this
      refine w_turn ?_
      rw [r6]
      dsimp only
      walk_at "rd"
      intro q8 Mc
      have e8:ak H7 (upd H7 q8 (.tup [.int (it L ((i:Int),y) j).1,.int (it L ((i:Int),y) j).2])):=ak.upd Mc
      have k8:upd H7 q8 (.tup [.int (it L ((i:Int),y) j).1,.int (it L ((i:Int),y) j).2]) q8 = some (.tup ((gU (it L ((i:Int),y) j)).map kV)):=af
      generalize upd H7 q8 (.tup [.int (it L ((i:Int),y) j).1,.int (it L ((i:Int),y) j).2]) = H8 at e8 k8 ⊢
      have g8:=e8 _ _ g7
      refine ⟨gd,_,rfl,fJ.t (k:=gU (it L ((i:Int),y) j)) g8 k8 ?_,?_⟩
      ·rw [yh,List.length_append,tn]
       exact az (by omega)
      ·rw [sq AI,List.append_assoc,← ts]
       have e9:ak H (upd H8 gd (.dT (kD (R.flatten ++ tr L ((i:Int),y) (j + 1))))):=ak.fresh ((e6.trans e7).trans e8) FG
       have g9:upd H8 gd (.dT (kD (R.flatten ++ tr L ((i:Int),y) (j + 1)))) gd = some (.dT (kD (R.flatten ++ tr L ((i:Int),y) (j + 1)))):=af
       have t9:=(t7.same e8).other (o:=.dT (kD (R.flatten ++ tr L ((i:Int),y) (j + 1)))) g8
       have r8:=e8 _ _ r7
       have r9:upd H8 gd (.dT (kD (R.flatten ++ tr L ((i:Int),y) (j + 1)))) r = some (.lst ((aW L ((i:Int),y) j).map V.int)):=by
        rw [ai (fun z=>by rw [z,g8] at r8; cases r8)]; exact r8
       generalize upd H8 gd (.dT (kD (R.flatten ++ tr L ((i:Int),y) (j + 1)))) = H9 at e9 g9 t9 r9 ⊢
       walk_at "rd"
       refine ⟨.inl ⟨rfl,_,aG.of r9⟩,?_⟩
       walk_at "rd"
       refine dY r9 (by rw [rl]; exact az (by omega)) ?_
       have er:(aW L ((i:Int),y) j).map V.int ++ [V.int (it L ((i:Int),y) j).1] = (aW L ((i:Int),y) (j + 1)).map V.int:=by
        unfold aW
        rw [List.range_succ,List.map_append,List.map_append]
        rfl
       rw [er]
       have eA:ak H (upd H9 r (.lst ((aW L ((i:Int),y) (j + 1)).map V.int))):=ak.fresh e9 rH
       have gA:upd H9 r (.lst ((aW L ((i:Int),y) (j + 1)).map V.int)) gd = some (.dT (kD (R.flatten ++ tr L ((i:Int),y) (j + 1)))):=by
        rw [ai (fun z=>by rw [← z,g9] at r9; cases r9)]; exact g9
       have tA:aU (upd H9 r (.lst ((aW L ((i:Int),y) (j + 1)).map V.int))) t bs (R.map fun c=>c.map (·.1)):=t9.away nc
       have rA:upd H9 r (.lst ((aW L ((i:Int),y) (j + 1)).map V.int)) r = some (.lst ((aW L ((i:Int),y) (j + 1)).map V.int)):=af
       generalize upd H9 r (.lst ((aW L ((i:Int),y) (j + 1)).map V.int)) = HA at eA gA tA rA ⊢
       walk_at "rd"
       refine aZ (aG.of (eA _ _ g.top)) i2 ?_
       walk_at "rd"
       refine ⟨.inl ⟨rfl,_,aG.of (eA _ _ Gz)⟩,?_⟩
       walk_at "rd"
       refine ⟨c2,_,_,rfl,rfl,eA _ _ Gz,b3,?_⟩
       walk_at "rd"
       refine aZ (aG.of (eA _ _ Gz)) (vC b3) ?_
       walk_at "rd"
       refine ⟨_,_,rfl,⟨j + 1,_,rfl,jn,eA,gA,tA,rA⟩,?_⟩
       rw [rA]
       dsimp only
       rw [rl,rl]
       omega
     ·have jn:j = n:=by
       refine Nat.le_antisymm hj (Nat.le_of_not_lt fun z=>?_)
       rcases List.mem_append.mp hold with w | w
       ·exact zc.new n0 ek wL j w
       ·have nd:=iN im dt nr
        have ej:(tr L ((i:Int),y) n)[j]? = some (it L ((i:Int),y) j):=by unfold tr; simp [z]
        have:=gC (A:=[]) (by simpa using nd) ej
        refine this ?_
        have et:(tr L ((i:Int),y) n).take j = tr L ((i:Int),y) j:=by
         unfold tr
         rw [← List.map_take,List.take_range,Nat.min_eq_left (by omega)]
        rw [et]
        exact List.mem_append_right _ w
      subst jn
      have M7:=e6.trans e7
      walk_at "rd"
      refine ⟨.inl ⟨rfl,_,aG.of t7.top⟩,?_⟩
      walk_at "rd"
      have zb:=t7.len
      rw [List.length_map] at zb
      refine dY t7.top (by rw [List.length_map]; exact az (by omega)) ?_
      have HP:r≠t:=fun z=>nc (z▸List.mem_cons_self)
      have er:aW L ((i:Int),y) j = (tr L ((i:Int),y) j).map (·.1):=by unfold aW tr; rw [List.map_map]; rfl
      rw [er] at r7
      have t8:=t7.snoc (List.nodup_cons.mp wB).1 HP r7
      have g8:upd H7 t (.lst (bs.map V.ref ++ [.ref r])) gd = some (.dT (kD (R.flatten ++ tr L ((i:Int),y) j))):=by
       rw [ai (fun z=>by have:=t7.top; rw [← z,g7] at this; cases this)]; exact g7
      refine ⟨bs ++ [r],R ++ [tr L ((i:Int),y) j],_,_,_,_,_,rfl,ak.fresh M7 tH,?_,?_,?_,fun b hb=>?_,dp,fun d h1 h2=>?_⟩
      ·rw [List.flatten_append,List.flatten_singleton]; exact g8
      ·rw [List.map_append]; exact t8
      ·obtain ⟨n1,n2⟩:=List.nodup_cons.mp wB
       refine List.nodup_cons.mpr ⟨fun z=>?_,gj.mpr ⟨fun z=>nc (List.mem_cons_of_mem _ z),n2⟩⟩
       rcases List.mem_append.mp z with z | z
       ·exact n1 z
       ·exact HP (List.mem_singleton.mp z).symm
      ·rcases List.mem_cons.mp hb with z | z
       ·rw [z]; exact tH
       ·rcases List.mem_append.mp z with z | z
        ·exact rq b (List.mem_cons_of_mem _ z)
        ·rw [List.mem_singleton.mp z]; exact rH
      ·rw [List.flatten_append,List.flatten_singleton]
       rw [take_snoc hy] at h2
       by_cases z:d = ((i:Int),y)
       ·rw [z]
        exact List.mem_append_right _ (List.mem_map.mpr ⟨0,List.mem_range.mpr n0,rfl⟩)
       ·refine List.mem_append_left _ (zp d h1 ?_)
        rcases h2 with h2 | ⟨h2,h3⟩
        ·exact .inl h2
        ·rcases List.mem_append.mp h3 with h3 | h3
         ·exact .inr ⟨h2,h3⟩
         ·exact absurd (Prod.ext h2 (List.mem_singleton.mp h3)) z
    ·refine ⟨bs,R,_,_,_,_,_,rfl,e3.trans e4,e4 _ _ g3,t3.same e4,wB,rq,zc,fun d h1 h2=>?_⟩
     rw [take_snoc hy] at h2
     rcases h2 with h2 | ⟨h2,h3⟩
     ·exact zp d h1 (.inl h2)
     ·rcases List.mem_append.mp h3 with h3 | h3
      ·exact zp d h1 (.inr ⟨h2,h3⟩)
      ·rw [show d = ((i:Int),y) from Prod.ext h2 (List.mem_singleton.mp h3)]; exact AD
   ·rintro σ H3 ⟨bs,R,v4,v5,v6,v7,v8,rfl,e3,g3,t3,wB,rq,zc,zp⟩
    rw [List.length_map,List.take_length] at zp
    refine ⟨bs,R,_,_,_,_,_,_,rfl,e3,g3,t3,wB,rq,zc,fun d h1 h2=>zp d h1 ?_⟩
    by_cases z:d.1 = i
    ·refine .inr ⟨z,?_⟩
     have:=h1.mem
     rw [z,el] at this
     exact this
    ·exact .inl (by omega)
  ·rintro σ H1 ⟨bs,R,v3,v4,v5,v6,v7,v8,rfl,e1,g1,t1,qE,jP,Cm,CL⟩
   walk_at "rd"
   exact q t bs R H1 e1 t1 qE jP (Cm.dec fun d hd=>CL d hd hd.hi)
theorem cR:aR ["_law_orders", "_law_ring", "_law_one", "_law_other", "_law_first", "_law_second"] ["_law_orders", "_law_ring", "_law_one", "_law_other"] (aw bb):=⟨rfl,rfl,rfl,by decide +kernel,rfl,by decide +kernel,by decide +kernel⟩
theorem h8 (D:Def K mg "_law_put_tie" bb ["_law_orders", "_law_ring", "_law_one", "_law_other"]) (T:Txt K mg Z):dR P w K mg base (cV P w) "_law_put_tie" 1 ["_law_orders", "_law_ring", "_law_one", "_law_other"] j5:=by
 refine D.eD cR (fun vs H Q E h=>?_) (fun f dq A outer s H vs Q E hr h=>?_)
 ·obtain ⟨p,ra,as,L,r,i,j,rfl,_⟩:=h; rfl
 ·obtain ⟨p,ra,as,L,r,i,j,rfl,g,nd,vh,Cf,sh,sm,gd,ns,hi,hj,hn,q⟩:=h
  have nr:=sm.ring gd ns
  have im:=sh.map
  obtain ⟨y6,a0,a1,II⟩:=cK gd im (c:=i)
  obtain ⟨y4,b0,b1,IH⟩:=cK gd im (c:=j)
  obtain ⟨ca,la,ha,wM,fL⟩:=g.at (i:=(cy r i).toNat) (by omega)
  obtain ⟨cb,lb,hb,vk,Ie⟩:=g.at (i:=(cy r j).toNat) (by omega)
  have M4:la = rowOf L (cy r i):=by rw [aD a0 a1] at wM; exact (Option.some.inj wM).symm
  have M3:lb = rowOf L (cy r j):=by rw [aD b0 b1] at vk; exact (Option.some.inj vk).symm
  subst M4 M3
  have ia:jz (as.map V.ref) (cy r i) = some (V.ref ca):=by
   have:=g.ix ha
   rwa [Int.toNat_of_nonneg a0] at this
  have ib:jz (as.map V.ref) (cy r j) = some (V.ref cb):=by
   have:=g.ix hb
   rwa [Int.toNat_of_nonneg b0] at this
  have sa:(rowOf L (cy r i)).length≤L.length:=cx (im.nd _ _ wM) fun y hy=>⟨(im.rg _ _ wM y hy).1,(im.rg _ _ wM y hy).2.1⟩
  have sb:(rowOf L (cy r j)).length≤L.length:=cx (im.nd _ _ vk) fun y hy=>⟨(im.rg _ _ vk y hy).1,(im.rg _ _ vk y hy).2.1⟩
  have ii:=List.idxOf_lt_length_of_mem y6
  have ij:=List.idxOf_lt_length_of_mem y4
  refine ⟨_,(ah (aC (i:=4) cR.nd rfl (by first | exact Or.inl rfl | exact Or.inr rfl) (aX aH (pv 1) (pv 2) (fun _ _=>rfl)))
   (ah (aC (i:=5) cR.nd rfl (by first | exact Or.inl rfl | exact Or.inr rfl) (aX aH (pv 1) (pv 3) (fun _ _=>rfl)))
   (aq (bY (PW.pt (pw_and (aN kc (pv 4) (pv 5) (bg _)) (pw_and1 (aN df (pv 5) (aX aH (pv 0) (pv 4) (fun _ _=>rfl)) (by with_unfolding_all rfl))))) (ah (bo (cw PySem.F.plainAttrs_list PySem.F.slot_list_insert PySem.F.type_list_insert d6 (aX aH (pv 0) (pv 4) (fun _ _=>rfl)) (aa (cw PySem.F.plainAttrs_list PySem.F.slot_list_index PySem.F.type_list_index gD (aX aH (pv 0) (pv 4) (fun _ _=>rfl)) (aa (aX aH (pv 1) (aE lM (pv 2) ao) (fun _ _=>rfl)) ag)) (aa (pv 5) ag))))
   (aq (bo (cw PySem.F.plainAttrs_list PySem.F.slot_list_insert PySem.F.type_list_insert d6 (aX aH (pv 0) (pv 5) (fun _ _=>rfl)) (aa (cw PySem.F.plainAttrs_list PySem.F.slot_list_index PySem.F.type_list_index gD (aX aH (pv 0) (pv 5) (fun _ _=>rfl)) (aa (aX aH (pv 1) (aE lM (pv 3) ao) (fun _ _=>rfl)) ag)) (aa (pv 4) ag)))))) bh)))),?_⟩
  dsimp only [d9]
  walk_at "rd"
  refine aZ (aG.of vh) (fg (j:=i) (by omega) (by omega) (.inl rfl)) ?_
  walk_at "rd"
  refine aZ (aG.of vh) (fg (j:=j) (by omega) (by omega) (.inl rfl)) ?_
  walk_at "rd"
  refine d8 (fun nu=>?_) (fun heq=>?_)
  ·walk_at "rd"
   refine aZ (aG.of g.top) ia ?_
   refine rZ (aG.of fL) ?_
   rw [if_pos rfl]
   walk_at "rd"
   refine d8 (fun AH=>?_) (fun LY=>?_)
   ·have F:aY L (cy r i) (cy r j) (put (rowOf L (cy r i)) ((rowOf L (cy r i)).idxOf (cy r (i + (r.length - 1)))) (cy r j)) (put (rowOf L (cy r j)) ((rowOf L (cy r j)).idxOf (cy r (j + (r.length - 1)))) (cy r i)):=by
     have Fu:cy r i∉rowOf L (cy r j):=fun z=>AH (Dt.back (d:=(cy r j,cy r i)) ⟨b0,b1,z⟩ im).2.2.2
     exact ⟨im,a0,a1,b0,b1,nu,AH,dZ _ _ _,dZ _ _ _,ft AH,ft Fu⟩
    have JY:=F.we sh y6 y4 (eo y6 AH) (eo y4 F.EK) (fun Pd h0 hs=>by
     rw [← II] at h0
     rw [← IH]
     exact gd.on hs h0 _)
    have JL:qh (both L (cy r i) (cy r j) (put (rowOf L (cy r i)) ((rowOf L (cy r i)).idxOf (cy r (i + (r.length - 1)))) (cy r j)) (put (rowOf L (cy r j)) ((rowOf L (cy r j)).idxOf (cy r (j + (r.length - 1)))) (cy r i))):=by
     obtain ⟨k,k0,k1,ek⟩:∃ k,0 < k∧k < r.length∧(i + k) % r.length = j % r.length:=by
      have EL:i≠j:=fun z=>nu (by rw [z])
      by_cases z:i < j
      ·exact ⟨j - i,by omega,by omega,by rw [show i + (j - i) = j by omega]⟩
      ·exact ⟨j + r.length - i,by omega,by omega,by rw [show i + (j + r.length - i) = j + r.length by omega,Nat.add_mod_right]⟩
     have ej:cy r (i + k) = cy r j:=ff ek
     have M6:dj r (i + k) = dj r j:=dz ek
     have IG:dj r (i + k + (r.length - 1)) = dj r (j + (r.length - 1)):=dz (by rw [Nat.add_mod,ek,← Nat.add_mod])
     obtain ⟨m1,m2,m3,m4,m5⟩:=F.xX y6 y4 (eo y6 AH) (eo y4 F.EK)
     have fd:=fun d=>F.dE (d:=d)
     rw [← II] at m1 m4 m5
     rw [← IH] at m2 m3 m5
     have back:∀ t,nx L (dj r (t + (r.length - 1))) = dj r t:=fun t=>by
      rw [gd.st]
      exact dz (by rw [show t + (r.length - 1) + 1 = t + r.length by omega,Nat.add_mod_right])
     rw [back] at m3 m4
     exact uy im sm gd nr ns k0 k1 (i:=i) (N:=both L (cy r i) (cy r j) (put (rowOf L (cy r i)) ((rowOf L (cy r i)).idxOf (cy r (i + (r.length - 1)))) (cy r j)) (put (rowOf L (cy r j)) ((rowOf L (cy r j)).idxOf (cy r (j + (r.length - 1)))) (cy r i))) (by rw [ej]; exact fd) (by rw [ej]; exact m1) (by rw [ej,IG]; exact m2) (by rw [ej,M6]; exact m3) (by rw [ej]; exact m4) (by rw [IG]; exact m5)
    walk_at "rd"
    refine aZ (aG.of g.top) ia ?_
    refine ⟨.inl ⟨rfl,_,aG.of fL⟩,?_⟩
    walk_at "rd"
    refine aZ (aG.of g.top) ia ?_
    refine ⟨.inl ⟨rfl,_,aG.of fL⟩,?_⟩
    walk_at "rd"
    refine aZ (aG.of vh) (fg (j:=i + (r.length - 1)) (by omega) (by omega) (.inr (by omega))) ?_
    walk_at "rd"
    refine ⟨ca,_,_,rfl,rfl,fL,y6,?_⟩
    walk_at "rd"
    refine eN (k:=(rowOf L (cy r i)).idxOf (cy r (i + (r.length - 1)))) rfl fL (by rw [List.length_map]; omega) (by rw [List.length_map]; exact az (by omega)) ?_
    rw [map_put]
    have GC:=List.mem_of_getElem? ha
    have NC:=List.mem_of_getElem? hb
    have g1:=g.set nd (l':=put (rowOf L (cy r i)) ((rowOf L (cy r i)).idxOf (cy r (i + (r.length - 1)))) (cy r j)) ha
    have o1:∀ b o,b∉as→H b = some o→upd H ca (.lst ((put (rowOf L (cy r i)) ((rowOf L (cy r i)).idxOf (cy r (i + (r.length - 1)))) (cy r j)).map V.int)) b = some o:=fun b o rp e=>by rw [iq GC rp]; exact e
    generalize upd H ca (.lst ((put (rowOf L (cy r i)) ((rowOf L (cy r i)).idxOf (cy r (i + (r.length - 1)))) (cy r j)).map V.int)) = H1 at g1 o1 ⊢
    have Fz:(L.set (cy r i).toNat (put (rowOf L (cy r i)) ((rowOf L (cy r i)).idxOf (cy r (i + (r.length - 1)))) (cy r j)))[(cy r j).toNat]? = some (rowOf L (cy r j)):=by rw [List.getElem?_set_ne (by omega)]; exact vk
    have lX:=g1.row _ _ _ hb Fz
    have qJ:=o1 _ _ Cf vh
    walk_at "rd"
    refine aZ (aG.of g1.top) ib ?_
    refine ⟨.inl ⟨rfl,_,aG.of lX⟩,?_⟩
    walk_at "rd"
    refine aZ (aG.of g1.top) ib ?_
    refine ⟨.inl ⟨rfl,_,aG.of lX⟩,?_⟩
    walk_at "rd"
    refine aZ (aG.of qJ) (fg (j:=j + (r.length - 1)) (by omega) (by omega) (.inr (by omega))) ?_
    walk_at "rd"
    refine ⟨cb,_,_,rfl,rfl,lX,y4,?_⟩
    walk_at "rd"
    refine eN (k:=(rowOf L (cy r j)).idxOf (cy r (j + (r.length - 1)))) rfl lX (by rw [List.length_map]; omega) (by rw [List.length_map]; exact az (by omega)) ?_
    rw [map_put]
    have g2:=g1.set nd (l':=put (rowOf L (cy r j)) ((rowOf L (cy r j)).idxOf (cy r (j + (r.length - 1)))) (cy r i)) hb
    refine q _ _ (fun b o rp e=>?_) g2 JY JL (by rw [List.length_set,List.length_set])
    rw [iq NC rp]
    exact o1 b o rp e
   ·exact q _ L (fun b o _ e=>e) g sh sm rfl
  ·walk_at "rd"
   exact q _ L (fun b o _ e=>e) g sh sm rfl
theorem bP:aR ["_law_orders", "_law_ring", "_law_corners", "_law_many", "_law_at", "_law_order"] ["_law_orders", "_law_ring", "_law_corners"] (aw aQ):=⟨rfl,rfl,rfl,by decide +kernel,rfl,by decide +kernel,by decide +kernel⟩
theorem gB (D:Def K mg "_law_put_place" aQ ["_law_orders", "_law_ring", "_law_corners"]) (T:Txt K mg Z):dR P w K mg base (cV P w) "_law_put_place" 1 ["_law_orders", "_law_ring", "_law_corners"] hU:=by
 refine D.eD bP (fun vs H Q E h=>?_) (fun f dq A outer s H vs Q E hr h=>?_)
 ·obtain ⟨p,ra,rc,as,L,r,cs,rfl,_⟩:=h; rfl
 ·obtain ⟨p,ra,rc,as,L,r,cs,rfl,g,nd,vh,Cf,ze,HJ,OJ,OI,jD,sm,gd,An,c2,yM,GA,Bt,hn,q⟩:=h
  have nr:=sm.ring gd An
  have c0:cs≠[]:=fun z=>by rw [z] at c2; simp at c2
  have CM:(cs.map (cy r)).Nodup:=List.Pairwise.map _ (R:=fun a b=>a < b∧b < r.length) (fun a b h=>tV nr h.1 (by omega)) (List.Pairwise.imp_of_mem (fun {a b} _ hb h=>⟨h,GA b hb⟩) yM)
  have im:=jD.map
  have two:=gd.two
  have two2:=jD.two
  obtain ⟨c1,ct,zj⟩:∃ c1 ct,cs = c1 :: ct:=by cases cs with | nil=>exact absurd rfl c0 | cons a b=>exact ⟨a,b,rfl⟩
  refine ⟨_,(ah (aC (i:=3) bP.nd rfl (by first | exact Or.inl rfl | exact Or.inr rfl) (aB aF (by rfl) T.len aT (aa (pv 0) ag)))
   (ah (bU PassesOwn.never rfl (de (pv 2)) (aJ (i:=4) bP.nd rfl (by first | exact Or.inl rfl | exact Or.inr rfl))
   (ah (aC (i:=5) bP.nd rfl (by first | exact Or.inl rfl | exact Or.inr rfl) (aX aH (pv 0) (aX aH (pv 1) (pv 4) (fun _ _=>rfl)) (fun _ _=>rfl)))
   (aq (bo (cw PySem.F.plainAttrs_list PySem.F.slot_list_insert PySem.F.type_list_insert d6 (pv 5) (aa (cw PySem.F.plainAttrs_list PySem.F.slot_list_index PySem.F.type_list_index gD (pv 5) (aa (aX aH (pv 1) (aE lM (pv 4) ao) (fun _ _=>rfl)) ag)) (aa (pv 3) ag)))))))
   (aq (bo (cw PySem.F.plainAttrs_list PySem.F.slot_list_append PySem.F.type_list_append cG (pv 0) (aa (fv (tg:=["_law_at"]) (fr:=[("_law_ring",1)]) (by walk_at "blk_ok") rfl (de (pv 2)) (fun _ _ _ _ _=>(aJ (i:=0) (show [("_law_at" : Str),("_law_ring" : Str)].Nodup by decide +kernel) rfl (by first | exact Or.inl rfl | exact Or.inr rfl))) (fun _ _ _ _ _=>eR) (fun _ _ _ _ _=>(aX (tj (K:=K) rfl) (pv 1) (pv 0) (fun _ _=>rfl)))) ag)))))),?_⟩
  dsimp only [d9]
  walk_at "rd"
  refine ⟨_,_,rfl,.inl ⟨_,aG.of g.top,rfl⟩,?_⟩
  rw [List.length_map,g.len]
  walk_at "rd"
  refine cD ?_
  refine ⟨_,rfl,rc,rfl,⟨_,aG.of ze⟩,fb (K:=K) (a:=rc) (xs:=(cs.map fun c:Nat=>(c:Int)).map V.int) (fun k σ H1=>∃ (G:List (List Int)) (v4 v5:Option V),σ = [some (.ref p),some (.ref ra),some (.ref rc),some (.int (L.length:Int)),v4,v5]∧(∀ b o,b∉as→H b = some o→H1 b = some o)∧aU H1 p as G∧((k = 0∧G = L)∨(∃ M cj,Pl L r c1 cj (cs.take k) M∧rB L r c1 cj M∧G = M.take L.length∧0 < k∧cs[k - 1]? = some cj)))
   ⟨L,none,none,rfl,fun _ _ _ e=>e,g,.inl ⟨rfl,rfl⟩⟩ (fun k σ H1 _ ⟨_,_,_,_,o,_⟩=>aG.of (o _ _ HJ ze)) ?_ ?_⟩
  ·rintro k x σ H1 hx ⟨G,v4,v5,rfl,o1,g1,st⟩
   obtain ⟨c,hc,rfl⟩:∃ c:Nat,cs[k]? = some c∧x = V.int (c:Int):=by
    rw [List.getElem?_map,List.getElem?_map] at hx
    cases e:cs[k]? with
    | none=>rw [e] at hx; cases hx
    | some z=>rw [e] at hx; exact ⟨z,rfl,(Option.some.inj hx).symm⟩
   have AZ:=GA c (List.mem_of_getElem? hc)
   obtain ⟨zm,x0,x1,ed⟩:=cK gd im (c:=c)
   have qJ:=o1 _ _ Cf vh
   have un:∀ e∈cs.take k,cy r e≠cy r c:=fun e he z=>by
    have:=gC (A:=[]) (B:=cs.map (cy r)) (j:=k) (x:=cy r c) (by simpa using CM) (by rw [List.getElem?_map,hc]; rfl)
    refine this ?_
    rw [List.nil_append,← List.map_take,← z]
    exact List.mem_map.mpr ⟨e,he,rfl⟩
   have step:G[(cy r c).toNat]? = some (rowOf L (cy r c))∧∃ M,Pl L r c1 c (cs.take (k + 1)) M∧rB L r c1 c M∧G.set (cy r c).toNat (put (rowOf L (cy r c)) ((rowOf L (cy r c)).idxOf (cy r (c + (r.length - 1)))) L.length) = M.take L.length:=by
    rcases st with ⟨rfl,rfl⟩ | ⟨M,cj,pl,ps,rfl,k0,FO⟩
    ·obtain ⟨F,pl⟩:=Pl.first jD gd An AZ
     have ps:=rB.first jD sm gd An AZ F pl
     have ec:c1 = c:=by rw [zj] at hc; simpa using hc
     have e1:cs.take (0 + 1) = [c]:=by rw [zj,ec]; rfl
     rw [e1,ec]
     refine ⟨aD x0 x1,_,pl,ps,?_⟩
     rw [jX (by rw [eV]) (by omega)]
     unfold cI
     rw [List.take_left]
    ·have lt:cj < c:=by
      obtain ⟨q1,w1⟩:=List.getElem?_eq_some_iff.mp FO
      obtain ⟨q2,w2⟩:=List.getElem?_eq_some_iff.mp hc
      have:=List.pairwise_iff_getElem.mp yM (k - 1) k q1 q2 (by omega)
      rw [w1,w2] at this
      exact this
     obtain ⟨F,KP⟩:=pl.next jD gd An lt AZ un
     have Ky:=rB.next jD gd nr An pl ps lt AZ F un
     rw [take_snoc hc]
     refine ⟨?_,_,KP,Ky,?_⟩
     ·rw [List.getElem?_take,if_pos (by omega),← pl.keep _ x0 x1 un]
      exact aD x0 (by rw [pl.len]; omega)
     ·rw [jX pl.len (by omega)]
   obtain ⟨gx,M,KO,Kx,eM⟩:=step
   obtain ⟨ca,la,ha,wM,fL⟩:=g1.at (i:=(cy r c).toNat) (List.getElem?_eq_some_iff.mp gx).1
   rw [gx] at wM
   cases wM
   have ia:jz (as.map V.ref) (cy r c) = some (V.ref ca):=by
    have:=g1.ix ha
    rwa [Int.toNat_of_nonneg x0] at this
   have FA:=aD x0 x1
   have sa:(rowOf L (cy r c)).length≤L.length:=cx (im.nd _ _ FA) fun y hy=>⟨(im.rg _ _ FA y hy).1,(im.rg _ _ FA y hy).2.1⟩
   have ii:=List.idxOf_lt_length_of_mem zm
   walk_at "rd"
   refine aZ (aG.of qJ) (fg (j:=c) (by omega) (by omega) (.inl rfl)) ?_
   refine aZ (aG.of g1.top) ia ?_
   walk_at "rd"
   refine ⟨.inl ⟨rfl,_,aG.of fL⟩,?_⟩
   walk_at "rd"
   refine ⟨.inl ⟨rfl,_,aG.of fL⟩,?_⟩
   walk_at "rd"
   refine aZ (aG.of qJ) (fg (j:=c + (r.length - 1)) (by omega) (by omega) (.inr (by omega))) ?_
   walk_at "rd"
   refine ⟨ca,_,_,rfl,rfl,fL,zm,?_⟩
   walk_at "rd"
   refine eN (k:=(rowOf L (cy r c)).idxOf (cy r (c + (r.length - 1)))) rfl fL (by rw [List.length_map]; omega) (by rw [List.length_map]; exact az (by omega)) ?_
   rw [map_put]
   have GC:=List.mem_of_getElem? ha
   have g2:=g1.set nd (l':=put (rowOf L (cy r c)) ((rowOf L (cy r c)).idxOf (cy r (c + (r.length - 1)))) L.length) ha
   rw [eM] at g2
   refine ⟨_,_,_,rfl,fun b o rp e=>?_,g2,.inr ⟨M,c,KO,Kx,rfl,by omega,by rw [Nat.add_sub_cancel]; exact hc⟩⟩
   rw [iq GC rp]
   exact o1 b o rp e
  ·rintro σ H1 ⟨G,v4,v5,rfl,o1,g1,st⟩
   rw [List.length_map,List.length_map,List.take_length] at st
   rcases st with ⟨z,_⟩ | ⟨M,cj,pl,ps,rfl,k0,FO⟩
   ·exact absurd (List.length_eq_zero_iff.mp z) c0
   have qJ:=o1 _ _ Cf vh
   have AG:=o1 _ _ HJ ze
   walk_at "rd"
   refine ⟨.inl ⟨rfl,_,aG.of g1.top⟩,?_⟩
   walk_at "rd"
   refine dO ?_
   refine ⟨_,rfl,rc,rfl,⟨_,aG.of AG⟩,fun acc bO=>?_⟩
   refine fG (K:=K) (a:=rc) (xs:=(cs.map fun c:Nat=>(c:Int)).map V.int) (fun i σ' ys H2=>∃ v:Option V,σ' = [v,some (.ref ra)]∧ak H1 H2∧H2 acc = some (.lst ys)∧ys = ((cs.take i).map (cy r)).map V.int)
    ⟨none,rfl,ak.upd bO,af,rfl⟩ (fun i σ' ys H2 _ ⟨_,_,e,_⟩=>aG.of (e _ _ AG)) ?_ ?_
   ·rintro i x σ' ys H2 hx hi ⟨v,rfl,e2,a2,rfl⟩
    obtain ⟨c,hc,rfl⟩:∃ c:Nat,cs[i]? = some c∧x = V.int (c:Int):=by
     rw [List.getElem?_map,List.getElem?_map] at hx
     cases e:cs[i]? with
     | none=>rw [e] at hx; cases hx
     | some z=>rw [e] at hx; exact ⟨z,rfl,(Option.some.inj hx).symm⟩
    have AZ:=GA c (List.mem_of_getElem? hc)
    walk_at "rd"
    refine aZ (aG.of (e2 _ _ qJ)) (fg (j:=c) (by omega) (by omega) (.inl rfl)) ?_
    refine ⟨a2,by rw [List.length_map,List.length_map,List.length_take]; exact az (by omega),cW hi ⟨_,rfl,ak.fresh e2 bO,af,?_⟩⟩
    rw [take_snoc hc,List.map_append,List.map_append]
    rfl
   ·rintro σ' ys H2 ⟨v,rfl,e2,a2,rfl⟩
    rw [List.length_map,List.length_map,List.take_length] at a2
    have g2:=g1.same e2
    have x8:=g1.hV bO
    have Jb:acc≠p:=fun z=>x8 (z▸List.mem_cons_self)
    walk_at "rd"
    refine dY g2.top (by rw [List.length_map,g.len]; exact az (by omega)) ?_
    have g3:=g2.snoc (List.nodup_cons.mp nd).1 Jb a2
    rw [← pl.new,qt pl.len] at g3
    have GR:H acc = none:=by
     cases e:H acc with
     | none=>rfl
     | some o=>
      have:=o1 acc o (fun z=>x8 (List.mem_cons_of_mem _ z)) e
      rw [bO] at this
      cases this
    have Lx:c1 < cj:=by
     obtain ⟨q2,w2⟩:=List.getElem?_eq_some_iff.mp FO
     have:=List.pairwise_iff_getElem.mp yM 0 (cs.length - 1) (by omega) q2 (by omega)
     have e0:cs[0] = c1:=by simp [zj]
     rw [w2,e0] at this
     exact this
    refine q _ M acc (fun b o hb e=>?_) GR g3 ?_ pl.sh (rB.done gd nr pl ps Lx) pl.len
    ·rw [iq (as:=p :: as) List.mem_cons_self hb]
     exact e2 _ _ (o1 b o (fun z=>hb (List.mem_cons_of_mem _ z)) e)
    ·obtain ⟨n1,n2⟩:=List.nodup_cons.mp nd
     refine List.nodup_cons.mpr ⟨fun z=>?_,gj.mpr ⟨fun z=>x8 (List.mem_cons_of_mem _ z),n2⟩⟩
     rcases List.mem_append.mp z with z | z
     ·exact n1 z
     ·exact Jb (List.mem_singleton.mp z).symm
theorem bq:aR ["_law_script", "_law_start", "_law_steps", "_law_orders", "_law_k", "_law_number", "_law_rings_here", "_law_ring", "_law_corners"] ["_law_script", "_law_start", "_law_steps"] (aw bz):=⟨rfl,rfl,rfl,by decide +kernel,rfl,by decide +kernel,by decide +kernel⟩
theorem jJ (D:Def K mg "_law_tight" bz ["_law_script", "_law_start", "_law_steps"]) (T:Txt K mg Z) (bX:dR P w K mg base (cV P w) "_law_mixed" 2 ["_law_script", "_law_k"] (dW K)) (mf:dR P w K mg base (cV P w) "_law_rings" 1 ["_law_orders"] mG)
  (jq:dR P w K mg base (cV P w) "_law_put_tie" 1 ["_law_orders", "_law_ring", "_law_one", "_law_other"] j5) (gY:dR P w K mg base (cV P w) "_law_put_place" 1 ["_law_orders", "_law_ring", "_law_corners"] hU):dR P w K mg base (cV P w) "_law_tight" 3 ["_law_script", "_law_start", "_law_steps"] (mD K):=by
 refine D.eD bq (fun vs H Q E h=>?_) (fun f dq A outer s H vs Q E hr h=>?_)
 ·obtain ⟨a,ns,st,n,rfl,_⟩:=h; rfl
 ·obtain ⟨a,ns,st,n,rfl,hS,OG,OF,hn,q⟩:=h
  refine ⟨_,(@ah _ _ _ _ _ (@aC _ _ 3 _ _ _ _ bq.nd rfl (by first | exact Or.inl rfl | exact Or.inr rfl) (@ER _ _ _ _ _ _ _ _ _ _ (bN (aa ao (aa ao (aa ao ag)))) (bN (aa ao (aa ao (aa ao ag)))) (bN (aa ao (aa ao (aa ao ag)))) (bN (aa ao (aa ao (aa ao ag)))) rfl rfl rfl rfl) rfl (by first | exact .inl rfl | exact .inr rfl))
   (ah (bU PassesOwn.never rfl (bj rfl T.range (aa (pv 2) ag)) (aJ (i:=4) bq.nd rfl (by first | exact Or.inl rfl | exact Or.inr rfl))
   (ah (aC (i:=5) bq.nd rfl (by first | exact Or.inl rfl | exact Or.inr rfl) (aK bX hr bQ (aa (pv 0) (aa (aE ck (pv 1) (pv 4)) ag))))
   (ah (aC (i:=6) bq.nd rfl (by first | exact Or.inl rfl | exact Or.inr rfl) (aK mf hr bQ (aa (pv 3) ag)))
   (ah (aC (i:=7) bq.nd rfl (by first | exact Or.inl rfl | exact Or.inr rfl) (aX aH (pv 6) (aE bH (pv 5) (aB aF (by rfl) T.len aT (aa (pv 6) ag))) (fun _ _=>rfl)))
   (aq (bY (aN ki (aE bH (aE cE (pv 5) ao) ao) ao (bg _)) (aq (bo (aK jq hr bQ (aa (pv 3) (aa (pv 7) (aa (aE bH (aE cE (pv 5) ao) (aB aF (by rfl) T.len aT (aa (pv 7) ag))) (aa (aE bH (aE cE (pv 5) ao) (aB aF (by rfl) T.len aT (aa (pv 7) ag))) ag))))))) (ah (iB (i:=8) bq.nd rfl (by first | exact Or.inl rfl | exact Or.inr rfl) (tg:=["_law_at"]) (fr:=[("_law_number",5)]) (by walk_at "blk_ok") rfl (bj rfl T.range (aa (aB aF (by rfl) T.len aT (aa (pv 7) ag)) ag)) (fun _ _ _ _ _=>(aJ (i:=0) (show [("_law_at" : Str),("_law_number" : Str)].Nodup by decide +kernel) rfl (by first | exact Or.inl rfl | exact Or.inr rfl))) (fun _ _ _ _ _=>(eQ (aN kc (aE bH (aE ck (aE cE (pv 1) ao) (aE fB (pv 0) (aE cE (pv 1) ao))) ao) ao (bg _)))) (fun _ _ _ _ _=>(pv 0)))
   (ah (bY (aN kg (aB aF (by rfl) T.len aT (aa (pv 8) ag)) ao (bg _)) (aq (aC (i:=8) bq.nd rfl (by first | exact Or.inl rfl | exact Or.inr rfl) (lJ rfl T.range T.list (aB aF (by rfl) T.len aT (aa (pv 7) ag))))) bh)
   (aq (bo (aK gY hr bQ (aa (pv 3) (aa (pv 7) (aa (pv 8) ag))))))))))))))
   (aq (bw (pv 3))))),?_⟩
  dsimp only [d9]
  walk_at "rd"
  refine fun b1 Iw=>?_
  have e1:ak H (upd H b1 (.lst [.int 1,.int 3,.int 2])):=ak.upd Iw
  have r1:upd H b1 (.lst [.int 1,.int 3,.int 2]) b1 = some (.lst (([1,3,2]:List Int).map V.int)):=af
  generalize upd H b1 (.lst [.int 1,.int 3,.int 2]) = H1 at e1 r1 ⊢
  walk_at "rd"
  refine fun b2 FP=>?_
  have e2:ak H1 (upd H1 b2 (.lst [.int 2,.int 3,.int 0])):=ak.upd FP
  have r2:upd H1 b2 (.lst [.int 2,.int 3,.int 0]) b2 = some (.lst (([2,3,0]:List Int).map V.int)):=af
  generalize upd H1 b2 (.lst [.int 2,.int 3,.int 0]) = H2 at e2 r2 ⊢
  walk_at "rd"
  refine fun b3 Cw=>?_
  have e3:ak H2 (upd H2 b3 (.lst [.int 0,.int 3,.int 1])):=ak.upd Cw
  have r3:upd H2 b3 (.lst [.int 0,.int 3,.int 1]) b3 = some (.lst (([0,3,1]:List Int).map V.int)):=af
  generalize upd H2 b3 (.lst [.int 0,.int 3,.int 1]) = H3 at e3 r3 ⊢
  walk_at "rd"
  refine fun b4 A8=>?_
  have e4:ak H3 (upd H3 b4 (.lst [.int 2,.int 0,.int 1])):=ak.upd A8
  have r4:upd H3 b4 (.lst [.int 2,.int 0,.int 1]) b4 = some (.lst (([2,0,1]:List Int).map V.int)):=af
  generalize upd H3 b4 (.lst [.int 2,.int 0,.int 1]) = H4 at e4 r4 ⊢
  walk_at "rd"
  refine ⟨by rw [PySem.sizeLine_eq]; simp,fun p hp=>?_⟩
  have e5:ak H4 (upd H4 p (.lst [.ref b1,.ref b2,.ref b3,.ref b4])):=ak.upd hp
  have p5:upd H4 p (.lst [.ref b1,.ref b2,.ref b3,.ref b4]) p = some (.lst [.ref b1,.ref b2,.ref b3,.ref b4]):=af
  generalize upd H4 p (.lst [.ref b1,.ref b2,.ref b3,.ref b4]) = H5 at e5 p5 ⊢
  have Ck:b1≠b2:=ay r1 FP
  have Ls:b1≠b3:=ay (e2 _ _ r1) Cw
  have Lr:b1≠b4:=ay (e3 _ _ (e2 _ _ r1)) A8
  have Lq:b2≠b3:=ay r2 Cw
  have Lo:b2≠b4:=ay (e3 _ _ r2) A8
  have Ln:b3≠b4:=ay r3 A8
  have s1:=e5 _ _ (e4 _ _ (e3 _ _ (e2 _ _ r1)))
  have s2:=e5 _ _ (e4 _ _ (e3 _ _ r2))
  have s3:=e5 _ _ (e4 _ _ r3)
  have s4:=e5 _ _ r4
  have p1:p≠b1:=fun z=>by rw [z] at hp; rw [(e4 _ _ (e3 _ _ (e2 _ _ r1)))] at hp; cases hp
  have p2:p≠b2:=fun z=>by rw [z] at hp; rw [(e4 _ _ (e3 _ _ r2))] at hp; cases hp
  have p3:p≠b3:=fun z=>by rw [z] at hp; rw [(e4 _ _ r3)] at hp; cases hp
  have p4:p≠b4:=fun z=>by rw [z] at hp; rw [r4] at hp; cases hp
  have F4:=((e1.trans e2).trans e3).trans e4
  have e0:=F4.trans e5
  have g0:aU H5 p [b1,b2,b3,b4] tetra:=by
   refine ⟨p5,rfl,fun i c l h1 h2=>?_⟩
   have hi:i = 0∨i = 1∨i = 2∨i = 3:=by
    have:=(List.getElem?_eq_some_iff.mp h1).1
    simp at this
    omega
   unfold tetra at h2
   rcases hi with rfl | rfl | rfl | rfl
   ·simp at h1 h2
    subst h1 h2
    exact s1
   ·simp at h1 h2
    subst h1 h2
    exact s2
   ·simp at h1 h2
    subst h1 h2
    exact s3
   ·simp at h1 h2
    subst h1 h2
    exact s4
  have HN:(p :: [b1,b2,b3,b4]).Nodup:=by simp [p1,p2,p3,p4,Ck,Ls,Lr,Lq,Lo,Ln]
  have IE:∀ b∈p :: [b1,b2,b3,b4],H b = none:=by
   intro b hb
   simp at hb
   rcases hb with rfl | rfl | rfl | rfl | rfl
   ·exact F4.free hp
   ·exact Iw
   ·exact e1.free FP
   ·exact (e1.trans e2).free Cw
   ·exact ((e1.trans e2).trans e3).free A8
  clear s1 s2 s3 s4 r1 r2 r3 r4 e1 e2 e3 e4 e5 F4
  walk_at "rd"
  refine cD ?_
  refine ⟨_,rfl,(n:Int),rfl,by omega,by omega,?_⟩
  rw [Int.toNat_natCast]
  refine bI (fun k σ H1=>∃ (as:List Addr) (L:List (List Int)) (v4 v5 v6 v7 v8:Option V),σ = [some (.ref a),some (.int st),some (.int (n:Int)),some (.ref p),v4,v5,v6,v7,v8]∧ak H H1∧aU H1 p as L∧(p :: as).Nodup∧(∀ b∈p :: as,H b = none)∧bV L∧qh L∧4≤L.length∧L.length≤4 + k)
   ⟨[b1,b2,b3,b4],tetra,none,none,none,none,none,rfl,e0,g0,HN,IE,tetra_sheet,tetra_smp,by decide,by decide⟩ ?_ ?_
  ·clear e0 g0 HN IE
   rintro k σ H1 hk ⟨as,L,v4,v5,v6,v7,v8,rfl,e1,g1,qE,jP,jD,zQ,l4,hlen⟩
   simp only [Int.zero_add]
   have im:=jD.map
   have oA:=jD.oA (by omega)
   walk_at "rd"
   refine ⟨a,ns,st + k,rfl,e1.seq hS,by omega,by omega,fun num n0 n1=>?_⟩
   walk_at "rd"
   refine ⟨p,as,L,rfl,g1,im,by omega,by omega,fun t bs R H2 e2 t2 ON MW dec=>?_⟩
   have R0:=jD.pos dec
   have g2:=g1.same e2
   walk_at "rd"
   refine ⟨_,_,rfl,.inl ⟨_,aG.of t2.top,rfl⟩,?_⟩
   rw [List.length_map,t2.len,List.length_map]
   have hp:(0:Int) < (R.length:Int):=by omega
   walk_at "rd"
   have m0:=Int.emod_nonneg num (show (R.length:Int)≠0 by omega)
   have m1:=Int.emod_lt_of_pos num hp
   obtain ⟨mi,Mq⟩:=Int.eq_ofNat_of_zero_le m0
   rw [Mq] at m1 ⊢
   obtain ⟨rc,rl,ze,yo,jm⟩:=t2.at (i:=mi) (by rw [List.length_map]; omega)
   rw [List.getElem?_map] at yo
   obtain ⟨c,MG,rfl⟩:∃ c,R[mi]? = some c∧c.map (·.1) = rl:=by
    cases e:R[mi]? with
    | none=>rw [e] at yo; cases yo
    | some z=>rw [e] at yo; exact ⟨z,rfl,Option.some.inj yo⟩
   have FL:=List.mem_of_getElem? MG
   have three:3≤(c.map (·.1)).length:=by rw [List.length_map]; exact jD.three (by omega) dec FL
   obtain ⟨gd,JV,CM⟩:=dec.good im FL
   have DC:(sh 0 (c.map (·.1))).Nodup:=by rw [JV]; exact CM
   have Bt:(c.map (·.1)).length≤(dE L L.length).length:=by
    rw [List.length_map]
    exact eB CM fun d hd=>((dec.mem d).mp (List.mem_flatten.mpr ⟨c,FL,hd⟩)).all
   have Kd:=List.mem_of_getElem? ze
   have zY:=g1.hV (MW rc (List.mem_cons_of_mem _ Kd))
   have zZ:rc∉as:=fun z=>zY (List.mem_cons_of_mem _ z)
   have Kc:rc≠p:=fun z=>zY (by rw [z]; exact List.mem_cons_self)
   generalize c.map (·.1) = r at gd DC Bt jm three
   have zV:(0:Int) < (r.length:Int):=by omega
   refine aZ (aG.of t2.top) (t2.ix ze) ?_
   walk_at "rd"
   refine if2 (fun Ir=>?_) (fun Mi=>?_)
   ·walk_at "rd"
    refine ⟨_,_,rfl,.inl ⟨_,aG.of jm,rfl⟩,?_⟩
    rw [List.length_map]
    walk_at "rd"
    refine ⟨_,_,rfl,.inl ⟨_,aG.of jm,rfl⟩,?_⟩
    rw [List.length_map]
    walk_at "rd"
    have i0:=Int.emod_nonneg (num / 192) (show (r.length:Int)≠0 by omega)
    have i1:=Int.emod_lt_of_pos (num / 192) zV
    have j0:=Int.emod_nonneg (num / 4096) (show (r.length:Int)≠0 by omega)
    have j1:=Int.emod_lt_of_pos (num / 4096) zV
    obtain ⟨i,hi⟩:=Int.eq_ofNat_of_zero_le i0
    obtain ⟨j,hj⟩:=Int.eq_ofNat_of_zero_le j0
    rw [hi,hj]
    refine ⟨p,rc,as,L,r,i,j,rfl,g2,qE,jm,zZ,jD,zQ,gd,DC,by omega,by omega,by omega,fun H3 L3 off g3 JX JK l3=>?_⟩
    exact ⟨as,L3,_,_,_,_,_,rfl,ak.off (e1.trans e2) (fun b hb=>jP b (List.mem_cons_of_mem _ hb)) off,g3,qE,jP,JX,JK,by omega,by omega⟩
   ·walk_at "rd"
    refine dO ?_
    refine ⟨_,rfl,_,_,rfl,.inl ⟨_,aG.of jm,rfl⟩,(r.length:Int),by rw [List.length_map],by omega,by omega,?_⟩
    rw [Int.toNat_natCast]
    intro qa Ct
    refine cL (fun i σ' ys H4=>∃ (cs:List Nat) (v:Option V),σ' = [v,some (.int num)]∧ys = (cs.map fun c:Nat=>(c:Int)).map V.int∧ak H2 H4∧H4 qa = some (.lst ys)∧cs.Pairwise (· < ·)∧(∀ c∈cs,c < i)∧cs.length≤i)
     ⟨[],none,rfl,rfl,ak.upd Ct,af,.nil,by simp,Nat.le_refl _⟩ ?_ ?_
    ·rintro i σ' ys H4 hi ⟨cs,v,rfl,rfl,e4,q4,c1,c2,c4⟩
     simp only [Int.zero_add]
     walk_at "rd"
     refine rW (Sz.Aq (m:=20) (n:=40) (by unfold Sz; omega) (by unfold Sz; omega)) ?_
     walk_at "rd"
     refine d8 (fun h3=>?_) (fun h3=>?_)
     ·walk_at "rd"
      refine ⟨q4,by rw [List.length_map,List.length_map]; exact az (by omega),cW hi ⟨cs ++ [i],_,rfl,by simp,ak.fresh e4 Ct,af,?_,fun c hc=>?_,by rw [List.length_append,List.length_singleton]; omega⟩⟩
      ·rw [List.pairwise_append]
       refine ⟨c1,by simp,fun x hx y hy=>?_⟩
       rw [List.mem_singleton.mp hy]
       exact c2 x hx
      ·rcases List.mem_append.mp hc with z | z
       ·have:=c2 c z; omega
       ·rw [List.mem_singleton.mp z]; omega
     ·exact cW hi ⟨cs,_,rfl,rfl,e4,q4,c1,fun c hc=>by have:=c2 c hc; omega,by omega⟩
    ·rintro σ' ys H4 ⟨cs,v,rfl,rfl,e4,q4,c1,c2,c4⟩
     have Ad:=g2.hV Ct
     refine r_gname ?_
     try dsimp only
     refine lA (fun σ' H5=>∃ (q2:Addr) (cs:List Nat),σ' = [some (.ref a),some (.int st),some (.int (n:Int)),some (.ref p),some (.int (k:Int)),some (.int num),some (.ref t),some (.ref rc),some (.ref q2)]∧ak H2 H5∧q2∉p :: as∧H5 q2 = some (.lst ((cs.map fun c:Nat=>(c:Int)).map V.int))∧cs.Pairwise (· < ·)∧(∀ c∈cs,c < r.length)∧cs.length≤r.length∧2≤cs.length) ?_ ?_
     ·clear q4 c1 c2 c4 e4 Ad Ct
      rintro σ' H5 ⟨q2,cs,rfl,e6,wo,q5,c1,c2,c4,c5⟩
      walk_at "rd"
      refine ⟨p,rc,q2,as,L,r,cs,rfl,g2.same e6,qE,e6 _ _ jm,zZ,q5,fun w=>wo (List.mem_cons_of_mem _ w),Kc,fun w=>wo (by rw [w]; exact List.mem_cons_self),jD,zQ,gd,DC,c5,c1,c2,by omega,by omega,fun H7 L7 nw off Lg g7 EM JW JJ l7=>?_⟩
      have IK:=(e1.trans e2).trans e6
      refine ⟨_,L7,_,_,_,_,_,rfl,ak.off IK jP off,g7,EM,fun b hb=>?_,JW,JJ,by omega,by omega⟩
      rcases List.mem_cons.mp hb with w | w
      ·rw [w]; exact jP p List.mem_cons_self
      ·rcases List.mem_append.mp w with w | w
       ·exact jP b (List.mem_cons_of_mem _ w)
       ·rw [List.mem_singleton.mp w]; exact IK.free Lg
     ·intro T1 hT
      walk_at "rd"
      refine ⟨_,_,rfl,.inl ⟨_,aG.of q4,rfl⟩,?_⟩
      rw [List.length_map,List.length_map]
      walk_at "rd"
      refine if2 (fun dD=>?_) (fun O3=>?_)
      ·walk_at "rd"
       refine qA ?_
       walk_at "rd"
       refine ⟨_,_,rfl,.inl ⟨_,aG.of (e4 _ _ jm),rfl⟩,r.length,by rw [List.length_map],by omega,fun q2 wI=>?_⟩
       have e5:ak H4 (upd H4 q2 (.lst ((cg r.length).map V.int))):=ak.upd wI
       have q5:upd H4 q2 (.lst ((cg r.length).map V.int)) q2 = some (.lst (((List.range r.length).map fun c:Nat=>(c:Int)).map V.int)):=af
       generalize upd H4 q2 (.lst ((cg r.length).map V.int)) = H5 at e5 q5 ⊢
       walk_at "rd"
       exact hT _ _ ⟨q2,List.range r.length,rfl,e4.trans e5,(g2.same e4).hV wI,q5,List.pairwise_lt_range,fun c hc=>List.mem_range.mp hc,by simp,by simp; omega⟩
      ·exact hT _ _ ⟨qa,cs,rfl,e4,Ad,q4,c1,c2,c4,by omega⟩
  ·rintro σ H1 ⟨as,L,v4,v5,v6,v7,v8,rfl,e1,g1,qE,jP,jD,zQ,l4,hlen⟩
   walk_at "rd"
   exact q p as L H1 e1 g1 (jP p List.mem_cons_self) jD zQ l4 hlen
theorem cQ:aR ["_law_script", "_law_orders", "_law_gone", "_law_all_three", "_law_fewest", "_law_one", "_law_other", "_law_word", "_law_paper"] ["_law_script"] (aw gm):=⟨rfl,rfl,rfl,by decide +kernel,rfl,by decide +kernel,by decide +kernel⟩
theorem xW {fa:Addr} {fd:FuncData} (F:y3 K "law" "law" gm fa fd) (T:Txt K mg Z)
  (qN:dR P w K mg base (cV P w) "parting" 3 ["orders"] iP) (vo:dR P w K mg base (cV P w) "roads" 3 ["orders", "one", "other"] mF) (eZ:dR P w K mg base (cV P w) "_law_cell_at" 1 ["_law_script", "_law_k"] (oR K)) (bX:dR P w K mg base (cV P w) "_law_mixed" 2 ["_law_script", "_law_k"] (dW K)) (oy:dR P w K mg base (cV P w) "_law_any" 3 ["_law_script", "_law_start", "_law_many"] (rQ K)) (me:dR P w K mg base (cV P w) "_law_tight" 3 ["_law_script", "_law_start", "_law_steps"] (mD K)):jT P w K mg base (cV P w) 10 fa fd ["_law_script"] (kU K):=by
 refine F.okN cQ (fun vs H Q E h=>?_) (fun dq A outer s H vs Q E hr h=>?_)
 ·obtain ⟨a,ns,rfl,_⟩:=h; rfl
 ·obtain ⟨a,ns,rfl,hS,hlen,kq⟩:=h
  refine ⟨_,(ah (bY (aN ki (aE bH (aK eZ hr bQ (aa (pv 0) (aa ao ag))) ao) ao (bg _)) (aq (aC (i:=1) cQ.nd rfl (by first | exact Or.inl rfl | exact Or.inr rfl) (aK oy hr bQ (aa (pv 0) (aa ao (aa (aE ck ao (aE bH (aE cE (aK eZ hr bQ (aa (pv 0) (aa ao ag))) ao) ao)) ag)))))) (aq (aC (i:=1) cQ.nd rfl (by first | exact Or.inl rfl | exact Or.inr rfl) (aK me hr bQ (aa (pv 0) (aa ao (aa (aE bH (aK bX hr bQ (aa (pv 0) (aa ao ag))) ao) ag)))))))
   (ah (aC (i:=2) cQ.nd rfl (by first | exact Or.inl rfl | exact Or.inr rfl) (aK qN hr bQ (aa (pv 1) ag)))
   (ah (aC (i:=3) cQ.nd rfl (by first | exact Or.inl rfl | exact Or.inr rfl) gz)
   (ah (aC (i:=4) cQ.nd rfl (by first | exact Or.inl rfl | exact Or.inr rfl) ao)
   (ah (bU PassesOwn.never rfl (bj rfl T.range (aa (aB aF (by rfl) T.len aT (aa (pv 1) ag)) ag)) (aJ (i:=5) cQ.nd rfl (by first | exact Or.inl rfl | exact Or.inr rfl))
   (aq (bU PassesOwn.never rfl (bj rfl T.range (aa (aB aF (by rfl) T.len aT (aa (pv 1) ag)) ag)) (aJ (i:=6) cQ.nd rfl (by first | exact Or.inl rfl | exact Or.inr rfl))
   (aq (bY (aN kc (pv 5) (pv 6) (bg _)) (ah (xM (aK vo hr bQ (aa (pv 1) (aa (pv 5) (aa (pv 6) ag)))) (sv (n:=2) rfl (gu (aJ (i:=7) cQ.nd rfl (by first | exact Or.inl rfl | exact Or.inr rfl)) (gu (aJ (i:=8) cQ.nd rfl (by first | exact Or.inl rfl | exact Or.inr rfl)) pL))))
   (aq (bY (aN kc (pv 7) oe (bg _)) (ah (aC (i:=3) cQ.nd rfl (by first | exact Or.inl rfl | exact Or.inr rfl) gz)
   (aq (bY (aN df (pv 6) (aX aH (pv 1) (pv 5) (fun _ _=>rfl)) (by with_unfolding_all rfl)) (aq (aC (i:=4) cQ.nd rfl (by first | exact Or.inl rfl | exact Or.inr rfl) (aB (hE rfl) (by rfl) T.min oE (aa (pv 4) (aa (aB aF (by rfl) T.len aT (aa (pv 8) ag)) ag))))) bh))) bh))) bh)))))
   (ah (bY (dP (xS (pv 2))) (aq (bw (fz ki (pv 3) (fz kh (aB aF (by rfl) T.len aT (aa (pv 1) ag)) ao (bg _)) (bg _)))) bh)
   (aq (bw (og (xQ (pv 3)) (og (fz Af (aB aF (by rfl) T.len aT (aa (pv 2) ag)) (pv 4) (bg _)) (sA (fz kg (pv 4) ao (bg _))))))))))))),?_⟩
  dsimp only [d9]
  refine lA (fun σ' H'=>∃ (p:Addr) (as:List Addr) (L:List (List Int)),σ' = [some (.ref a),some (.ref p),none,none,none,none,none,none,none]∧aU H' p as L∧aA L∧2≤L.length∧L.length≤20) ?_ ?_
  ·rintro σ' H1 ⟨p,as,L,rfl,g1,im,n2,OQ⟩
   refine lA (fun σ' H'=>∃ gv:V,σ' = [some (.ref a),some (.ref p),some gv,none,none,none,none,none,none]∧ak H1 H'∧(((aS L.length L.length).find? (iZ L) = none∧gv = .bK)∨∃ (S:List Int) (x:Addr),(aS L.length L.length).find? (iZ L) = some S∧gv = .ref x∧H' x = some (.lst (S.map V.int)))) ?_ ?_
   ·rintro σ' H2 ⟨gv,rfl,e2,gone⟩
    have g2:=g1.same e2
    walk_at "rd"
    refine cD ?_
    refine ⟨_,rfl,_,_,rfl,.inl ⟨_,aG.of g2.top,rfl⟩,(L.length:Int),by rw [List.length_map,g2.len],by omega,by omega,?_⟩
    rw [Int.toNat_natCast]
    refine bI (fun i σ H3=>∃ (al:Bool) (fw:Nat) (v5 v6 v7 v8:Option V),σ = [some (.ref a),some (.ref p),some gv,some (.bl al),some (.int (fw:Int)),v5,v6,v7,v8]∧ak H2 H3∧J L al fw (fun x y=>x < L.length∧y < L.length∧x≠y∧x < i))
     ⟨true,3,none,none,none,none,rfl,fun b o h=>h,J.start fun x y z=>by omega⟩ ?_ ?_
    ·rintro i σ H3 hi ⟨al,fw,v5,v6,v7,v8,rfl,e3,j3⟩
     simp only [Int.zero_add]
     obtain ⟨ra,l,FQ,hl,eY⟩:=g2.at (i:=i) hi
     walk_at "rd"
     refine cD ?_
     refine ⟨_,rfl,_,_,rfl,.inl ⟨_,aG.of (e3 _ _ g2.top),rfl⟩,(L.length:Int),by rw [List.length_map,g2.len],by omega,by omega,?_⟩
     rw [Int.toNat_natCast]
     refine bI (fun j σ H4=>∃ (al:Bool) (fw:Nat) (v6 v7 v8:Option V),σ = [some (.ref a),some (.ref p),some gv,some (.bl al),some (.int (fw:Int)),some (.int (i:Int)),v6,v7,v8]∧ak H2 H4∧J L al fw (fun x y=>x < L.length∧y < L.length∧x≠y∧(x < i∨(x = i∧y < j))))
      ⟨al,fw,v6,v7,v8,rfl,e3,j3.sub fun x y z=>by omega⟩ ?_ ?_
     ·clear j3 e3
      rintro j σ H4 hj ⟨al,fw,v6,v7,v8,rfl,e4,j4⟩
      simp only [Int.zero_add]
      have EE:∀ x y,(x < L.length∧y < L.length∧x≠y∧(x < i∨(x = i∧y < j + 1)))→(x < L.length∧y < L.length∧x≠y∧(x < i∨(x = i∧y < j)))∨(x = i∧y = j):=fun x y z=>by omega
      have g4:=g2.same e4
      walk_at "rd"
      refine d8 (fun nu=>?_) (fun he=>?_)
      ·have EL:i≠j:=fun z=>nu (by rw [z])
       walk_at "rd"
       refine ⟨p,as,L,i,j,l,rfl,g4,im,by omega,hl,hj,EL,fun x ys t f H5 e5 t5 x5 F5=>?_,fun x S t f k D H5 e5 t5 x5 hk F5 da db tT cl MM=>?_⟩
       ·walk_at "rd"
        refine ⟨rfl,_,rfl,d8 (fun h=>absurd rfl h) (fun _=>?_)⟩
        exact ⟨al,fw,_,_,_,rfl,e4.trans e5,j4.zX ⟨l,f,hl,F5⟩ EE⟩
       ·have pg:=lL im hl hj EL hk F5 da db tT cl MM
        walk_at "rd"
        refine ⟨rfl,_,rfl,d8 (fun _=>?_) (fun h=>by injection h with h; exact absurd h (by decide +kernel))⟩
        walk_at "rd"
        refine aZ (aG.of (e5 _ _ g4.top)) (g4.ix FQ) ?_
        refine rZ (ns:=l) (aG.of (e5 _ _ (e4 _ _ eY))) ?_
        rw [if_pos rfl]
        walk_at "rd"
        refine d8 (fun hn=>?_) (fun AU=>?_)
        ·walk_at "rd"
         refine ⟨_,_,rfl,.inl ⟨_,aG.of x5,rfl⟩,?_⟩
         rw [List.length_map,List.length_map]
         refine ⟨_,_,rfl,?_⟩
         have em:(if (S.length:Int) < (fw:Int) then (S.length:Int) else (fw:Int)) = ((if S.length < fw then S.length else fw:Nat):Int):=by split <;> split <;> omega
         rw [em]
         walk_at "rd"
         exact ⟨false,_,_,_,_,rfl,e4.trans e5,j4.MZ (pg.2 hn).1 (pg.2 hn).2 EE⟩
        ·walk_at "rd"
         exact ⟨false,fw,_,_,_,rfl,e4.trans e5,j4.near hl AU pg.1 EE⟩
      ·walk_at "rd"
       exact ⟨al,fw,_,_,_,rfl,e4,j4.sub fun x y z=>by omega⟩
     ·clear j3 e3
      rintro σ H4 ⟨al,fw,v6,v7,v8,rfl,e4,j4⟩
      exact ⟨al,fw,_,_,_,_,rfl,e4,j4.sub fun x y z=>by omega⟩
    ·rintro σ H3 ⟨al,fw,v5,v6,v7,v8,rfl,e3,j3⟩
     have g3:=g2.same e3
     have all:∀ x y,x < L.length→y < L.length→x≠y→(x < L.length∧y < L.length∧x≠y∧x < L.length):=fun x y h1 h2 h3=>⟨h1,h2,h3,h1⟩
     rcases gone with ⟨fn,rfl⟩ | ⟨S,x,fs,rfl,hx⟩
     ·have:=j3.yU im n2 all fn
      subst this
      walk_at "rd"
      refine if2 (fun _=>?_) (fun h=>absurd rfl h)
      walk_at "rd"
      refine ⟨_,_,rfl,.inl ⟨_,aG.of g3.top,rfl⟩,?_⟩
      rw [List.length_map,g3.len]
      walk_at "rd"
      refine z9 ?_
      have ed:decide (3 < L.length) = decide ((3:Int) < (L.length:Int)):=by
       by_cases h:3 < L.length
       ·rw [decide_eq_true h,decide_eq_true (by omega)]
       ·rw [decide_eq_false h,decide_eq_false (by omega)]
      rw [decide_eq_true ed]
      exact kq _
     ·obtain ⟨h1,h2,h3⟩:=j3.yT im all fs
      subst h1
      walk_at "rd"
      refine if2 (fun h=>by cases h) (fun _=>?_)
      walk_at "rd"
      refine ⟨_,_,rfl,.inl ⟨_,aG.of (e3 _ _ hx),rfl⟩,?_⟩
      rw [List.length_map]
      walk_at "rd"
      refine if2 (fun _=>?_) (fun h=>absurd (show (S.length:Int)≤(fw:Int) by omega) h)
      walk_at "rd"
      rw [decide_eq_true (show (fw:Int) < 3 by omega)]
      exact kq _
   ·intro TT hT
    walk_at "rd"
    refine ⟨p,as,L,rfl,g1,im,by omega,fun hf H2 e2=>?_,fun S hf x H2 e2 hx=>?_⟩
    ·walk_at "rd"
     exact hT _ _ ⟨_,rfl,e2,.inl ⟨hf,rfl⟩⟩
    ·walk_at "rd"
     exact hT _ _ ⟨_,rfl,e2,.inr ⟨S,x,hf,rfl,hx⟩⟩
  ·intro TT hT
   walk_at "rd"
   refine ⟨a,ns,0,rfl,hS,by decide,fun n0=>?_⟩
   walk_at "rd"
   refine if2 (fun _=>?_) (fun _=>?_)
   ·walk_at "rd"
    refine ⟨a,ns,0,rfl,hS,by decide,fun n1=>?_⟩
    walk_at "rd"
    have m0:=Int.emod_nonneg (n1 / 2) (show (6:Int)≠0 by decide)
    have m1:=Int.emod_lt_of_pos (n1 / 2) (show (0:Int) < 6 by decide)
    refine ⟨a,ns,3,2 + n1 / 2 % 6,rfl,hS,by decide,by decide,by omega,by omega,fun p as L H1 e1 g nd fr hL im=>?_⟩
    walk_at "rd"
    exact hT _ _ ⟨p,as,L,rfl,g,im,by omega,by omega⟩
   ·walk_at "rd"
    refine ⟨a,ns,1,rfl,hS,by omega,by omega,fun n0 a0 a1=>?_⟩
    walk_at "rd"
    obtain ⟨N,hN,N9⟩:∃ N:Nat,n0 % 5 = (N:Int)∧N≤9:=⟨(n0 % 5).toNat,by omega,by omega⟩
    rw [hN]
    refine ⟨a,ns,3,N,rfl,hS,by omega,by omega,N9,fun p as L H1 e1 g1 pf jD zQ l4 lN=>?_⟩
    walk_at "rd"
    exact hT _ _ ⟨p,as,L,rfl,g1,jD.map,by omega,by omega⟩
end
end vF
end
namespace vF
open PySem L2 Fr Gm Fw
local macro_rules | `(tactic| walk_at "rd1")=>`(tactic| first
 | with_reducible refine r_seq ?_ | with_reducible refine r_asg ?_ | with_reducible refine r_gname ?_ | with_reducible refine r_op ?_ | with_reducible refine r_c ?_
 | ((with_reducible refine' r_var ?hv ?_); case' hv=>exact rfl)
 | with_reducible refine o5 ?_ | with_reducible refine uH ?_ | with_reducible refine uI ?_ | with_reducible refine pA ?_ | with_reducible refine o7 ?_
 | with_reducible refine o3 ?_ | with_reducible refine n8 ?_ | with_reducible refine lG ?_ | with_reducible refine pj ?_ | with_reducible refine lz ?_ | with_reducible refine B2 ?_ | with_reducible refine uM ?_
 | with_reducible refine rY ?_ | with_reducible refine pE ?_ | with_reducible refine uJ ?_ | with_reducible refine lH ?_ | with_reducible refine rX ?_ | with_reducible refine lC ?_ | with_reducible refine sd ?_
 | with_reducible refine j8 ?_ | with_reducible refine gR ?_ | with_reducible refine iX ?_ | with_reducible refine si ?_ | with_reducible refine oZ ?_ | with_reducible refine o8 ?_ | with_reducible refine lE ?_
 | with_reducible refine iA ?_ | with_reducible refine lF ?_ | with_reducible refine o6 ?_ | with_reducible refine Co ?_ | with_reducible refine Cp ?_ | with_reducible refine yl ?_ | with_reducible refine vg ?_
 | ((with_reducible refine rW ?hc ?_); case' hc=>walk_at "side")
 | ((with_reducible refine' o9 ?hp ?hi ?_); (case' hp=>walk_at "seq"); (case' hi=>exact rfl))
 | ((with_reducible refine' aZ ?hp ?hi ?_); (case' hp=>walk_at "seq"); (case' hi=>exact rfl))
 | ((with_reducible refine' iV ?hp ?hi ?_); (case' hp=>walk_at "seq"); (case' hi=>exact rfl))
 | ((with_reducible refine And.intro ?hl ?_); case' hl=>(first | exact y9 | exact y8))
 | with_reducible refine uL ?_ | with_reducible refine pD ?_ | with_reducible refine ly ?_ | with_reducible refine ph ?_ | with_reducible refine lD ?_ | with_reducible refine lB ?_ | with_reducible refine lr ?_ | with_reducible refine iW ?_ | with_reducible refine sf ?_ | with_reducible refine n9 ?_
 | dsimp only)
local macro_rules | `(tactic| walk_at "rd")=>`(tactic| repeat walk_at "rd1")
local macro_rules | `(tactic| walk_at "blk_vis")=>`(tactic| first | exact Or.inl rfl | exact Or.inr (Or.inl rfl) | exact Or.inr (Or.inr rfl))
local macro_rules | `(tactic| walk_at "blk_ok")=>`(tactic| exact ⟨rfl,by decide +kernel,by decide +kernel,rfl,by (first | exact trivial | exact ⟨rfl,trivial⟩ | exact ⟨rfl,rfl,trivial⟩ | exact ⟨rfl,rfl,rfl,trivial⟩ | exact ⟨rfl,rfl,rfl,rfl,trivial⟩ | exact ⟨rfl,rfl,rfl,rfl,rfl,trivial⟩),rfl,
 by (first | exact ax | exact ae ⟨rfl,by walk_at "blk_vis",rfl,rfl⟩ ax | exact ae ⟨rfl,by walk_at "blk_vis",rfl,rfl⟩ (ae ⟨rfl,by walk_at "blk_vis",rfl,rfl⟩ ax) | exact ae ⟨rfl,by walk_at "blk_vis",rfl,rfl⟩ (ae ⟨rfl,by walk_at "blk_vis",rfl,rfl⟩ (ae ⟨rfl,by walk_at "blk_vis",rfl,rfl⟩ ax)) | exact ae ⟨rfl,by walk_at "blk_vis",rfl,rfl⟩ (ae ⟨rfl,by walk_at "blk_vis",rfl,rfl⟩ (ae ⟨rfl,by walk_at "blk_vis",rfl,rfl⟩ (ae ⟨rfl,by walk_at "blk_vis",rfl,rfl⟩ ax)))),
 by (first | exact ae rfl (ae rfl (ae rfl (ae rfl ax))) | exact ax | exact ae rfl ax | exact ae rfl (ae rfl ax) | exact ae rfl (ae rfl (ae rfl ax)))⟩)
local macro_rules | `(tactic| walk_at "blk_ok1")=>`(tactic| exact ⟨rfl,fun _=>rfl,fun _=>rfl,by decide +kernel,rfl,by (first | exact trivial | exact ⟨rfl,trivial⟩ | exact ⟨rfl,rfl,trivial⟩ | exact ⟨rfl,rfl,rfl,trivial⟩ | exact ⟨rfl,rfl,rfl,rfl,trivial⟩),rfl,
 by (first | exact ax | exact ae ⟨rfl,by walk_at "blk_vis",⟨rfl,rfl⟩,rfl⟩ ax | exact ae ⟨rfl,by walk_at "blk_vis",⟨rfl,rfl⟩,rfl⟩ (ae ⟨rfl,by walk_at "blk_vis",⟨rfl,rfl⟩,rfl⟩ ax) | exact ae ⟨rfl,by walk_at "blk_vis",⟨rfl,rfl⟩,rfl⟩ (ae ⟨rfl,by walk_at "blk_vis",⟨rfl,rfl⟩,rfl⟩ (ae ⟨rfl,by walk_at "blk_vis",⟨rfl,rfl⟩,rfl⟩ ax))),
 by (first | exact ax | exact ae rfl ax | exact ae rfl (ae rfl ax) | exact ae rfl (ae rfl (ae rfl ax)))⟩)
local macro_rules | `(tactic| walk_at "side")=>`(tactic| first | assumption | exact (show (0:Int) < _ by decide) | exact iH (by decide) (by decide) | exact iI (by decide) (by decide) | exact mulL (by decide) (by decide))
local macro_rules | `(tactic| walk_at "seq")=>`(tactic| first | assumption | exact SqT.of (by assumption))
theorem all_mk {l:PySem.W.OpenLaw} {w:World} {K:PySem.W.Frag} {h:Heap} {mg:Str→Option Value} {fa:Addr} (X:K.In h) (G:h.Ns mainGlobals mg) (MA:mg "law" = some (.ref fa))
  {f0:Addr} {K4 NR:Option Addr} {JT:Array (Option Value)} {Lf LO Nn KN I8 NB:Value}
  (a0:PySem.W.nsIn K mainGlobals "ties" = some (some (.ref f0))) (l0:K.lookup f0 = some ⟨Lf,K4,.func (PySem.W.fnOf "ties" "ties" (aO eL) (aM eL) (aw eL) .none LO Nn KN NR I8 NB),JT⟩) (c0:PySem.W.codeIn K I8 "ties" = true) (k0:PySem.W.keepIn K (.ref f0) = true)
  {f1:Addr} {K3 NQ:Option Addr} {JS:Array (Option Value)} {Ld LN Nm KL I0 NA:Value}
  (a1:PySem.W.nsIn K mainGlobals "come_to" = some (some (.ref f1))) (l1:K.lookup f1 = some ⟨Ld,K3,.func (PySem.W.fnOf "come_to" "come_to" (aO cv) (aM cv) (aw cv) .none LN Nm KL NQ I0 NA),JS⟩) (c1:PySem.W.codeIn K I0 "come_to" = true) (k1:PySem.W.keepIn K (.ref f1) = true)
  {f2:Addr} {K2 NP:Option Addr} {y9:Array (Option Value)} {Lc LM Nj KJ IZ Nz:Value}
  (a2:PySem.W.nsIn K mainGlobals "parts" = some (some (.ref f2))) (l2:K.lookup f2 = some ⟨Lc,K2,.func (PySem.W.fnOf "parts" "parts" (aO dH) (aM dH) (aw dH) .none LM Nj KJ NP IZ Nz),y9⟩) (c2:PySem.W.codeIn K IZ "parts" = true) (k2:PySem.W.keepIn K (.ref f2) = true)
  {f3:Addr} {K1 NO:Option Addr} {y8:Array (Option Value)} {Lb LL Nh KI IY Ny:Value}
  (a3:PySem.W.nsIn K mainGlobals "short_lists" = some (some (.ref f3))) (l3:K.lookup f3 = some ⟨Lb,K1,.func (PySem.W.fnOf "short_lists" "short_lists" (aO br) (aM br) (aw br) .none LL Nh KI NO IY Ny),y8⟩) (c3:PySem.W.codeIn K IY "short_lists" = true) (k3:PySem.W.keepIn K (.ref f3) = true)
  {f4:Addr} {K0 NN:Option Addr} {JR:Array (Option Value)} {La LK Ng KH IX Nx:Value}
  (a4:PySem.W.nsIn K mainGlobals "parting" = some (some (.ref f4))) (l4:K.lookup f4 = some ⟨La,K0,.func (PySem.W.fnOf "parting" "parting" (aO cq) (aM cq) (aw cq) .none LK Ng KH NN IX Nx),JR⟩) (c4:PySem.W.codeIn K IX "parting" = true) (k4:PySem.W.keepIn K (.ref f4) = true)
  {f5:Addr} {KZ NM:Option Addr} {JQ:Array (Option Value)} {K9 LJ Nd KG IW Nw:Value}
  (a5:PySem.W.nsIn K mainGlobals "open_ways" = some (some (.ref f5))) (l5:K.lookup f5 = some ⟨K9,KZ,.func (PySem.W.fnOf "open_ways" "open_ways" (aO bJ) (aM bJ) (aw bJ) .none LJ Nd KG NM IW Nw),JQ⟩) (c5:PySem.W.codeIn K IW "open_ways" = true) (k5:PySem.W.keepIn K (.ref f5) = true)
  {f6:Addr} {KY NL:Option Addr} {JP:Array (Option Value)} {K8 LI Nc KD IV Nv:Value}
  (a6:PySem.W.nsIn K mainGlobals "doors_from" = some (some (.ref f6))) (l6:K.lookup f6 = some ⟨K8,KY,.func (PySem.W.fnOf "doors_from" "doors_from" (aO bx) (aM bx) (aw bx) .none LI Nc KD NL IV Nv),JP⟩) (c6:PySem.W.codeIn K IV "doors_from" = true) (k6:PySem.W.keepIn K (.ref f6) = true)
  {f7:Addr} {KW NK:Option Addr} {JO:Array (Option Value)} {K7 LH Nb KC IU Nu:Value}
  (a7:PySem.W.nsIn K mainGlobals "go_to" = some (some (.ref f7))) (l7:K.lookup f7 = some ⟨K7,KW,.func (PySem.W.fnOf "go_to" "go_to" (aO dI) (aM dI) (aw dI) .none LH Nb KC NK IU Nu),JO⟩) (c7:PySem.W.codeIn K IU "go_to" = true) (k7:PySem.W.keepIn K (.ref f7) = true)
  {f8:Addr} {KU NJ:Option Addr} {JN:Array (Option Value)} {K6 LG Na KA IT Nt:Value}
  (a8:PySem.W.nsIn K mainGlobals "gone_on" = some (some (.ref f8))) (l8:K.lookup f8 = some ⟨K6,KU,.func (PySem.W.fnOf "gone_on" "gone_on" (aO cu) (aM cu) (aw cu) .none LG Na KA NJ IT Nt),JN⟩) (c8:PySem.W.codeIn K IT "gone_on" = true) (k8:PySem.W.keepIn K (.ref f8) = true)
  {f9:Addr} {KS NI:Option Addr} {JM:Array (Option Value)} {K5 LF M9 Kz IS Nr:Value}
  (a9:PySem.W.nsIn K mainGlobals "road_by" = some (some (.ref f9))) (l9:K.lookup f9 = some ⟨K5,KS,.func (PySem.W.fnOf "road_by" "road_by" (aO cn) (aM cn) (aw cn) .none LF M9 Kz NI IS Nr),JM⟩) (c9:PySem.W.codeIn K IS "road_by" = true) (k9:PySem.W.keepIn K (.ref f9) = true)
  {CJ:Addr} {Ep GP:Option Addr} {DB:Array (Option Value)} {EC E7 Gj Ec BF Gy:Value}
  (a10:PySem.W.nsIn K mainGlobals "roads" = some (some (.ref CJ))) (l10:K.lookup CJ = some ⟨EC,Ep,.func (PySem.W.fnOf "roads" "roads" (aO dG) (aM dG) (aw dG) .none E7 Gj Ec GP BF Gy),DB⟩) (c10:PySem.W.codeIn K BF "roads" = true) (k10:PySem.W.keepIn K (.ref CJ) = true)
  {CI:Addr} {Eo GO:Option Addr} {DA:Array (Option Value)} {EB E6 Gi Eb BE Gx:Value}
  (a11:PySem.W.nsIn K mainGlobals "_law_cell_at" = some (some (.ref CI))) (l11:K.lookup CI = some ⟨EB,Eo,.func (PySem.W.fnOf "_law_cell_at" "_law_cell_at" (aO bc) (aM bc) (aw bc) .none E6 Gi Eb GO BE Gx),DA⟩) (c11:PySem.W.codeIn K BE "_law_cell_at" = true) (k11:PySem.W.keepIn K (.ref CI) = true)
  {CH:Addr} {En GN:Option Addr} {Dz:Array (Option Value)} {EA E5 Gh Ea BD Gw:Value}
  (a12:PySem.W.nsIn K mainGlobals "_law_block" = some (some (.ref CH))) (l12:K.lookup CH = some ⟨EA,En,.func (PySem.W.fnOf "_law_block" "_law_block" (aO bC) (aM bC) (aw bC) .none E5 Gh Ea GN BD Gw),Dz⟩) (c12:PySem.W.codeIn K BD "_law_block" = true) (k12:PySem.W.keepIn K (.ref CH) = true)
  {CG:Addr} {Em GL:Option Addr} {Dy:Array (Option Value)} {Ez E4 Gg DZ BC Gv:Value}
  (a13:PySem.W.nsIn K mainGlobals "_law_mixed" = some (some (.ref CG))) (l13:K.lookup CG = some ⟨Ez,Em,.func (PySem.W.fnOf "_law_mixed" "_law_mixed" (aO bB) (aM bB) (aw bB) .none E4 Gg DZ GL BC Gv),Dy⟩) (c13:PySem.W.codeIn K BC "_law_mixed" = true) (k13:PySem.W.keepIn K (.ref CG) = true)
  {CF:Addr} {El GK:Option Addr} {Dx:Array (Option Value)} {Ey E3 Gf DY BB Gu:Value}
  (a14:PySem.W.nsIn K mainGlobals "_law_any" = some (some (.ref CF))) (l14:K.lookup CF = some ⟨Ey,El,.func (PySem.W.fnOf "_law_any" "_law_any" (aO bT) (aM bT) (aw bT) .none E3 Gf DY GK BB Gu),Dx⟩) (c14:PySem.W.codeIn K BB "_law_any" = true) (k14:PySem.W.keepIn K (.ref CF) = true)
  {CD:Addr} {Ek GJ:Option Addr} {Dw:Array (Option Value)} {Ew E2 Ge DX BA Gs:Value}
  (a15:PySem.W.nsIn K mainGlobals "_law_rings" = some (some (.ref CD))) (l15:K.lookup CD = some ⟨Ew,Ek,.func (PySem.W.fnOf "_law_rings" "_law_rings" (aO bA) (aM bA) (aw bA) .none E2 Ge DX GJ BA Gs),Dw⟩) (c15:PySem.W.codeIn K BA "_law_rings" = true) (k15:PySem.W.keepIn K (.ref CD) = true)
  {CC:Addr} {Ej GI:Option Addr} {Dv:Array (Option Value)} {Eu E1 Gd DW Bz Gr:Value}
  (a16:PySem.W.nsIn K mainGlobals "_law_put_tie" = some (some (.ref CC))) (l16:K.lookup CC = some ⟨Eu,Ej,.func (PySem.W.fnOf "_law_put_tie" "_law_put_tie" (aO bb) (aM bb) (aw bb) .none E1 Gd DW GI Bz Gr),Dv⟩) (c16:PySem.W.codeIn K Bz "_law_put_tie" = true) (k16:PySem.W.keepIn K (.ref CC) = true)
  {CB:Addr} {Ei GH:Option Addr} {Du:Array (Option Value)} {Et EZ Gb DV Bw Gq:Value}
  (a17:PySem.W.nsIn K mainGlobals "_law_put_place" = some (some (.ref CB))) (l17:K.lookup CB = some ⟨Et,Ei,.func (PySem.W.fnOf "_law_put_place" "_law_put_place" (aO aQ) (aM aQ) (aw aQ) .none EZ Gb DV GH Bw Gq),Du⟩) (c17:PySem.W.codeIn K Bw "_law_put_place" = true) (k17:PySem.W.keepIn K (.ref CB) = true)
  {CA:Addr} {Eh GG:Option Addr} {Ds:Array (Option Value)} {Es EY Ga DU Bv Gp:Value}
  (a18:PySem.W.nsIn K mainGlobals "_law_tight" = some (some (.ref CA))) (l18:K.lookup CA = some ⟨Es,Eh,.func (PySem.W.fnOf "_law_tight" "_law_tight" (aO bz) (aM bz) (aw bz) .none EY Ga DU GG Bv Gp),Ds⟩) (c18:PySem.W.codeIn K Bv "_law_tight" = true) (k18:PySem.W.keepIn K (.ref CA) = true)
  {FY:Addr} {Eg BI:Option Addr} {Dr:Array (Option Value)} {Er As Bn Ae yN Br:Value}
  (a19:PySem.W.nsIn K mainGlobals "law" = some (some (.ref FY))) (l19:K.lookup FY = some ⟨Er,Eg,.func (PySem.W.fnOf "law" "law" (aO gm) (aM gm) (aw gm) .none As Bn Ae BI yN Br),Dr⟩) (c19:PySem.W.codeIn K yN "law" = true) (k19:PySem.W.keepIn K (.ref FY) = true)
  (z0:PySem.W.nsIn K mainGlobals "len" = some none)
  (z1:PySem.W.nsIn K mainGlobals "range" = some none)
  (z2:PySem.W.nsIn K mainGlobals "min" = some none)
  (z3:PySem.W.nsIn K mainGlobals "max" = some none)
  (z4:PySem.W.nsIn K mainGlobals "list" = some none)
  (z5:PySem.W.nsIn K mainGlobals "enumerate" = some none)
  (z6:PySem.W.nsIn K mainGlobals "sorted" = some none)
  {zy:Tok} (g_IN:PySem.W.nsIn K mainGlobals "IN" = some (some (.int 0 zy)))
  {xh:Tok} (g_OUT:PySem.W.nsIn K mainGlobals "OUT" = some (some (.int 1 xh)))
  : ∃ fd:FuncData,(∀ (s:Shared) (v:Value),BindsTo s fd ⟨[v],[]⟩ [("_law_script",v)])∧∀ base:Heap,K.In base→base.Ns mainGlobals mg→jT l.prog w K mg base (cV l.prog w) 10 fa fd ["_law_script"] (kU K):=by
 have e:=MA.symm.trans (PySem.W.mg_of X G a19)
 cases e
 have T:Txt K mg ⟨⟩:=⟨PySem.W.mg_none_of X G z0,PySem.W.mg_none_of X G z1,PySem.W.mg_none_of X G z2,PySem.W.mg_none_of X G z3,PySem.W.mg_none_of X G z4,PySem.W.mg_none_of X G z5,PySem.W.mg_none_of X G z6,⟨_,PySem.W.mg_of X G g_IN⟩,⟨_,PySem.W.mg_of X G g_OUT⟩⟩
 have D0:Def K mg "ties" eL ["orders"]:=⟨⟨f0,_,aI (st:=eL) l0 c0 k0,PySem.W.mg_of X G a0,(aI (st:=eL) l0 c0 k0).binds (ps:=["orders"]) fun _ _ _ _ _ _ us hl=>match us,hl with | [_],_=>rfl⟩⟩
 have D1:Def K mg "come_to" cv ["orders", "start", "shut"]:=⟨⟨f1,_,aI (st:=cv) l1 c1 k1,PySem.W.mg_of X G a1,(aI (st:=cv) l1 c1 k1).binds (ps:=["orders", "start", "shut"]) fun _ _ _ _ _ _ us hl=>match us,hl with | [_,_,_],_=>rfl⟩⟩
 have D2:Def K mg "parts" dH ["orders", "places"]:=⟨⟨f2,_,aI (st:=dH) l2 c2 k2,PySem.W.mg_of X G a2,(aI (st:=dH) l2 c2 k2).binds (ps:=["orders", "places"]) fun _ _ _ _ _ _ us hl=>match us,hl with | [_,_],_=>rfl⟩⟩
 have D3:Def K mg "short_lists" br ["size"]:=⟨⟨f3,_,aI (st:=br) l3 c3 k3,PySem.W.mg_of X G a3,(aI (st:=br) l3 c3 k3).binds (ps:=["size"]) fun _ _ _ _ _ _ us hl=>match us,hl with | [_],_=>rfl⟩⟩
 have D4:Def K mg "parting" cq ["orders"]:=⟨⟨f4,_,aI (st:=cq) l4 c4 k4,PySem.W.mg_of X G a4,(aI (st:=cq) l4 c4 k4).binds (ps:=["orders"]) fun _ _ _ _ _ _ us hl=>match us,hl with | [_],_=>rfl⟩⟩
 have D5:Def K mg "open_ways" bJ ["orders", "one", "other"]:=⟨⟨f5,_,aI (st:=bJ) l5 c5 k5,PySem.W.mg_of X G a5,(aI (st:=bJ) l5 c5 k5).binds (ps:=["orders", "one", "other"]) fun _ _ _ _ _ _ us hl=>match us,hl with | [_,_,_],_=>rfl⟩⟩
 have D6:Def K mg "doors_from" bx ["ways", "start"]:=⟨⟨f6,_,aI (st:=bx) l6 c6 k6,PySem.W.mg_of X G a6,(aI (st:=bx) l6 c6 k6).binds (ps:=["ways", "start"]) fun _ _ _ _ _ _ us hl=>match us,hl with | [_,_],_=>rfl⟩⟩
 have D7:Def K mg "go_to" dI ["ways", "ahead", "goal"]:=⟨⟨f7,_,aI (st:=dI) l7 c7 k7,PySem.W.mg_of X G a7,(aI (st:=dI) l7 c7 k7).binds (ps:=["ways", "ahead", "goal"]) fun _ _ _ _ _ _ us hl=>match us,hl with | [_,_,_],_=>rfl⟩⟩
 have D8:Def K mg "gone_on" cu ["orders", "ways", "place"]:=⟨⟨f8,_,aI (st:=cu) l8 c8 k8,PySem.W.mg_of X G a8,(aI (st:=cu) l8 c8 k8).binds (ps:=["orders", "ways", "place"]) fun _ _ _ _ _ _ us hl=>match us,hl with | [_,_,_],_=>rfl⟩⟩
 have D9:Def K mg "road_by" cn ["orders", "ways", "start", "goal"]:=⟨⟨f9,_,aI (st:=cn) l9 c9 k9,PySem.W.mg_of X G a9,(aI (st:=cn) l9 c9 k9).binds (ps:=["orders", "ways", "start", "goal"]) fun _ _ _ _ _ _ us hl=>match us,hl with | [_,_,_,_],_=>rfl⟩⟩
 have Ot:Def K mg "roads" dG ["orders", "one", "other"]:=⟨⟨CJ,_,aI (st:=dG) l10 c10 k10,PySem.W.mg_of X G a10,(aI (st:=dG) l10 c10 k10).binds (ps:=["orders", "one", "other"]) fun _ _ _ _ _ _ us hl=>match us,hl with | [_,_,_],_=>rfl⟩⟩
 have Oq:Def K mg "_law_cell_at" bc ["_law_script", "_law_k"]:=⟨⟨CI,_,aI (st:=bc) l11 c11 k11,PySem.W.mg_of X G a11,(aI (st:=bc) l11 c11 k11).binds (ps:=["_law_script", "_law_k"]) fun _ _ _ _ _ _ us hl=>match us,hl with | [_,_],_=>rfl⟩⟩
 have Oo:Def K mg "_law_block" bC ["_law_script", "_law_k"]:=⟨⟨CH,_,aI (st:=bC) l12 c12 k12,PySem.W.mg_of X G a12,(aI (st:=bC) l12 c12 k12).binds (ps:=["_law_script", "_law_k"]) fun _ _ _ _ _ _ us hl=>match us,hl with | [_,_],_=>rfl⟩⟩
 have Om:Def K mg "_law_mixed" bB ["_law_script", "_law_k"]:=⟨⟨CG,_,aI (st:=bB) l13 c13 k13,PySem.W.mg_of X G a13,(aI (st:=bB) l13 c13 k13).binds (ps:=["_law_script", "_law_k"]) fun _ _ _ _ _ _ us hl=>match us,hl with | [_,_],_=>rfl⟩⟩
 have Ol:Def K mg "_law_any" bT ["_law_script", "_law_start", "_law_many"]:=⟨⟨CF,_,aI (st:=bT) l14 c14 k14,PySem.W.mg_of X G a14,(aI (st:=bT) l14 c14 k14).binds (ps:=["_law_script", "_law_start", "_law_many"]) fun _ _ _ _ _ _ us hl=>match us,hl with | [_,_,_],_=>rfl⟩⟩
 have Oj:Def K mg "_law_rings" bA ["_law_orders"]:=⟨⟨CD,_,aI (st:=bA) l15 c15 k15,PySem.W.mg_of X G a15,(aI (st:=bA) l15 c15 k15).binds (ps:=["_law_orders"]) fun _ _ _ _ _ _ us hl=>match us,hl with | [_],_=>rfl⟩⟩
 have Oi:Def K mg "_law_put_tie" bb ["_law_orders", "_law_ring", "_law_one", "_law_other"]:=⟨⟨CC,_,aI (st:=bb) l16 c16 k16,PySem.W.mg_of X G a16,(aI (st:=bb) l16 c16 k16).binds (ps:=["_law_orders", "_law_ring", "_law_one", "_law_other"]) fun _ _ _ _ _ _ us hl=>match us,hl with | [_,_,_,_],_=>rfl⟩⟩
 have Oh:Def K mg "_law_put_place" aQ ["_law_orders", "_law_ring", "_law_corners"]:=⟨⟨CB,_,aI (st:=aQ) l17 c17 k17,PySem.W.mg_of X G a17,(aI (st:=aQ) l17 c17 k17).binds (ps:=["_law_orders", "_law_ring", "_law_corners"]) fun _ _ _ _ _ _ us hl=>match us,hl with | [_,_,_],_=>rfl⟩⟩
 have Og:Def K mg "_law_tight" bz ["_law_script", "_law_start", "_law_steps"]:=⟨⟨CA,_,aI (st:=bz) l18 c18 k18,PySem.W.mg_of X G a18,(aI (st:=bz) l18 c18 k18).binds (ps:=["_law_script", "_law_start", "_law_steps"]) fun _ _ _ _ _ _ us hl=>match us,hl with | [_,_,_],_=>rfl⟩⟩
 refine ⟨PySem.W.fnOf "law" "law" (aO gm) (aM gm) (aw gm) .none As Bn Ae BI yN Br,fun s v=>.of_eq rfl,fun base hK hG=>?_⟩
 have yZ:=u4 (P:=l.prog) (w:=w) (base:=base) D0 T
 have rj:=oq (P:=l.prog) (w:=w) (base:=base) D1 T
 have vO:=sG (P:=l.prog) (w:=w) (base:=base) D2 T rj
 have jR:=i9 (P:=l.prog) (w:=w) (base:=base) D3 T
 have ri:=om (P:=l.prog) (w:=w) (base:=base) D4 T vO jR
 have nQ:=lO (P:=l.prog) (w:=w) (base:=base) D5 T yZ
 have mj:=jI (P:=l.prog) (w:=w) (base:=base) D6 T
 have vP:=sH (P:=l.prog) (w:=w) (base:=base) D7 T
 have kM:=oo (P:=l.prog) (w:=w) (base:=base) D8 T
 have rh:=oj (P:=l.prog) (w:=w) (base:=base) D9 T kM
 have vN:=sF (P:=l.prog) (w:=w) (base:=base) Ot T nQ mj vP kM rh
 have jC:=h9 (P:=l.prog) (w:=w) (base:=base) Oq T
 have mv:=jM (P:=l.prog) (w:=w) (base:=base) Oo T
 have eF:=jL (P:=l.prog) (w:=w) (base:=base) Om T mv
 have oH:=mX (P:=l.prog) (w:=w) (base:=base) Ol T eF
 have mr:=jK (P:=l.prog) (w:=w) (base:=base) Oj T
 have jB:=h8 (P:=l.prog) (w:=w) (base:=base) Oi T
 have hJ:=gB (P:=l.prog) (w:=w) (base:=base) Oh T
 have mq:=jJ (P:=l.prog) (w:=w) (base:=base) Og T eF mr jB hJ
 exact xW (aI (st:=gm) l19 c19 k19) T ri vN jC eF oH mq
theorem walk {l:PySem.W.OpenLaw} {q:Program} {loose:List Str} {XP:(Str→Option Value)→Heap→Prop} {YP:World→Heap→Prop} {d:DefRec} {K:Params→PySem.W.Frag} (hn:l.most = some 63) (AX:d.params.defaults = [])
  (hY:∀ (w:World) (h:Heap),YP w h→(K w.params).In h)
  (F:∀ (w:World) (mg:Str→Option Value) (fa:Addr) (h:Heap),(K w.params).In h→h.Ns mainGlobals mg→mg d.name = some (.ref fa)→
   ∃ fd:FuncData,(∀ (s:Shared) (u:Value),BindsTo s fd ⟨[u],[]⟩ [("_law_script",u)])∧∀ base:Heap,(K w.params).In base→base.Ns mainGlobals mg→jT l.prog w (K w.params) mg base (cV l.prog w) 10 fa fd ["_law_script"] (kU (K w.params))) :
  PySem.W.WalkO q loose XP YP l.row.toRowW d [] (fun f vs=>PySem.call f vs):=
 L2.ur (n:=63) (k:=10) (x:= "_law_script") (CX:=fun w=>cV l.prog w) (sp:=fun w=>kU (K w.params)) hn (by decide) AX ⟨rfl,by decide,by decide⟩ hY F (fun _ _ a ns hl _ hS=>⟨a,ns,rfl,hS,hl,fun _=>rfl⟩) fun _ _ _ _ _ z=>qU z
end vF
theorem PySem.W.Fast.tw9990989474641028213:True:=trivial
theorem PySem.W.Fast.tw17383227144921390430:True:=trivial
theorem PySem.W.Fast.tw11742825031588250192:True:=trivial
theorem PySem.W.Fast.tw1937694997008237421:True:=trivial
theorem PySem.W.Fast.tw6389236186661732305:True:=trivial
theorem PySem.W.Fast.tw14761031892315855198:True:=trivial
theorem PySem.W.Fast.tw14160345584374335474:True:=trivial
theorem PySem.W.Fast.tw8632875619438677503:True:=trivial
theorem PySem.W.Fast.tw4286218647636473896:True:=trivial
theorem PySem.W.Fast.tw17555564131422099688:True:=trivial
theorem PySem.W.Fast.tw14584890286930610035:True:=trivial
open PySem PySem.W PyProof.Rows
set_option maxRecDepth 100000 in
set_option maxHeartbeats 0 in
theorem PySem.Challenge.cw_standup_k33_whole_tight_maps_have_roads_holds : PySem.Challenge.rw_standup_k33_whole_tight_maps_have_roads.Holds := by
 w_on; o_law; k_head; (case hw=>w_witness2)
 k_fill
 refine vF.walk (l:=PySem.Challenge.rw_standup_k33_whole_tight_maps_have_roads) rfl rfl (fun w h Y=>PySem.W.kIn_of Y) ?F
 case F=>
  intro w mg fa h KX G AK
  refine' vF.all_mk KX G AK ?a0 ?l0 ?c0 ?k0 ?a1 ?l1 ?c1 ?k1 ?a2 ?l2 ?c2 ?k2 ?a3 ?l3 ?c3 ?k3 ?a4 ?l4 ?c4 ?k4 ?a5 ?l5 ?c5 ?k5 ?a6 ?l6 ?c6 ?k6 ?a7 ?l7 ?c7 ?k7 ?a8 ?l8 ?c8 ?k8 ?a9 ?l9 ?c9 ?k9 ?a10 ?l10 ?c10 ?k10 ?a11 ?l11 ?c11 ?k11 ?a12 ?l12 ?c12 ?k12 ?a13 ?l13 ?c13 ?k13 ?a14 ?l14 ?c14 ?k14 ?a15 ?l15 ?c15 ?k15 ?a16 ?l16 ?c16 ?k16 ?a17 ?l17 ?c17 ?k17 ?a18 ?l18 ?c18 ?k18 ?a19 ?l19 ?c19 ?k19 ?z0 ?z1 ?z2 ?z3 ?z4 ?z5 ?z6 ?g_IN ?g_OUT
  (case a0=>k_is)
  (case l0=>k_is)
  (case c0=>k_is)
  (case k0=>k_is)
  (case a1=>k_is)
  (case l1=>k_is)
  (case c1=>k_is)
  (case k1=>k_is)
  (case a2=>k_is)
  (case l2=>k_is)
  (case c2=>k_is)
  (case k2=>k_is)
  (case a3=>k_is)
  (case l3=>k_is)
  (case c3=>k_is)
  (case k3=>k_is)
  (case a4=>k_is)
  (case l4=>k_is)
  (case c4=>k_is)
  (case k4=>k_is)
  (case a5=>k_is)
  (case l5=>k_is)
  (case c5=>k_is)
  (case k5=>k_is)
  (case a6=>k_is)
  (case l6=>k_is)
  (case c6=>k_is)
  (case k6=>k_is)
  (case a7=>k_is)
  (case l7=>k_is)
  (case c7=>k_is)
  (case k7=>k_is)
  (case a8=>k_is)
  (case l8=>k_is)
  (case c8=>k_is)
  (case k8=>k_is)
  (case a9=>k_is)
  (case l9=>k_is)
  (case c9=>k_is)
  (case k9=>k_is)
  (case a10=>k_is)
  (case l10=>k_is)
  (case c10=>k_is)
  (case k10=>k_is)
  (case a11=>k_is)
  (case l11=>k_is)
  (case c11=>k_is)
  (case k11=>k_is)
  (case a12=>k_is)
  (case l12=>k_is)
  (case c12=>k_is)
  (case k12=>k_is)
  (case a13=>k_is)
  (case l13=>k_is)
  (case c13=>k_is)
  (case k13=>k_is)
  (case a14=>k_is)
  (case l14=>k_is)
  (case c14=>k_is)
  (case k14=>k_is)
  (case a15=>k_is)
  (case l15=>k_is)
  (case c15=>k_is)
  (case k15=>k_is)
  (case a16=>k_is)
  (case l16=>k_is)
  (case c16=>k_is)
  (case k16=>k_is)
  (case a17=>k_is)
  (case l17=>k_is)
  (case c17=>k_is)
  (case k17=>k_is)
  (case a18=>k_is)
  (case l18=>k_is)
  (case c18=>k_is)
  (case k18=>k_is)
  (case a19=>k_is)
  (case l19=>k_is)
  (case c19=>k_is)
  (case k19=>k_is)
  (case z0=>k_is)
  (case z1=>k_is)
  (case z2=>k_is)
  (case z3=>k_is)
  (case z4=>k_is)
  (case z5=>k_is)
  (case z6=>k_is)
  (case g_IN=>k_is)
  (case g_OUT=>k_is)
