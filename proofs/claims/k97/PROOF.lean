import PyProof.Rows.All
import Wide.All
import OpenK.AllK
import Wide.FinOn
import Lean
import PyProof.EqAt
import PyProof.EqKinds
import PyProof.TupleCall
import PyProof.Rows.Catch
import KE.KRevIter
import KE.KIntText
import PyProof.InstStoreFacts
import PyProof.ExcInit
import PyProof.StrBlockH
import PyProof.StrLawsIdx
import KE.KDictList
import PyProof.Rows.TupDisplay
import PyProof.Rows.SetFrom
import PyProof.Walks
import PySem.Challenge.RW_standup_k97_no_text
set_option Elab.async false
set_option linter.all false
set_option maxRecDepth 100000
set_option maxHeartbeats 4000000
namespace L2
open PySem PySem.Spec PyProof.Rows
abbrev Key:=Sum Int Str
def vL:Key→Value→Bool
 | .inl k,v=>Value.isInt k v
 | .inr x,v=>Value.isStrOf x v
def CU (w:World):Key→Int
 | .inl k=>hashInt k
 | .inr x=>hashStr w x
theorem bD:∀ {k:Key} {v:Value},vL k v = true→(∃ i t,k = Sum.inl i∧v = Value.int i t)∨(∃ x t,k = Sum.inr x∧v = Value.str x t)
 | .inl i,v,h=>by
  obtain ⟨t,e⟩:=Value.isInt_shape (k:=i) (v:=v) h
  exact .inl ⟨i,t,rfl,e⟩
 | .inr x,v,h=>by
  obtain ⟨t,e⟩:=Value.isStrOf_shape (x:=x) (v:=v) h
  exact .inr ⟨x,t,rfl,e⟩
theorem xn (a b:Int):decide ((Sum.inl a:Key) = Sum.inl b) = (a == b):=by
 by_cases e:a = b
 ·subst e; simp
 ·have h:¬ (Sum.inl a:Key) = Sum.inl b:=fun q=>e (Sum.inl.inj q)
  rw [decide_eq_false h]
  exact (beq_eq_false_iff_ne.mpr e).symm
theorem xj (a b:Str):decide ((Sum.inr a:Key) = Sum.inr b) = decide (a = b):=by
 by_cases e:a = b
 ·subst e; simp
 ·have h:¬ (Sum.inr a:Key) = Sum.inr b:=fun q=>e (Sum.inr.inj q)
  rw [decide_eq_false h,decide_eq_false e]
theorem xm (a:Int) (b:Str):decide ((Sum.inl a:Key) = Sum.inr b) = false:=decide_eq_false (fun q=>nomatch q)
theorem xk (a:Str) (b:Int):decide ((Sum.inr a:Key) = Sum.inl b) = false:=decide_eq_false (fun q=>nomatch q)
def oy (prog:Program) (w:World):PySem.KeyKind prog w Key where
 is:=vL
 hash:=CU w
 inj:=fun v a b ha hb=>by
  rcases bD ha with ⟨i,t,rfl,rfl⟩ | ⟨x,t,rfl,rfl⟩
  ·rcases bD hb with ⟨j,u,rfl,e⟩ | ⟨y,u,rfl,e⟩
   ·injection e with e1 _; rw [e1]
   ·exact nomatch e
  ·rcases bD hb with ⟨j,u,rfl,e⟩ | ⟨y,u,rfl,e⟩
   ·exact nomatch e
   ·injection e with e1 _; rw [e1]
 byValue:=fun k v h=>by
  rcases bD h with ⟨i,t,rfl,rfl⟩ | ⟨x,t,rfl,rfl⟩ <;> rfl
 pyHash:=fun hv h=>by
  rcases bD hv with ⟨i,t,rfl,rfl⟩ | ⟨x,t,rfl,rfl⟩
  ·exact wpAny_pyHash_int h
  ·exact wpAny_pyHash_str h
 eqBool:=fun hu hv h=>by
  rcases bD hu with ⟨i,t,rfl,rfl⟩ | ⟨x,t,rfl,rfl⟩
  ·rcases bD hv with ⟨j,u,rfl,rfl⟩ | ⟨y,u,rfl,rfl⟩
   ·rw [xn] at h; exact wpAny_eqBool_int h
   ·rw [xm] at h; exact SeqAt.EqAt.int_str i t y u _ _ _ _ h
  ·rcases bD hv with ⟨j,u,rfl,rfl⟩ | ⟨y,u,rfl,rfl⟩
   ·rw [xk] at h; exact SeqAt.EqAt.str_int x t j u _ _ _ _ h
   ·rw [xj] at h; exact wpAny_eqBool_str h
 «strs»:=fun k x t v h=>by
  rcases bD h with ⟨i,u,rfl,e⟩ | ⟨y,u,rfl,e⟩
  ·exact nomatch e
  ·injection e with e1 _
   subst e1
   cases v <;> rfl
end L2
namespace L2
open PySem PySem.Spec PyProof.Rows
inductive V where
 | bS | bl (b:Bool) | int (i:Int) | str (x:Str) | mE (b:Array UInt8) | mD (b:UInt64) | ref (a:Addr) | ty (n:String)
 deriving DecidableEq
def RelV:V→Value→Prop
 | .bS,u=>u = Value.none
 | .bl b,u=>u = Value.bool b
 | .int i,u=>∃ t,u = Value.int i t
 | .str x,u=>∃ t,u = Value.str x t
 | .mE b,u=>∃ t,u = Value.bytes b t
 | .mD b,u=>∃ t,u = Value.float b t
 | .ref a,u=>u = Value.ref a
 | .ty n,u=>u = Value.type n
abbrev Vals:List V→List Value→Prop:=Paired RelV
theorem Vals.length {xs:List V} {us:List Value} (r:Vals xs us):xs.length = us.length:=Paired.length r
theorem Vals.get:∀ {xs:List V} {us:List Value} {i:Nat} {x:V},Vals xs us→xs[i]? = some x→∃ u,us[i]? = some u∧RelV x u
 | _,_,_,_,.nil,e=>by simp at e
 | _,_,0,_,.cons r _,e=>by simp at e; subst e; exact ⟨_,rfl,r⟩
 | _,_,i + 1,x,.cons _ t,e=>by
  obtain ⟨u,h1,h2⟩:=Vals.get (i:=i) (x:=x) t (by simpa using e)
  exact ⟨u,by simpa using h1,h2⟩
theorem Vals.append:∀ {xs ys:List V} {us ws:List Value},Vals xs us→Vals ys ws→Vals (xs ++ ys) (us ++ ws)
 | _,_,_,_,.nil,s=>s
 | _,_,_,_,.cons r t,s=>.cons r (Vals.append t s)
theorem Vals.take:∀ {xs:List V} {us:List Value} (n:Nat),Vals xs us→Vals (xs.take n) (us.take n)
 | _,_,0,_=>.nil
 | _,_,_ + 1,.nil=>.nil
 | _,_,n + 1,.cons r t=>.cons r (Vals.take n t)
theorem Vals.drop:∀ {xs:List V} {us:List Value} (n:Nat),Vals xs us→Vals (xs.drop n) (us.drop n)
 | _,_,0,r=>r
 | _,_,_ + 1,.nil=>.nil
 | _,_,n + 1,.cons _ t=>Vals.drop n t
def mx:Option V→Option Value→Prop
 | some v,some u=>RelV v u
 | none,none=>True
 | _,_=>False
def KV {κ : Type}:List (κ×V)→List (κ×Value)→Prop:=Paired fun (p : κ×V) (q : κ×Value)=>p.1 = q.1∧RelV p.2 q.2
def kV:Key→V
 | .inl i=>.int i
 | .inr x=>.str x
inductive HO where
 /-- a list -/
 | lst (xs:List V)
 /-- a tuple (never changes) -/
 | tup (xs:List V)
 /-- a dict yg keys are ints and texts; one yg keys are tuples of ints and texts (qA empty one is both) -/
 | dK (aV:List (Key×V)) | dT (aV:List (List Key×V))
 /-- a set of ints: aQ members,aQ size -/
 | set (S:Int→Bool) (n:Nat)
 /-- an instance of qA class at C,aQ dict at dx,aQ attributes -/
 | ins (C dx:Addr) (fs:List (Str×V))
 /-- qA dict of qA instance at x -/
 | own (x:Addr)
 /-- qA dict of an exception -/
 | xd (fs:List (Str×V))
 /-- a bound method,f of x -/
 | met (f x:Addr)
 /-- a range object lo,lo + 1,.. below hi -/
 | AD (lo hi:Int)
 /-- a yh GG is known to qA object (qA qQ; a dict while a loop walks it): read,never written while it is so -/
 | iK (o:Obj) (u:HO)
 /-- a code object's table -/
 | vk (ps:Array Value)
 /-- any other yh,by wb is true of aQ one object (a def of one's own: Kn a S n:=HO.ext fun h=>..) -/
 | ext (φ : Heap→Prop)
abbrev Hp:=Addr→Option HO
def upd (H:Hp) (a:Addr) (o:HO):Hp:=fun b=>if b = a then some o else H b
theorem ak {H:Hp} {a:Addr} {o:HO}:upd H a o a = some o:=by unfold upd; rw [if_pos rfl]
theorem aq {H:Hp} {a b:Addr} {o:HO} (h:b≠a):upd H a o b = H b:=by unfold upd; rw [if_neg h]
theorem ua {H:Hp} {a:Addr} {o u:HO}:upd (upd H a o) a u = upd H a u:=by
 funext b; unfold upd; split <;> rfl
theorem aB {H:Hp} {a b:Addr} {o:HO} (h:H a = some o) (h':H b = none):a≠b:=by
 intro e; subst e; rw [h] at h'; cases h'
section
variable (P:Program) (w:World)
def bu (H:Hp) (h:Heap) (a:Addr):HO→Prop
 | .lst xs=>xs.length≤sizeLine∧∃ (aQ:List Value) (n:Nat),Vals xs aQ∧h.get? a = some { cls:=.type "list",data:=.seq aQ.toArray n }
 | .tup xs=>xs.length≤sizeLine∧∃ aQ:List Value,Vals xs aQ∧IsTup h a aQ.toArray
 | .dK aV=>aV.length≤sizeLine∧(a == sysModules) = false∧∃ vs,KV aV vs∧h.DictOf (oy P w) a vs
 | .dT aV=>aV.length≤sizeLine∧(a == sysModules) = false∧∃ xs:List (List Key×Addr×Value),
   Paired (fun (p:List Key×V) (q:List Key×Addr×Value)=>p.1 = q.1∧H q.2.1 = some (.tup (p.1.map kV))∧RelV p.2 q.2.2) aV xs∧
   ∃ o es ep,h.get? a = some o∧o.ExactDict∧o.data = .dict es ep∧es.toList = xs.map (entryOfKey (tupleKind (oy P w)))∧(xs.map (·.1)).Nodup
 | .set S n=>h.SetOf (intKind P w) a S n
 | .ins C dx fs=>H dx = some (.own a)∧fs.length≤1000∧dx≠a∧h.get? a = some (PySem.W.instObj C dx)∧
   ∃ mA,h.Ns1 dx mA∧(∀ f,mx (fs.lookup f) (mA f))∧PySem.Within mA (fs.map (·.1))
 | .own _=>∃ o,h.get? a = some o
 | .xd fs=>∃ mA,h.Ns1 a mA∧∀ f,mx (fs.lookup f) (mA f)
 | .AD lo hi=>∃ t u v,h.get? a = some { cls:=.type "range",data:=.fields #[.int lo t,.int hi u,.int 1 v] }
 | .iK o u=>h.get? a = some o∧bu H h a u
 | .vk ps=>h.get? a = some { cls:=.none,data:=.fields ps }
 | .met f x=>h.get? a = some (PySem.W.methodObj (.ref f) (.ref x))
 | .ext φ=>φ h∧(∃ o,h.get? a = some o)∧∀ h1 h2:Heap,φ h1→(∀ o,h1.get? a = some o→h2.get? a = some o)→φ h2
def fz (H:Hp) (h:Heap):Prop:=∀ a o,H a = some o→bu P w H h a o
end
section
variable {P:Program} {w:World} {H H':Hp} {h h':Heap} {a:Addr} {o:HO}
theorem bu.lt (x:bu P w H h a o):a < h.objs.size:=by
 cases o with
 | lst xs=>obtain ⟨_,_,_,_,e⟩:=x; exact Heap.lt_size e
 | tup xs=>obtain ⟨_,_,_,p⟩:=x; exact p.lt
 | dK aV=>obtain ⟨_,_,_,_,o,_,_,e,_⟩:=x; exact Heap.lt_size e
 | dT aV=>obtain ⟨_,_,_,_,o,_,_,e,_⟩:=x; exact Heap.lt_size e
 | set S n=>obtain ⟨o,_,_,_,e,_⟩:=x; exact Heap.lt_size e
 | ins C dx fs=>obtain ⟨_,_,_,e,_⟩:=x; exact Heap.lt_size e
 | own y=>obtain ⟨_,e⟩:=x; exact Heap.lt_size e
 | xd fs=>obtain ⟨_,⟨_,_,_,e,_⟩,_⟩:=x; exact Heap.lt_size e
 | AD lo hi=>obtain ⟨_,_,_,e⟩:=x; exact Heap.lt_size e
 | iK ob u=>obtain ⟨e,_⟩:=x; exact Heap.lt_size e
 | vk ps=>exact Heap.lt_size (show h.get? a = some _ from x)
 | met f y=>exact Heap.lt_size (show h.get? a = some _ from x)
 | ext φ=>obtain ⟨_,⟨_,e⟩,_⟩:=x; exact Heap.lt_size e
theorem Paired.y8 {α β : Type} {F G : α→β→Prop}:∀ {l₁ : List α} {l₂ : List β},Paired F l₁ l₂→(∀ a b,F a b→G a b)→Paired G l₁ l₂
 | _,_,.nil,_=>.nil
 | _,_,.cons r t,f=>.cons (f _ _ r) (Paired.y8 t f)
theorem bu.d8 (x:bu P w H h a o) (k:∀ b u,(b = a∨H b = some (.own a))→h.get? b = some u→h'.get? b = some u)
  (ho:∀ b,H b = some (.own a)→H' b = some (.own a)) (ht:∀ b xs,H b = some (.tup xs)→H' b = some (.tup xs)):bu P w H' h' a o:=by
 induction o with
 | lst xs=>obtain ⟨z,aQ,n,r,e⟩:=x; exact ⟨z,aQ,n,r,k _ _ (.inl rfl) e⟩
 | tup xs=>obtain ⟨z,aQ,r,ob,e,c⟩:=x; exact ⟨z,aQ,r,ob,k _ _ (.inl rfl) e,c⟩
 | dK aV=>obtain ⟨z,y,vs,r,ob,es,ep,e,c⟩:=x; exact ⟨z,y,vs,r,ob,es,ep,k _ _ (.inl rfl) e,c⟩
 | dT aV=>
  obtain ⟨z,y,xs,r,ob,es,ep,e,c⟩:=x
  exact ⟨z,y,xs,Paired.y8 r fun p q z=>⟨z.1,ht _ _ z.2.1,z.2.2⟩,ob,es,ep,k _ _ (.inl rfl) e,c⟩
 | set S n=>obtain ⟨ob,es,ep,t,e,c⟩:=x; exact ⟨ob,es,ep,t,k _ _ (.inl rfl) e,c⟩
 | ins C dx fs=>
  obtain ⟨d,z,ne,e,mA,⟨od,es,ep,e2,c⟩,r⟩:=x
  exact ⟨ho _ d,z,ne,k _ _ (.inl rfl) e,mA,⟨od,es,ep,k _ _ (.inr d) e2,c⟩,r⟩
 | own y=>obtain ⟨ob,e⟩:=x; exact ⟨ob,k _ _ (.inl rfl) e⟩
 | xd fs=>obtain ⟨mA,⟨od,es,ep,e,c⟩,r⟩:=x; exact ⟨mA,⟨od,es,ep,k _ _ (.inl rfl) e,c⟩,r⟩
 | AD lo hi=>obtain ⟨t,u,v,e⟩:=x; exact ⟨t,u,v,k _ _ (.inl rfl) e⟩
 | iK ob u ih=>obtain ⟨e,q⟩:=x; exact ⟨k _ _ (.inl rfl) e,ih q⟩
 | vk ps=>
  have e:h.get? a = some { cls:=.none,data:=.fields ps }:=x
  show h'.get? a = some { cls:=.none,data:=.fields ps }
  exact k a _ (.inl rfl) e
 | met f y=>
  have e:h.get? a = some (PySem.W.methodObj (.ref f) (.ref y)):=x
  show h'.get? a = some (PySem.W.methodObj (.ref f) (.ref y))
  exact k a _ (.inl rfl) e
 | ext φ=>obtain ⟨p,⟨o,e⟩,st⟩:=x; exact ⟨st _ _ p fun o q=>k _ _ (.inl rfl) q,⟨o,k _ _ (.inl rfl) e⟩,st⟩
theorem fz.lt (x:fz P w H h) (e:H a = some o):a < h.objs.size:=(x a o e).lt
theorem fz.fresh (x:fz P w H h) (e:h.objs.size≤a):H a = none:=by
 cases q:H a with
 | none=>rfl
 | some u=>exact absurd (Nat.lt_of_lt_of_le (x.lt q) e) (Nat.lt_irrefl _)
theorem fz.kept (x:fz P w H h) (k:∀ b u,h.get? b = some u→h'.get? b = some u):fz P w H h':=fun a o e=>
 (x a o e).d8 (fun b u _ q=>k b u q) (fun _ q=>q) fun _ _ q=>q
theorem fz.laid (x:fz P w H h) (k:∀ b u,h.get? b = some u→h'.get? b = some u) (hp:h.objs.size≤a) (new:bu P w (upd H a o) h' a o):fz P w (upd H a o) h':=fun b u e=>by
 have hn:=x.fresh hp
 by_cases hb:b = a
 ·subst hb; rw [ak] at e; cases e; exact new
 ·rw [aq hb] at e
  exact (x b u e).d8 (fun c v _ q=>k c v q) (fun c q=>by rw [aq (aB q hn)]; exact q) fun c xs q=>by rw [aq (aB q hn)]; exact q
end
def Rd (H:Hp) (a:Addr) (u:HO):Prop:=H a = some u∨∃ o,H a = some (.iK o u)
theorem Rd.ok {P:Program} {w:World} {H:Hp} {h:Heap} {a:Addr} {u:HO} (r:Rd H a u) (x:fz P w H h):bu P w H h a u:=by
 rcases r with r | ⟨o,r⟩
 ·exact x a u r
 ·obtain ⟨_,q⟩:=x a _ r
  exact q
def Bg:Option HO→Prop
 | some (.lst _)=>True
 | some (.dK _)=>True
 | some (.dT _)=>True
 | some (.set _ _)=>True
 | some (.ins _ _ _)=>True
 | some (.ext _)=>True
 | _=>False
section
variable {P:Program} {w:World} {H:Hp} {h h':Heap} {x e:Addr} {o':HO}
theorem fz.write (ok:fz P w H h) (mu:Bg (H x)) (he:e = x∨H e = some (.own x)) (k:∀ b u,b≠e→h.get? b = some u→h'.get? b = some u) (yb:∃ u,h'.get? e = some u)
  (new:bu P w (upd H x o') h' x o'):fz P w (upd H x o') h':=fun b u q=>by
 have y3:∀ c y,H c = some (.own y)→c≠x:=fun c y r z=>by subst z; rw [r] at mu; exact mu
 have CM:∀ c xs,H c = some (.tup xs)→c≠x:=fun c xs r z=>by subst z; rw [r] at mu; exact mu
 by_cases hb:b = x
 ·subst hb; rw [ak] at q; cases q; exact new
 ·rw [aq hb] at q
  by_cases xC:b = e
  ·have q':H b = some (.own x):=by
    rcases he with z | z
    ·exact absurd (xC.trans z) hb
    ·rw [xC]; exact z
   rw [q] at q'; cases q'
   obtain ⟨v,hv⟩:=yb
   exact ⟨v,by rw [xC]; exact hv⟩
  ·refine (ok b u q).d8 (fun c v hc r=>k c v ?_ r) (fun c r=>by rw [aq (y3 c b r)]; exact r) fun c xs r=>by rw [aq (CM c xs r)]; exact r
   rcases hc with rfl | hc
   ·exact xC
   ·rintro rfl
    rcases he with z | z
    ·exact y3 c b hc z
    ·rw [hc] at z; cases z; exact hb rfl
end
structure Un (fs ex:List Addr) (H H':Hp) (h h':Heap):Prop where
 keep:∀ b o,h.get? b = some o→H b = none→b∉fs→b∉ex→h'.get? b = some o
 slot:∀ b o,h.get? b = some o→H b = none→b∈fs→b∉ex→∃ sl,h'.get? b = some { o with slots:=sl }
 free:∀ b o,h.get? b = some o→H b = none→b∉ex→H' b = none
 there:∀ b o,h.get? b = some o→b∉ex→∃ o',h'.get? b = some o'
 gF:∀ b xs,H b = some (.tup xs)→H' b = some (.tup xs)
 gs:∀ b o u,H b = some (.iK o u)→H' b = some (.iK o u)
 gH:∀ b ps,H b = some (.vk ps)→∃ more,H' b = some (.vk (ps ++ more))
section
variable {fs zL ex LC:List Addr} {H H1 H2:Hp} {h h1 h2 h':Heap} {a x e:Addr} {o:HO}
theorem Un.any (u:Un fs ex H H1 h h1) {b:Addr} {ob:Obj} (q:h.get? b = some ob) (n:H b = none) (hx:b∉ex):∃ sl,h1.get? b = some { ob with slots:=sl }:=by
 by_cases hb:b∈fs
 ·exact u.slot b ob q n hb hx
 ·exact ⟨ob.slots,u.keep b ob q n hb hx⟩
theorem Un.kept (k:∀ b u,h.get? b = some u→h'.get? b = some u):Un fs ex H H h h':=
 ⟨fun b ob q _ _ _=>k b ob q,fun b ob q _ _ _=>⟨ob.slots,k b ob q⟩,fun _ _ _ n _=>n,fun b ob q _=>⟨ob,k b ob q⟩,fun _ _ q=>q,fun _ _ _ q=>q,fun _ ps q=>⟨#[],by rw [q]; simp⟩⟩
theorem Un.refl:Un fs ex H H h h:=Un.kept fun _ _ q=>q
theorem Un.laid (k:∀ b u,h.get? b = some u→h'.get? b = some u) (hp:h.objs.size≤a) (hn:H a = none):Un fs ex H (upd H a o) h h' where
 keep:=fun b u q _ _ _=>k b u q
 slot:=fun b u q _ _ _=>⟨u.slots,k b u q⟩
 free:=fun b u q n _=>by rw [aq (Nat.ne_of_lt (Nat.lt_of_lt_of_le (Heap.lt_size q) hp))]; exact n
 there:=fun b u q _=>⟨u,k b u q⟩
 gF:=fun b xs q=>by rw [aq (aB q hn)]; exact q
 gs:=fun b u xs q=>by rw [aq (aB q hn)]; exact q
 gH:=fun b ps q=>⟨#[],by rw [aq (aB q hn),q]; simp⟩
theorem Un.write (mu:Bg (H x)) (he:e = x∨H e = some (.own x)) (k:∀ b u,b≠e→h.get? b = some u→h'.get? b = some u) (yb:∃ u,h'.get? e = some u):Un fs ex H (upd H x o) h h':=by
 have hx:∀ b,H b = none→b≠x:=fun b n z=>by subst z; rw [n] at mu; exact mu
 have hb:∀ b,H b = none→b≠e:=fun b n z=>by
  subst z
  rcases he with r | r
  ·exact hx b n r
  ·rw [n] at r; cases r
 have hm:∀ b u,H b = some u→¬ Bg (some u)→b≠x:=fun b u q nm z=>by subst z; rw [q] at mu; exact nm mu
 refine ⟨fun b u q n _ _=>k b u (hb b n) q,fun b u q n _ _=>⟨u.slots,k b u (hb b n) q⟩,fun b u q n _=>by rw [aq (hx b n)]; exact n,fun b u q _=>?_,
  fun b xs q=>by rw [aq (hm b _ q fun z=>z)]; exact q,fun b u xs q=>by rw [aq (hm b _ q fun z=>z)]; exact q,fun b ps q=>⟨#[],by rw [aq (hm b _ q fun z=>z),q]; simp⟩⟩
 by_cases xC:b = e
 ·subst xC; exact yb
 ·exact ⟨u,k b u xC q⟩
end
def Aw (h:Heap) (H:Hp):List Addr:=(List.range h.objs.size).filter fun a=>(H a).isSome
def kB (h:Heap) (H:Hp):Heap:=PySem.W.hideAll h (Aw h H)
theorem pP (h:Heap) (H:Hp):(kB h H).objs.size = h.objs.size:=PySem.W.hideAll_size _ _
theorem sH {h:Heap} {H:Hp} {b:Addr} {o:Obj} (e:h.get? b = some o) (n:H b = none):(kB h H).get? b = some o:=
 PySem.W.hideAll_get _ e fun hm=>by
  have q:(H b).isSome = true:=(List.mem_filter.mp hm).2
  rw [n] at q; simp at q
theorem uv {h:Heap} {H:Hp} {b:Addr} {o:Obj} (e:(kB h H).get? b = some o):h.get? b = some o∧H b = none:=by
 have e':h.get? b = some o:=PySem.W.of_hideAll (Aw h H) e
 refine ⟨e',?_⟩
 cases q:H b with
 | none=>rfl
 | some x=>
  have hm:b∈Aw h H:=List.mem_filter.mpr ⟨List.mem_range.mpr (Heap.lt_size e'),by simp [q]⟩
  have z:(kB h H).get? b = none:=PySem.W.hideAll_none (Aw h H) hm
  rw [z] at e; cases e
def vc (g h:Heap) (L:Addr):List (Addr×Obj):=(List.range h.objs.size).filterMap fun a=>if a = L∨(g.get? a).isSome = true then none else (h.get? a).map fun o=>(a,o)
def rest (g h:Heap) (L d:Addr):List (Addr×Obj):=(vc g h L).filter fun p=>decide (p.1≠d)
end L2
namespace L2
open PySem PySem.Spec PyProof.Rows
structure Mod (K:PySem.W.Frag) (mg:Str→Option Value) (base:Heap):Prop where
 xi:K.In base
 glob:base.Ns mainGlobals mg
 blt:∃ mb,base.Ns builtinsNs mb∧∀ x:Str,x≠ "__name__"→mb x = bootBuiltins x
 nolimit:base.NoLimit
structure Cx where
 prog:Program
 w:World
 K:PySem.W.Frag
 mg:Str→Option Value
 base:Heap
 A:Around
 N:List Str
 s₀ : Shared
 H₀ : Hp
 env:Env
 outer:List Env
 stack:List Env
 ex:List Addr
 fn:Str→Bool
 calm:Bool
 pn:List (Addr×Obj)
 xe:Value→Shared→Prop
def dy (l:List Env):List Addr:=l.filterMap (·.frame)
abbrev Cx.fs (X:Cx):List Addr:=dy X.outer
def Be (sc:Scope) (x:Str):Prop:=sc.names.lookup x = some .local∨sc.names.lookup x = some .cell∨sc.names.lookup x = some .free
def Loc (sc:Scope) (x:Str):Prop:=sc.names.lookup x = some .local∨sc.names.lookup x = some .cell
def Look (env:Env) (h:Heap) (m:Str→Option Value) (x:Str) (u:Value):Prop:=
 (env.kindOf x = some .local∧m x = some u)∨((env.kindOf x = some .cell∨env.kindOf x = some .free)∧∃ c,env.cells.lookup x = some c∧h.IsCell c (some u))
structure Cx.Ok (X:Cx):Prop where
 mod:Mod X.K X.mg X.base
 kind:X.env.scope.kind = .function
 glob:X.env.globals = mainGlobals
 blt:X.env.builtins = builtinsNs
 above:X.s₀.heap.objs.size≤X.env.locals
 inj:∀ x y c,X.env.cells.lookup x = some c→X.env.cells.lookup y = some c→x = y
 has:∀ x,(X.env.kindOf x = some .cell∨X.env.kindOf x = some .free)→∃ c,X.env.cells.lookup x = some c
 ye:∀ x c,X.fn x = true→X.env.cells.lookup x = some c→X.s₀.heap.objs.size≤c
 hd:X.calm = true→X.A.handled = none
 frames:X.A.frames = some X.stack
 j6:X.stack = X.outer∨(X.stack = X.env :: X.outer∧X.env.frame = some X.env.locals)
 DI:∀ b∈X.ex,b≠X.env.locals∧∀ x c,X.env.cells.lookup x = some c→c≠b
 bs:∀ b o,X.base.get? b = some o→X.s₀.heap.get? b = some o∧X.H₀ b = none
 u9:X.base.objs.size≤X.s₀.heap.objs.size
 pA:∀ b o,X.base.get? b = some o→b∉X.ex
 sP:∀ b∈X.ex,b∉X.fs
 fW:X.s₀.heap.FunFrames X.base X.outer
 vS:∀ b∈X.fs,X.H₀ b = none
structure Inv (X:Cx) (pins:List (Addr×Obj)) (σ : List (Option V)) (H:Hp) (s:Shared):Prop where
 ok:X.Ok
 os:s.os = X.s₀.os
 bare:AllBare s.gens
 base:Un X.fs X.ex X.H₀ H X.s₀.heap s.heap
 loc:∃ m,s.heap.Ns X.env.locals m∧∀ (i:Nat) (x:Str) (v:V),X.N[i]? = some x→σ[i]? = some (some v)→Be X.env.scope x→∃ u,RelV v u∧Look X.env s.heap m x u
 cell:∀ x c,X.env.cells.lookup x = some c→∃ v,s.heap.IsCell c v
 free:H X.env.locals = none
 cK:∀ x c,X.env.cells.lookup x = some c→H c = none
 pin:∀ p∈X.pn ++ pins,s.heap.get? p.1 = some p.2∧H p.1 = none∧p.1≠X.env.locals∧p.1∉X.fs∧∀ v,p.2.data≠.cell v
 bb:fz X.prog X.w H s.heap
 len : σ.length = X.N.length
section
variable {X:Cx} {pins:List (Addr×Obj)} {σ : List (Option V)} {H H':Hp} {s:Shared} {h':Heap}
theorem Cx.Ok.CO (ok:X.Ok) {b:Addr} {o:Obj} (e:X.base.get? b = some o):b∉X.fs:=fun hb=>by
 have:=(ok.fW.mem hb).1
 rw [e] at this; cases this
theorem Inv.bs (I:Inv X pins σ H s):∀ b o,X.base.get? b = some o→s.heap.get? b = some o∧H b = none:=fun b o e=>
 ⟨I.base.keep b o (I.ok.bs b o e).1 (I.ok.bs b o e).2 (I.ok.CO e) (I.ok.pA b o e),I.base.free b o (I.ok.bs b o e).1 (I.ok.bs b o e).2 (I.ok.pA b o e)⟩
theorem Inv.bk (I:Inv X pins σ H s):∀ b o,X.base.get? b = some o→s.heap.get? b = some o:=fun b o e=>(I.bs b o e).1
theorem Inv.mod (I:Inv X pins σ H s):Mod X.K X.mg X.base:=I.ok.mod
theorem Inv.ft (I:Inv X pins σ H s):X.K.In s.heap:=I.ok.mod.xi.keeps I.bk
theorem Inv.lt (I:Inv X pins σ H s):X.env.locals < s.heap.objs.size:=let ⟨_,hn,_⟩:=I.loc; hn.lt
theorem Inv.sz (I:Inv X pins σ H s):X.s₀.heap.objs.size≤s.heap.objs.size:=Nat.le_trans I.ok.above (Nat.le_of_lt I.lt)
theorem Inv.CN (I:Inv X pins σ H s) {a:Addr} (h:s.heap.objs.size≤a):a∉X.fs:=fun hb=>by
 obtain ⟨_,o,ho,_⟩:=I.ok.fW.mem hb
 exact absurd (Nat.lt_of_lt_of_le (Heap.lt_size ho) (Nat.le_trans I.sz h)) (Nat.lt_irrefl _)
theorem Inv.u3 (I:Inv X pins σ H s):∀ x c,X.env.cells.lookup x = some c→c≠X.env.locals:=fun x c e z=>by
 obtain ⟨v,o,ho,hd⟩:=I.cell x c e
 obtain ⟨m,⟨o',es,ep,pO,Jj,_⟩,_⟩:=I.loc
 rw [z,pO] at ho; cases ho; rw [Jj] at hd; cases hd
theorem Inv.fW (I:Inv X pins σ H s):s.heap.FunFrames X.base X.outer:=by
 have all:∀ (l:List Env),(∀ b∈dy l,b∈X.fs)→X.s₀.heap.FunFrames X.base l→s.heap.FunFrames X.base l:=by
  intro l
  induction l with
  | nil=>intro _ _; trivial
  | cons env r ih=>
   intro hs hl
   obtain ⟨hk,⟨L,o,hf,hn,ho,hd⟩,hr⟩:=hl
   have hL:L∈X.fs:=hs L (by unfold dy; rw [List.filterMap_cons,hf]; exact List.mem_cons_self)
   obtain ⟨sl,e⟩:=I.base.slot L o ho (I.ok.vS L hL) hL fun z=>I.ok.sP L z hL
   exact ⟨hk,⟨L,_,hf,hn,e,hd⟩,ih (fun b hb=>hs b (by unfold dy; rw [List.filterMap_cons,hf]; exact List.mem_cons_of_mem _ hb)) hr⟩
 exact all X.outer (fun _ hb=>hb) I.ok.fW
theorem Inv.stack (I:Inv X pins σ H s):s.heap.FunFrames X.base X.stack:=by
 rcases I.ok.j6 with e | ⟨e,hf⟩
 ·rw [e]; exact I.fW
 ·rw [e]
  obtain ⟨m,hn,_⟩:=I.loc
  refine .cons (by rw [I.ok.kind]; decide) hf hn ?_ I.fW
  exact Heap.get?_none_of_le (Nat.le_trans I.ok.u9 I.ok.above)
theorem Inv.d7 (I:Inv X pins σ H s):∀ b∈dy X.stack,b∈X.env.locals :: X.fs:=fun b hb=>by
 rcases I.ok.j6 with e | ⟨e,hf⟩
 ·rw [e] at hb; exact List.mem_cons_of_mem _ hb
 ·rw [e] at hb
  unfold dy at hb
  rw [List.filterMap_cons,hf] at hb
  exact hb
theorem Inv.j5 (I:Inv X pins σ H s):∀ b∈dy X.stack,H b = none:=fun b hb=>by
 rcases List.mem_cons.mp (I.d7 b hb) with e | hb
 ·rw [e]; exact I.free
 ·obtain ⟨_,o,ho,_⟩:=I.ok.fW.mem hb
  exact I.base.free b o ho (I.ok.vS b hb) fun z=>I.ok.sP b z hb
theorem Inv.step {g':Array GenState} {t':Nat} {d':Drawn} {ch:List Addr} (I:Inv X pins σ H s)
  (qv:∀ b∈ch,(b∈X.ex∨X.s₀.heap.objs.size≤b)∧b≠X.env.locals∧(∀ x c,X.env.cells.lookup x = some c→c≠b)∧∀ p∈X.pn ++ pins,p.1≠b)
  (keep:∀ b o,b≠X.env.locals→b∉X.fs→b∉ch→s.heap.get? b = some o→H b = none→h'.get? b = some o)
  (slot:∀ b o,b≠X.env.locals→b∈X.fs→b∉ch→s.heap.get? b = some o→H b = none→∃ sl,h'.get? b = some { o with slots:=sl }) (free:∀ b o,b∉ch→s.heap.get? b = some o→H b = none→H' b = none)
  (there:∀ b o,b∉ch→s.heap.get? b = some o→∃ o',h'.get? b = some o')
  (gF:∀ b xs,H b = some (.tup xs)→H' b = some (.tup xs)) (gs:∀ b o u,H b = some (.iK o u)→H' b = some (.iK o u)) (gH:∀ b ps,H b = some (.vk ps)→∃ more,H' b = some (.vk (ps ++ more)))
  (ns:∀ m,s.heap.Ns X.env.locals m→h'.Ns X.env.locals m) (bb:fz X.prog X.w H' h') (hg:AllBare g') :
  Inv X pins σ H' { s with heap:=h',gens:=g',drawn:=d',toks:=t' }:=by
 have Fs:∀ b o,X.s₀.heap.get? b = some o→b≠X.env.locals:=fun b o e=>Nat.ne_of_lt (Nat.lt_of_lt_of_le (Heap.lt_size e) I.ok.above)
 have AN:∀ b o,X.s₀.heap.get? b = some o→b∉X.ex→b∉ch:=fun b o e hx hb=>by
  rcases (qv b hb).1 with z | z
  ·exact hx z
  ·exact absurd (Nat.lt_of_lt_of_le (Heap.lt_size e) z) (Nat.lt_irrefl _)
 have cellK:∀ x c,X.env.cells.lookup x = some c→∀ v,s.heap.IsCell c v→h'.IsCell c v:=fun x c e v ⟨o,ho,hd⟩=>by
  have se:c∉ch:=fun z=>(qv c z).2.2.1 x c e rfl
  by_cases hc:c∈X.fs
  ·obtain ⟨sl,q⟩:=slot c o (I.u3 x c e) hc se ho (I.cK x c e)
   exact ⟨_,q,hd⟩
  ·exact ⟨o,keep c o (I.u3 x c e) hc se ho (I.cK x c e),hd⟩
 refine ⟨I.ok,I.os,hg,⟨fun b o e n hb hx=>?_,fun b o e n hb hx=>?_,fun b o e n hx=>?_,fun b o e hx=>?_,fun b xs e=>gF b xs (I.base.gF b xs e),fun b o xs e=>gs b o xs (I.base.gs b o xs e),fun b ps e=>?_⟩,?_,fun x c e=>?_,?_,fun x c e=>?_,fun p hp=>?_,bb,I.len⟩
 ·exact keep b o (Fs b o e) hb (AN b o e hx) (I.base.keep b o e n hb hx) (I.base.free b o e n hx)
 ·obtain ⟨sl,e1⟩:=I.base.slot b o e n hb hx
  obtain ⟨BQ,e2⟩:=slot b _ (Fs b o e) hb (AN b o e hx) e1 (I.base.free b o e n hx)
  exact ⟨BQ,e2⟩
 ·obtain ⟨o',e1⟩:=I.base.there b o e hx
  exact free b o' (AN b o e hx) e1 (I.base.free b o e n hx)
 ·obtain ⟨o',e1⟩:=I.base.there b o e hx
  exact there b o' (AN b o e hx) e1
 ·obtain ⟨m1,e1⟩:=I.base.gH b ps e
  obtain ⟨m2,e2⟩:=gH b _ e1
  exact ⟨m1 ++ m2,by rw [e2,Array.append_assoc]⟩
 ·obtain ⟨m,hn,hl⟩:=I.loc
  refine ⟨m,ns m hn,fun i x v e1 e2 e3=>?_⟩
  obtain ⟨u,r,l⟩:=hl i x v e1 e2 e3
  refine ⟨u,r,?_⟩
  rcases l with l | ⟨k,c,e,z⟩
  ·exact .inl l
  ·exact .inr ⟨k,c,e,cellK x c e _ z⟩
 ·obtain ⟨v,z⟩:=I.cell x c e
  exact ⟨v,cellK x c e v z⟩
 ·obtain ⟨m,⟨o,_,_,ho,_⟩,_⟩:=I.loc
  exact free _ o (fun z=>(qv _ z).2.1 rfl) ho I.free
 ·obtain ⟨v,o,ho,hd⟩:=I.cell x c e
  exact free c o (fun z=>(qv c z).2.2.1 x c e rfl) ho (I.cK x c e)
 ·obtain ⟨e,n,ne,nf,d⟩:=I.pin p hp
  have se:p.1∉ch:=fun z=>(qv p.1 z).2.2.2 p hp rfl
  exact ⟨keep p.1 p.2 ne nf se e n,free p.1 p.2 se e n,ne,nf,d⟩
theorem Inv.un {t':Nat} (I:Inv X pins σ H s) (u:Un X.fs [] H H' s.heap h') (bb:fz X.prog X.w H' h'):Inv X pins σ H' { s with heap:=h',toks:=t' }:=by
 obtain ⟨m,⟨o,es,ep,ho,r⟩,_⟩:=id I.loc
 obtain ⟨sl,hL⟩:=u.any ho I.free (by simp)
 exact I.step (g':=s.gens) (d':=s.drawn) (ch:=[]) (fun _ z=>nomatch z) (fun b o _ hb _ e n=>u.keep b o e n hb (by simp)) (fun b o _ hb _ e n=>u.slot b o e n hb (by simp)) (fun b o _ e n=>u.free b o e n (by simp)) (fun b o _ e=>u.there b o e (by simp)) u.gF u.gs u.gH (fun m' hm=>by
  obtain ⟨o',DJ,DK,pO,r'⟩:=hm
  rw [ho] at pO; cases pO
  exact ⟨_,DJ,DK,hL,r'⟩) bb I.bare
theorem Inv.call {g':Array GenState} {t':Nat} {d':Drawn} {ch:List Addr} (I:Inv X pins σ H s) (u:Un (dy X.stack) ch H H' s.heap h') (bb:fz X.prog X.w H' h') (hg:AllBare g')
  (qv:∀ b∈ch,(b∈X.ex∨X.s₀.heap.objs.size≤b)∧b≠X.env.locals∧(∀ x c,X.env.cells.lookup x = some c→c≠b)∧∀ p∈X.pn ++ pins,p.1≠b) :
  Inv X pins σ H' { s with heap:=h',gens:=g',drawn:=d',toks:=t' }:=by
 obtain ⟨m,⟨o,es,ep,ho,r⟩,_⟩:=id I.loc
 obtain ⟨sl,hL⟩:=u.any ho I.free fun z=>(qv _ z).2.1 rfl
 exact I.step (ch:=ch) qv (fun b o hL hb hc e n=>u.keep b o e n (fun z=>(List.mem_cons.mp (I.d7 b z)).elim hL hb) hc) (fun b o _ _ hc e n=>u.any e n hc) (fun b o hc e n=>u.free b o e n hc) (fun b o hc e=>u.there b o e hc) u.gF u.gs u.gH (fun m' hm=>by
  obtain ⟨o',DJ,DK,pO,r'⟩:=hm
  rw [ho] at pO; cases pO
  exact ⟨_,DJ,DK,hL,r'⟩) bb hg
theorem Inv.turned {t':Nat} {it:Addr} (I:Inv X pins σ H s) (k:∀ b o,b≠it→s.heap.get? b = some o→h'.get? b = some o) (hn:H it = none) (hL:it≠X.env.locals)
  (h1:it∈X.ex∨X.s₀.heap.objs.size≤it) (h2:∀ x c,X.env.cells.lookup x = some c→c≠it) (h3:∀ p∈X.pn ++ pins,p.1≠it):Inv X pins σ H { s with heap:=h',toks:=t' }:=by
 have Fo:∀ b u,H b = some u→b≠it:=fun b u e z=>by rw [z,hn] at e; cases e
 refine I.step (g':=s.gens) (d':=s.drawn) (ch:=[it]) (fun b hb=>?_) (fun b o _ _ hc e _=>k b o (fun z=>hc (by simp [z])) e) (fun b o _ _ hc e _=>⟨o.slots,k b o (fun z=>hc (by simp [z])) e⟩) (fun _ _ _ _ n=>n)
  (fun b o hc e=>⟨o,k b o (fun z=>hc (by simp [z])) e⟩) (fun _ _ e=>e) (fun _ _ _ e=>e) (fun b ps e=>⟨#[],by rw [e]; simp⟩) (fun m hm=>?_) (fun b u e=>?_) I.bare
 ·have e:b = it:=by simpa using hb
  subst e
  exact ⟨h1,hL,h2,h3⟩
 ·obtain ⟨o,es,ep,ho,r⟩:=hm
  exact ⟨o,es,ep,k _ o (Ne.symm hL) ho,r⟩
 ·refine (I.bb b u e).d8 (fun c v hc q=>k c v ?_ q) (fun _ q=>q) fun _ _ q=>q
  rcases hc with z | z
  ·rw [z]; exact Fo b u e
  ·exact Fo c _ z
theorem Inv.tok (I:Inv X pins σ H s) (t:Nat):Inv X pins σ H { s with toks:=t }:=I.un (h':=s.heap) (t':=t) Un.refl I.bb
theorem Inv.kept {t':Nat} (I:Inv X pins σ H s) (k:∀ b u,s.heap.get? b = some u→h'.get? b = some u):Inv X pins σ H { s with heap:=h',toks:=t' }:=I.un (Un.kept k) (I.bb.kept k)
theorem Inv.laid {a:Addr} {o:HO} {t':Nat} (I:Inv X pins σ H s) (k:∀ b u,s.heap.get? b = some u→h'.get? b = some u) (hp:s.heap.objs.size≤a) (new:bu X.prog X.w (upd H a o) h' a o) :
  Inv X pins σ (upd H a o) { s with heap:=h',toks:=t' }:=I.un (Un.laid k hp (I.bb.fresh hp)) (I.bb.laid k hp new)
theorem Inv.write {x e:Addr} {o:HO} {t':Nat} (I:Inv X pins σ H s) (mu:Bg (H x)) (he:e = x∨H e = some (.own x)) (k:∀ b u,b≠e→s.heap.get? b = some u→h'.get? b = some u) (yb:∃ u,h'.get? e = some u)
  (new:bu X.prog X.w (upd H x o) h' x o):Inv X pins σ (upd H x o) { s with heap:=h',toks:=t' }:=I.un (Un.write mu he k yb) (I.bb.write mu he k yb new)
theorem Inv.fJ {lD:List (Addr×Obj)} (I:Inv X pins σ H s) (h:∀ p∈lD,s.heap.get? p.1 = some p.2∧H p.1 = none∧p.1≠X.env.locals∧p.1∉X.fs∧∀ v,p.2.data≠.cell v):Inv X lD σ H s:=
 ⟨I.ok,I.os,I.bare,I.base,I.loc,I.cell,I.free,I.cK,fun p hp=>(List.mem_append.mp hp).elim (fun z=>I.pin p (List.mem_append_left _ z)) (h p),I.bb,I.len⟩
theorem iE {N:List Str} (hN:N.Nodup) {i j:Nat} {x:Str} (a:N[i]? = some x) (b:N[j]? = some x):i = j:=by
 obtain ⟨h1,e1⟩:=List.getElem?_eq_some_iff.mp a
 obtain ⟨h2,e2⟩:=List.getElem?_eq_some_iff.mp b
 exact (List.getElem_inj hN).mp (e1.trans e2.symm)
theorem gi {M:Model} {A:Around} {E:Value→Shared→Prop} {i:Nat} {x:Str} {v:V} {u:Value} {Q:Unit→Shared→Prop} (I:Inv X pins σ H s) (hN:X.N.Nodup) (hi:X.N[i]? = some x) (hx:Loc X.env.scope x) (r:RelV v u)
  (h:∀ s',Inv X pins (σ.set i (some v)) H s'→(∃ a,Heap.SameBut a s.heap s'.heap∧(a = X.env.locals∨X.env.cells.lookup x = some a))→Q () s') (hf:X.fn x = true∨X.env.scope.names.lookup x = some .local:=by first | exact .inl rfl | exact .inr rfl | assumption):wpAny M A (storeName X.env x u) Q E s:=by
 obtain ⟨m,hn,hl⟩:=id I.loc
 have xB:(X.env.scope.kind == .class || (X.env.scope.kind == .module && X.env.locals != X.env.globals)) = false:=by rw [I.ok.kind]; rfl
 have hiσ : i < σ.length:=by rw [I.len]; exact (List.getElem?_eq_some_iff.mp hi).1
 have u3:=I.u3
 have tracked:∀ {a:Addr} {h':Heap},(∃ o,s.heap.get? a = some o∧H a = none)→Heap.SameBut a s.heap h'→fz X.prog X.w H h':=fun {a h'} ha hs b ob e=>by
  obtain ⟨_,_,iI⟩:=ha
  refine (I.bb b ob e).d8 (fun c w' hc q=>(hs.2 c ?_).trans q) (fun _ q=>q) fun _ _ q=>q
  rintro rfl
  rcases hc with rfl | hc
  ·rw [iI] at e; cases e
  ·rw [iI] at hc; cases hc
 rcases hx with hk | hk
 ·refine wpAny_storeName_local hk hn (fun h' x9 hs=>?_) xB
  obtain ⟨oL,_,_,FF,_⟩:=id hn
  refine h _ ⟨I.ok,I.os,I.bare,⟨fun b o e n hb hx=>?_,fun b o e n hb hx=>?_,I.base.free,fun b o e hx=>?_,I.base.gF,I.base.gs,I.base.gH⟩,⟨_,x9,fun j y v' e1 e2 e3=>?_⟩,fun y c e=>?_,I.free,I.cK,fun p hp=>?_,tracked ⟨oL,FF,I.free⟩ hs,by simpa using I.len⟩ ⟨_,hs,.inl rfl⟩
  ·exact (hs.2 b (Nat.ne_of_lt (Nat.lt_of_lt_of_le (Heap.lt_size e) I.ok.above))).trans (I.base.keep b o e n hb hx)
  ·obtain ⟨sl,e1⟩:=I.base.slot b o e n hb hx
   exact ⟨sl,(hs.2 b (Nat.ne_of_lt (Nat.lt_of_lt_of_le (Heap.lt_size e) I.ok.above))).trans e1⟩
  ·obtain ⟨o',e1⟩:=I.base.there b o e hx
   exact ⟨o',(hs.2 b (Nat.ne_of_lt (Nat.lt_of_lt_of_le (Heap.lt_size e) I.ok.above))).trans e1⟩
  ·by_cases hj:j = i
   ·subst hj
    rw [hi] at e1; cases e1
    rw [List.getElem?_set_self hiσ] at e2
    cases e2
    exact ⟨u,r,.inl ⟨hk,by simp⟩⟩
   ·rw [List.getElem?_set_ne (Ne.symm hj)] at e2
    obtain ⟨u',r',q⟩:=hl j y v' e1 e2 e3
    refine ⟨u',r',?_⟩
    rcases q with ⟨k,e⟩ | ⟨k,c,e,z⟩
    ·refine .inl ⟨k,?_⟩
     have:y≠x:=fun e=>hj (iE hN e1 (e▸hi))
     simp [this,e]
    ·exact .inr ⟨k,c,e,z.sameBut hs (u3 y c e)⟩
  ·obtain ⟨w',z⟩:=I.cell y c e
   exact ⟨w',z.sameBut hs (u3 y c e)⟩
  ·obtain ⟨e,n,ne,nf,d⟩:=I.pin p hp
   exact ⟨(hs.2 p.1 ne).trans e,n,ne,nf,d⟩
 ·have Ds:X.fn x = true:=by
   rcases hf with z | z
   ·exact z
   ·rw [z] at hk; cases hk
  obtain ⟨c,hc⟩:=I.ok.has x (.inl hk)
  obtain ⟨w',z⟩:=I.cell x c hc
  refine wpAny_storeName_cell I.ok.kind hk hc z (fun h' A1 hs=>?_)
  obtain ⟨oc,FE,Dh⟩:=id z
  refine h { s with heap:=h' } ⟨I.ok,I.os,I.bare,⟨fun b o e n hb hx=>?_,fun b o e n hb hx=>?_,I.base.free,fun b o e hx=>?_,I.base.gF,I.base.gs,I.base.gH⟩,⟨m,hn.sameBut hs (Ne.symm (u3 x c hc)),fun j y v' e1 e2 e3=>?_⟩,fun y c' e=>?_,I.free,I.cK,fun p hp=>?_,tracked ⟨oc,FE,I.cK x c hc⟩ hs,by simpa using I.len⟩ ⟨c,hs,.inr hc⟩
  ·exact (hs.2 b (Nat.ne_of_lt (Nat.lt_of_lt_of_le (Heap.lt_size e) (I.ok.ye x c Ds hc)))).trans (I.base.keep b o e n hb hx)
  ·obtain ⟨sl,e1⟩:=I.base.slot b o e n hb hx
   exact ⟨sl,(hs.2 b (Nat.ne_of_lt (Nat.lt_of_lt_of_le (Heap.lt_size e) (I.ok.ye x c Ds hc)))).trans e1⟩
  ·obtain ⟨o',e1⟩:=I.base.there b o e hx
   exact ⟨o',(hs.2 b (Nat.ne_of_lt (Nat.lt_of_lt_of_le (Heap.lt_size e) (I.ok.ye x c Ds hc)))).trans e1⟩
  ·by_cases hj:j = i
   ·subst hj
    rw [hi] at e1; cases e1
    rw [List.getElem?_set_self hiσ] at e2
    cases e2
    exact ⟨u,r,.inr ⟨.inl hk,c,hc,A1⟩⟩
   ·rw [List.getElem?_set_ne (Ne.symm hj)] at e2
    obtain ⟨u',r',q⟩:=hl j y v' e1 e2 e3
    refine ⟨u',r',?_⟩
    rcases q with q | ⟨k,c',e,z'⟩
    ·exact .inl q
    ·refine .inr ⟨k,c',e,z'.sameBut hs ?_⟩
     rintro rfl
     exact hj (iE hN e1 (I.ok.inj _ _ _ e hc▸hi))
  ·by_cases FU:c' = c
   ·subst FU; exact ⟨_,A1⟩
   ·obtain ⟨w2,z2⟩:=I.cell y c' e
    exact ⟨w2,z2.sameBut hs FU⟩
  ·obtain ⟨e,n,ne,nf,d⟩:=I.pin p hp
   refine ⟨(hs.2 p.1 ?_).trans e,n,ne,nf,d⟩
   intro q
   rw [q,FE] at e
   have q':oc = p.2:=Option.some.inj e
   exact d w' (by rw [← q']; exact Dh)
theorem h7 {M:Model} {A:Around} {E:Value→Shared→Prop} {i:Nat} {x:Str} {v:V} {u:Value} {Q:Unit→Shared→Prop} (I:Inv X pins σ H s) (hN:X.N.Nodup) (hi:X.N[i]? = some x) (hx:Loc X.env.scope x) (r:RelV v u)
  (h:∀ s',Inv X pins (σ.set i (some v)) H s'→Q () s') (hf:X.fn x = true∨X.env.scope.names.lookup x = some .local:=by first | exact .inl rfl | exact .inr rfl | assumption):wpAny M A (storeName X.env x u) Q E s:=
 gi I hN hi hx r (fun s' I' _=>h s' I') hf
theorem Inv.oM {s':Shared} {ch:List Addr} (I:Inv X pins σ H s) (ho:s'.os = s.os) (u:Un (dy X.stack) ch H H' s.heap s'.heap) (bb:fz X.prog X.w H' s'.heap) (hg:AllBare s'.gens)
  (qv:∀ b∈ch,(b∈X.ex∨X.s₀.heap.objs.size≤b)∧b≠X.env.locals∧(∀ x c,X.env.cells.lookup x = some c→c≠b)∧∀ p∈X.pn ++ pins,p.1≠b):Inv X pins σ H' s':=by
 obtain ⟨h',g',d',t',o'⟩:=s'
 have e:o' = s.os:=ho
 subst e
 exact I.call (g':=g') (t':=t') (d':=d') u bb hg qv
end
abbrev XK:=Value→Option Addr→Hp→Prop
abbrev St:=List (Option V)
abbrev VK:=V→Hp→Prop
abbrev TE:=St→Hp→VK→Prop
abbrev TT:=St→Hp→(Bool→Hp→Prop)→Prop
abbrev TA:=St→Hp→(List V→Hp→Prop)→Prop
structure Ends where
 nx:St→Hp→Prop
 rt:VK
 bk:St→Hp→Prop:=fun _ _=>False
 ct:St→Hp→Prop:=fun _ _=>False
abbrev TS:=Ends→St→Hp→Prop
def EP (X:Cx) (pins:List (Addr×Obj)) (σ : St) (Q:VK) (u:Value) (s':Shared):Prop:=∃ v H',Inv X pins σ H' s'∧RelV v u∧Q v H'
def TP (X:Cx) (pins:List (Addr×Obj)) (σ : St) (Q:Bool→Hp→Prop) (b:Bool) (s':Shared):Prop:=∃ H',Inv X pins σ H' s'∧Q b H'
def AP (X:Cx) (pins:List (Addr×Obj)) (σ : St) (Q:List V→Hp→Prop) (us:List Value) (s':Shared):Prop:=∃ vs H',Inv X pins σ H' s'∧Vals vs us∧Q vs H'
def SP (X:Cx) (pins:List (Addr×Obj)) (D:Ends) (f:Flow) (s':Shared):Prop:=
 match f with
 | .next=>∃ σ' H',Inv X pins σ' H' s'∧D.nx σ' H'
 | .brk=>∃ σ' H',Inv X pins σ' H' s'∧D.bk σ' H'
 | .cont=>∃ σ' H',Inv X pins σ' H' s'∧D.ct σ' H'
 | .ret u=>∃ v σ' H',Inv X pins σ' H' s'∧RelV v u∧D.rt v H'
def PE (X:Cx) (e:Expr) (t:TE):Prop:=
 ∀ (pins:List (Addr×Obj)) (s:Shared) (σ : St) (H:Hp) (Q:VK),Inv X pins σ H s→t σ H Q→wpAny (model X.prog X.w) X.A (eval e X.env) (EP X pins σ Q) X.xe s
def PT (X:Cx) (e:Expr) (t:TT):Prop:=
 ∀ (pins:List (Addr×Obj)) (s:Shared) (σ : St) (H:Hp) (Q:Bool→Hp→Prop),Inv X pins σ H s→t σ H Q→wpAny (model X.prog X.w) X.A (isTrue e X.env (eval e X.env)) (TP X pins σ Q) X.xe s
def PW (X:Cx) (e:Expr) (t:TT):Prop:=
 ∀ (whole:Sem Value) (pins:List (Addr×Obj)) (s:Shared) (σ : St) (H:Hp) (Q:Bool→Hp→Prop),Inv X pins σ H s→t σ H Q→wpAny (model X.prog X.w) X.A (isTrue e X.env whole) (TP X pins σ Q) X.xe s
theorem PW.pt {X:Cx} {e:Expr} {t:TT} (h:PW X e t):PT X e t:=h _
def PA (X:Cx) (es:List Expr) (t:TA):Prop:=
 ∀ (pos:Pos) (pins:List (Addr×Obj)) (s:Shared) (σ : St) (H:Hp) (Q:List V→Hp→Prop),Inv X pins σ H s→t σ H Q→wpAny (model X.prog X.w) X.A (spliced (backTo pos (starEach es X.env))) (AP X pins σ Q) X.xe s
def PS (X:Cx) (st:Stmt) (t:TS):Prop:=
 ∀ (pins:List (Addr×Obj)) (s:Shared) (σ : St) (H:Hp) (D:Ends),Inv X pins σ H s→t D σ H→wpAny (model X.prog X.w) X.A (exec st X.env) (SP X pins D) X.xe s
def my (X:Cx) (st:List Stmt) (t:TS):Prop:=
 ∀ (pins:List (Addr×Obj)) (s:Shared) (σ : St) (H:Hp) (D:Ends),Inv X pins σ H s→t D σ H→wpAny (model X.prog X.w) X.A (execs st X.env) (SP X pins D) X.xe s
theorem cm {α : Type} {t:Sem α} {Q Q' : α→Shared→Prop} {M:Model} {A:Around} {E:Value→Shared→Prop} {s:Shared} (h:wpAny M A t Q E s) (hQ:∀ a s,Q a s→Q' a s):wpAny M A t Q' E s:=wpAny_mono h hQ fun _ _ x=>x
end L2
namespace L2
open PySem PySem.Spec PyProof.Rows
section
variable {X:Cx}
theorem bin {a b:Expr} {ta tb:TE} (ha:PE X a ta) (hb:PE X b tb) {pins:List (Addr×Obj)} {s:Shared} {σ : St} {H:Hp} {R:V→V→Hp→Prop} (I:Inv X pins σ H s) (h:ta σ H fun x H1=>tb σ H1 fun y H2=>R x y H2)
  {α : Type} {Q : α→Shared→Prop} {f:Value→Value→Sem α}
  (hf:∀ v u s2 x y H2,Inv X pins σ H2 s2→RelV x v→RelV y u→R x y H2→wpAny (model X.prog X.w) X.A (f v u) Q X.xe s2) :
  wpAny (model X.prog X.w) X.A (eval a X.env) (fun v s₁=>wpAny (model X.prog X.w) X.A (eval b X.env) (fun u s₂=>wpAny (model X.prog X.w) X.A (f v u) Q X.xe s₂) X.xe s₁) X.xe s:=by
 refine cm (ha pins s σ H _ I h) fun v s1 ⟨x,H1,I1,r1,q1⟩=>?_
 refine cm (hb pins s1 σ H1 _ I1 q1) fun u s2 ⟨y,H2,I2,r2,q2⟩=>?_
 exact hf v u s2 x y H2 I2 r1 r2 q2
def ud (i:Nat):TE:=fun σ H Q=>∃ v,σ[i]? = some (some v)∧Q v H
def tC (v:V):TE:=fun _ H Q=>Q v H
theorem wQ {i:Nat} {x:Str} {pos:Pos} (hN:X.N[i]? = some x) (hv:Be X.env.scope x) (hd:(x == ("__debug__" : Str)) = false:=by decide) (lT:(x == ("__classdict__" : Str)) = false:=by decide):PE X (.Name x pos) (ud i):=by
 intro pins s σ H Q I h
 obtain ⟨v,e,h⟩:=h
 obtain ⟨m,hn,hl⟩:=I.loc
 obtain ⟨u,r,l⟩:=hl i x v hN e hv
 have fin:EP X pins σ Q u s:=⟨v,H,I,r,h⟩
 rcases l with ⟨hk,hm⟩ | ⟨hk,c,hc,vQ⟩
 ·exact wpAny_Name (wpAny_loadName_local I.ok.kind hk hn hm fin) hd
 ·rcases hk with hk | hk
  ·exact wpAny_Name (wpAny_loadName_cell I.ok.kind hk hc vQ fin) hd
  ·exact wpAny_Name (wpAny_loadName_free I.ok.kind hk hc vQ fin lT) hd
theorem aj {i j pos}:PE X (.Constant (.int i) j pos) (tC (.int i)):=fun _ _ _ H _ I h=>wpAny_Constant_int ⟨.int i,H,I.tok _,⟨_,rfl⟩,h⟩
theorem ey {b j pos}:PE X (.Constant (.bool b) j pos) (tC (.bl b)):=fun _ _ _ H _ I h=>Constant_bool ⟨.bl b,H,I,rfl,h⟩
theorem iw {j pos}:PE X (.Constant .none j pos) (tC .bS):=fun _ _ _ H _ I h=>Constant_none ⟨.bS,H,I,rfl,h⟩
theorem bI {x j pos}:PE X (.Constant (.str x) j pos) (tC (.str x)):=fun _ _ _ H _ I h=>Calls.Constant_str ⟨.str x,H,I.tok _,⟨_,rfl⟩,h⟩
def Gl (X:Cx) (x:Str):Prop:=X.env.kindOf x = some .globalImplicit
theorem dI {E:Value→Shared→Prop} {pins:List (Addr×Obj)} {s:Shared} {σ : St} {H:Hp} {x:Str} {u:Value} {pos:Pos} {Q:Value→Shared→Prop} (I:Inv X pins σ H s) (hg:Gl X x) (hm:X.mg x = some u) (h:Q u s)
  (hd:(x == ("__debug__" : Str)) = false:=by decide):wpAny (model X.prog X.w) X.A (eval (.Name x pos) X.env) Q E s:=
 Calls.Name_function_global I.ok.kind hg (Calls.loadGlobal_global (by rw [I.ok.glob]; exact I.mod.glob.keeps I.bk) hm h) hd
theorem iG {E:Value→Shared→Prop} {pins:List (Addr×Obj)} {s:Shared} {σ : St} {H:Hp} {x:Str} {u:Value} {pos:Pos} {Q:Value→Shared→Prop} (I:Inv X pins σ H s) (hg:Gl X x) (hm:X.mg x = none) (hv:bootBuiltins x = some u) (h:Q u s)
  (hn:x≠ "__name__":=by decide) (hd:(x == ("__debug__" : Str)) = false:=by decide):wpAny (model X.prog X.w) X.A (eval (.Name x pos) X.env) Q E s:=by
 obtain ⟨mb,h1,h2⟩:=I.mod.blt
 exact Calls.Name_function_global I.ok.kind hg (Calls.loadGlobal_builtin (by rw [I.ok.glob]; exact I.mod.glob.keeps I.bk) hm (by rw [I.ok.blt]; exact h1.keeps I.bk) ((h2 x hn).trans hv) h) hd
theorem aZ {x:Str} {v:V} {u:Value} {pos:Pos} (hg:Gl X x) (hm:X.mg x = some u) (r:RelV v u) (hd:(x == ("__debug__" : Str)) = false:=by decide):PE X (.Name x pos) (tC v):=
 fun _ _ _ H _ I h=>dI I hg hm ⟨v,H,I,r,h⟩ hd
theorem fM {x:Str} {v:V} {u:Value} {pos:Pos} (hg:Gl X x) (hm:X.mg x = none) (hv:bootBuiltins x = some u) (r:RelV v u) (hn:x≠ "__name__":=by decide) (hd:(x == ("__debug__" : Str)) = false:=by decide):PE X (.Name x pos) (tC v):=
 fun _ _ _ H _ I h=>iG I hg hm hv ⟨v,H,I,r,h⟩ hn hd
def Az (ta tb:TE) (k:Int→Int→Hp→Prop):St→Hp→Prop:=fun σ H=>ta σ H fun x H1=>tb σ H1 fun y H2=>∃ i j,x = .int i∧y = .int j∧k i j H2
def GV (ta tb:TE):TE:=fun σ H Q=>Az ta tb (fun i j H2=>Q (.int (i + j)) H2) σ H
def GI (ta tb:TE):TE:=fun σ H Q=>Az ta tb (fun i j H2=>Q (.int (i - j)) H2) σ H
def GN (ta tb:TE):TE:=fun σ H Q=>Az ta tb (fun i j H2=>(-(2 ^ 64) < i∧i < 2 ^ 64)∧Q (.int (i * j)) H2) σ H
variable {a b:Expr} {ta tb:TE} {pos:Pos}
def PC (X:Cx) (op:CmpOp) (a b:Expr) (t:TE):Prop:=
 ∀ (pins:List (Addr×Obj)) (s:Shared) (σ : St) (H:Hp) (Q:VK),Inv X pins σ H s→t σ H Q→
  wpAny (model X.prog X.w) X.A (eval a X.env) (fun v s₁=>wpAny (model X.prog X.w) X.A (eval b X.env) (fun u s₂=>wpAny (model X.prog X.w) X.A (compareOp op v u) (EP X pins σ Q) X.xe s₂) X.xe s₁) X.xe s
theorem lK (b:Expr) {op:CmpOp} (h:op≠.In) (h2:op≠.NotIn):behindInMarks op b = false:=by
 have e1:(op == CmpOp.In) = false:=by cases op <;> first | rfl | exact absurd rfl h
 have e2:(op == CmpOp.NotIn) = false:=by cases op <;> first | rfl | exact absurd rfl h2
 cases b <;> simp [behindInMarks,e1,e2]
def oY (p:Int→Int→Bool) (ta tb:TE):TE:=fun σ H Q=>Az ta tb (fun i j H2=>Q (.bl (p i j)) H2) σ H
abbrev K0:TE→TE→TE:=oY fun i j=>decide (i < j)
abbrev K1:TE→TE→TE:=oY fun i j=>decide (i≤j)
abbrev K3:TE→TE→TE:=oY fun i j=>decide (j < i)
abbrev K4:TE→TE→TE:=oY fun i j=>decide (j≤i)
abbrev GP:TE→TE→TE:=oY fun i j=>decide (i = j)
abbrev GL:TE→TE→TE:=oY fun i j=>!decide (i = j)
def yB (ta:TE):TE:=fun σ H Q=>ta σ H fun x H1=>Q (.bl (decide (x = .bS))) H1
def vp (ta:TE):TE:=fun σ H Q=>ta σ H fun x H1=>Q (.bl (!decide (x = .bS))) H1
theorem RelV.lJ {x:V} {v:Value} (r:RelV x v):(v == Value.none) = decide (x = .bS):=by
 cases x with
 | bS=>cases r; rfl
 | bl _=>cases r; rfl
 | int _=>obtain ⟨t,rfl⟩:=r; rfl
 | str _=>obtain ⟨t,rfl⟩:=r; rfl
 | mE _=>obtain ⟨t,rfl⟩:=r; rfl
 | mD _=>obtain ⟨t,rfl⟩:=r; rfl
 | ref _=>cases r; rfl
 | ty _=>cases r; rfl
theorem rV {j pos'} (ha:PE X a ta):PC X .Is a (.Constant .none j pos') (yB ta):=by
 intro pins s σ H Q I h
 refine cm (ha pins s σ H _ I h) fun v s1 ⟨x,H1,I1,r1,q1⟩=>?_
 exact Constant_none (is_none_gen ⟨.bl _,H1,I1,by rw [r1.lJ]; rfl,q1⟩)
theorem uo {j pos'} (ha:PE X a ta):PC X .IsNot a (.Constant .none j pos') (vp ta):=by
 intro pins s σ H Q I h
 refine cm (ha pins s σ H _ I h) fun v s1 ⟨x,H1,I1,r1,q1⟩=>?_
 exact Constant_none (isnot_none_gen ⟨.bl _,H1,I1,by rw [r1.lJ]; rfl,q1⟩)
def tB (t:TE):TT:=fun σ H Q=>t σ H fun x H1=>∃ c,x = .bl c∧Q c H1
theorem wW {op:CmpOp} {t:TE} (h:PC X op a b t) (h1:behindInMarks op b = false:=by first | exact lK _ (by decide) (by decide) | rfl):PE X (.Compare a [op] [b] pos) t:=fun pins s σ H Q I hw=>wpAny_Compare1 (h pins s σ H Q I hw) h1
theorem rK {op:CmpOp} {t:TE} (h:PC X op a b t) (h1:behindInMarks op b = false:=by first | exact lK _ (by decide) (by decide) | rfl):PT X (.Compare a [op] [b] pos) (tB t):=by
 intro pins s σ H Q I hw
 refine wpAny_isTrue_Compare1 (cm (h pins s σ H _ I hw) fun v s1 h1=>cm h1 fun u s2 h2=>cm h2 fun c s3 ⟨x,H1,I1,r1,q1⟩=>?_) h1
 obtain ⟨d,rfl,q⟩:=q1
 cases r1
 exact wpAny_truthy_bool ⟨H1,I1,q⟩
theorem cz {e:Expr} {t:TE} (h:PE X e t) (he:∀ whole,isTrue e X.env whole = (do let v ← whole; standAt e.pos; holding [v] (truthy v)):=by intro _; rfl):PT X e (tB t):=by
 intro pins s σ H Q I hw
 refine isTrue_plain (cm (h pins s σ H _ I hw) fun v s1 ⟨x,H1,I1,r1,q1⟩=>?_) (he _)
 obtain ⟨d,rfl,q⟩:=q1
 cases r1
 exact wpAny_truthy_bool ⟨H1,I1,q⟩
variable {tA Ay:TT} {rest:List Expr}
def yE (t u:TT):TT:=fun σ H Q=>t σ H fun c H1=>if c = true then u σ H1 Q else Q false H1
def EY (t u:TT):TT:=fun σ H Q=>t σ H fun c H1=>if c = true then Q true H1 else u σ H1 Q
def yt (t:TT):TT:=fun σ H Q=>t σ H fun c H1=>Q (!c) H1
theorem pw_and1 (ha:PT X a tA):PW X (.BoolOp .And [a] pos) tA:=by
 intro wh pins s σ H Q I h
 refine isTrue_and (cm (ha pins s σ H Q I h) fun c s1 e=>?_)
 cases c with
 | true=>exact isTrue_and_nil e
 | false=>exact e
theorem pw_or1 (ha:PT X a tA):PW X (.BoolOp .Or [a] pos) tA:=by
 intro wh pins s σ H Q I h
 refine isTrue_or (cm (ha pins s σ H Q I h) fun c s1 e=>?_)
 cases c with
 | false=>exact isTrue_or_nil e
 | true=>exact e
theorem pw_and (ha:PT X a tA) (hb:PW X (.BoolOp .And (b :: rest) pos) Ay):PW X (.BoolOp .And (a :: b :: rest) pos) (yE tA Ay):=by
 intro wh pins s σ H Q I h
 refine isTrue_and (cm (ha pins s σ H _ I h) fun c s1 ⟨H1,I1,q1⟩=>?_)
 cases c with
 | true=>exact hb wh pins s1 σ H1 Q I1 q1
 | false=>exact ⟨H1,I1,q1⟩
theorem pw_or (ha:PT X a tA) (hb:PW X (.BoolOp .Or (b :: rest) pos) Ay):PW X (.BoolOp .Or (a :: b :: rest) pos) (EY tA Ay):=by
 intro wh pins s σ H Q I h
 refine isTrue_or (cm (ha pins s σ H _ I h) fun c s1 ⟨H1,I1,q1⟩=>?_)
 cases c with
 | true=>exact ⟨H1,I1,q1⟩
 | false=>exact hb wh pins s1 σ H1 Q I1 q1
theorem fk (ha:PT X a tA):PT X (.UnaryOp .Not a pos) (yt tA):=by
 intro pins s σ H Q I h
 exact isTrue_not (ha pins s σ H (fun c H1=>Q (!c) H1) I h)
def vw (ta tb:TE):TE:=fun σ H Q=>ta σ H fun x H1=>∃ c,x = .bl c∧if c = true then tb σ H1 Q else Q (.bl false) H1
def yp (ta tb:TE):TE:=fun σ H Q=>ta σ H fun x H1=>∃ c,x = .bl c∧if c = true then Q (.bl true) H1 else tb σ H1 Q
def vo (ta:TE):TE:=fun σ H Q=>ta σ H fun x H1=>∃ c,x = .bl c∧Q (.bl (!c)) H1
theorem gm {op} {t:TE} (h:PE X a t):PE X (.BoolOp op [a] pos) t:=fun pins s σ H Q I hw=>BoolOp_one (h pins s σ H Q I hw)
theorem fm (ha:PE X a ta) (hb:PE X (.BoolOp .And (b :: rest) pos) tb):PE X (.BoolOp .And (a :: b :: rest) pos) (vw ta tb):=by
 intro pins s σ H Q I h
 refine BoolOp_and (cm (ha pins s σ H _ I h) fun v s1 ⟨x,H1,I1,r1,q1⟩=>?_)
 obtain ⟨c,rfl,q1⟩:=q1
 cases r1
 refine wpAny_truthy_bool ?_
 cases c with
 | true=>exact hb pins s1 σ H1 Q I1 q1
 | false=>exact ⟨.bl false,H1,I1,rfl,q1⟩
theorem yX (ha:PE X a ta) (hb:PE X (.BoolOp .Or (b :: rest) pos) tb):PE X (.BoolOp .Or (a :: b :: rest) pos) (yp ta tb):=by
 intro pins s σ H Q I h
 refine BoolOp_or (cm (ha pins s σ H _ I h) fun v s1 ⟨x,H1,I1,r1,q1⟩=>?_)
 obtain ⟨c,rfl,q1⟩:=q1
 cases r1
 refine wpAny_truthy_bool ?_
 cases c with
 | false=>exact hb pins s1 σ H1 Q I1 q1
 | true=>exact ⟨.bl true,H1,I1,rfl,q1⟩
theorem wR (ha:PE X a ta):PE X (.UnaryOp .Not a pos) (vo ta):=by
 intro pins s σ H Q I h
 refine UnaryOp_ (cm (ha pins s σ H _ I h) fun v s1 ⟨x,H1,I1,r1,q1⟩=>?_)
 obtain ⟨c,rfl,q1⟩:=q1
 cases r1
 exact not_of (wpAny_truthy_bool ⟨.bl (!c),H1,I1,rfl,q1⟩)
def K2 (t:TT) (ta tb:TE):TE:=fun σ H Q=>t σ H fun c H1=>if c = true then ta σ H1 Q else tb σ H1 Q
end
end L2
namespace L2
open PySem PySem.Spec PyProof.Rows
def aO (K:PySem.W.Frag) (H:Hp) (a:Addr) (xs:List V):Prop:=
 Rd H a (.lst xs)∨
  ∃ (o:Obj) (aQ:Array Value) (n:Nat),K.lookup a = some o∧o.cls = .type "list"∧o.dict = none∧o.data = .seq aQ n∧aQ.size≤sizeLine∧Vals xs aQ.toList
def SqT (K:PySem.W.Frag) (H:Hp) (a:Addr) (xs:List V):Prop:=
 Rd H a (.tup xs)∨
  ∃ (o:Obj) (aQ:Array Value) (n:Nat),K.lookup a = some o∧o.cls = .type "tuple"∧o.data = .seq aQ n∧aQ.size≤sizeLine∧Vals xs aQ.toList
def Eu:Value→Option V
 | .none=>some .bS
 | .bool b=>some (.bl b)
 | .int i _=>some (.int i)
 | .str x _=>some (.str x)
 | .bytes b _=>some (.mE b)
 | .float b _=>some (.mD b)
 | .ref a=>some (.ref a)
 | .type n=>some (.ty n)
 | _=>none
theorem RelV.abs {x:V} {u:Value} (r:RelV x u):Eu u = some x:=by
 cases x with
 | bS=>cases r; rfl
 | bl _=>cases r; rfl
 | int _=>obtain ⟨t,rfl⟩:=r; rfl
 | str _=>obtain ⟨t,rfl⟩:=r; rfl
 | mE _=>obtain ⟨t,rfl⟩:=r; rfl
 | mD _=>obtain ⟨t,rfl⟩:=r; rfl
 | ref _=>cases r; rfl
 | ty _=>cases r; rfl
theorem RelV.inj {x y:V} {u:Value} (r:RelV x u) (q:RelV y u):x = y:=Option.some.inj (r.abs.symm.trans q.abs)
theorem Vals.inj:∀ {xs ys:List V} {us:List Value},Vals xs us→Vals ys us→xs = ys
 | _,_,_,.nil,.nil=>rfl
 | _,_,_,.cons r t,.cons r' t'=>by rw [r.inj r',Vals.inj t t']
section
variable {X:Cx} {pins:List (Addr×Obj)} {σ : St} {H:Hp} {s:Shared} {a:Addr} {xs ys:List V}
theorem aO.of {K:PySem.W.Frag} (h:H a = some (.lst xs)):aO K H a xs:=.inl (.inl h)
theorem SqT.of {K:PySem.W.Frag} (h:H a = some (.tup xs)):SqT K H a xs:=.inl (.inl h)
theorem Inv.list (I:Inv X pins σ H s) (h:aO X.K H a xs):∃ aQ:List Value,Vals xs aQ∧PlainL s.heap a aQ.toArray∧xs.length≤sizeLine:=by
 rcases h with h | ⟨o,aQ,n,hk,hc,hd,hs,hz,r⟩
 ·obtain ⟨z,aQ,n,r,e⟩:=h.ok I.bb
  exact ⟨aQ,r,⟨_,n,e,rfl,rfl,rfl⟩,z⟩
 ·refine ⟨aQ.toList,r,⟨o,n,I.ft a o hk,hc,hd,by simpa using hs⟩,?_⟩
  have e:=r.length
  simp only [Array.length_toList] at e
  omega
theorem Inv.tuple (I:Inv X pins σ H s) (h:SqT X.K H a xs):∃ aQ:List Value,Vals xs aQ∧IsTup s.heap a aQ.toArray∧xs.length≤sizeLine:=by
 rcases h with h | ⟨o,aQ,n,hk,hc,hs,hz,r⟩
 ·obtain ⟨z,aQ,r,p⟩:=h.ok I.bb
  exact ⟨aQ,r,p,z⟩
 ·refine ⟨aQ.toList,r,⟨o,I.ft a o hk,hc,n,by simpa using hs⟩,?_⟩
  have e:=r.length
  simp only [Array.length_toList] at e
  omega
theorem Inv.lL (I:Inv X pins σ H s) (h:aO X.K H a xs) (h':aO X.K H a ys):xs = ys:=by
 obtain ⟨aQ,r,⟨o,n,e,_,_,d⟩,_⟩:=I.list h
 obtain ⟨its',r',⟨o',n',e',_,_,d'⟩,_⟩:=I.list h'
 rw [e] at e'; cases e'
 rw [d] at d'
 injection d' with d1 _
 have:aQ = its':=by simpa using congrArg Array.toList d1
 subst this
 exact r.inj r'
end
abbrev Cx.gh (X:Cx) (E:Value→Shared→Prop):Cx:={ X with xe:=E }
abbrev Cx.r9 (X:Cx):Cx:=X.gh fun _ _=>False
theorem Cx.Ok.gh {X:Cx} (ok:X.Ok) (E:Value→Shared→Prop):(X.gh E).Ok:=
 ⟨ok.mod,ok.kind,ok.glob,ok.blt,ok.above,ok.inj,ok.has,ok.ye,ok.hd,ok.frames,ok.j6,ok.DI,ok.bs,ok.u9,ok.pA,ok.sP,ok.fW,ok.vS⟩
theorem Cx.Ok.dv {X:Cx} {E:Value→Shared→Prop} (ok:(X.gh E).Ok):X.Ok:=
 ⟨ok.mod,ok.kind,ok.glob,ok.blt,ok.above,ok.inj,ok.has,ok.ye,ok.hd,ok.frames,ok.j6,ok.DI,ok.bs,ok.u9,ok.pA,ok.sP,ok.fW,ok.vS⟩
section
variable {X:Cx} {pins:List (Addr×Obj)} {σ : St} {H:Hp} {s:Shared} {E:Value→Shared→Prop}
theorem Inv.gh (I:Inv X pins σ H s) (E:Value→Shared→Prop):Inv (X.gh E) pins σ H s:=⟨I.ok.gh E,I.os,I.bare,I.base,I.loc,I.cell,I.free,I.cK,I.pin,I.bb,I.len⟩
theorem Inv.dv (I:Inv (X.gh E) pins σ H s):Inv X pins σ H s:=⟨I.ok.dv,I.os,I.bare,I.base,I.loc,I.cell,I.free,I.cK,I.pin,I.bb,I.len⟩
theorem SP.dv {D:Ends} {f:Flow} {s':Shared} (h:SP (X.gh E) pins D f s'):SP X pins D f s':=by
 cases f with
 | next=>obtain ⟨σ',H',I,q⟩:=h; exact ⟨σ',H',I.dv,q⟩
 | brk=>obtain ⟨σ',H',I,q⟩:=h; exact ⟨σ',H',I.dv,q⟩
 | cont=>obtain ⟨σ',H',I,q⟩:=h; exact ⟨σ',H',I.dv,q⟩
 | ret u=>obtain ⟨v,σ',H',I,r,q⟩:=h; exact ⟨v,σ',H',I.dv,r,q⟩
theorem my.r9 {st:List Stmt} {t:TS} (h:my X.r9 st t):my X st t:=fun pins s σ H D I hw=>
 wpAny_mono (h pins s σ H D (I.gh _) hw) (fun _ _ q=>q.dv) fun _ _ z=>False.elim z
end
section
variable {X:Cx} {st:Stmt} {rest:List Stmt} {t u:TS} {e:Expr} {te:TE} {pos:Pos}
def vq:TS:=fun D σ H=>D.nx σ H
def wq (t u:TS):TS:=fun D σ H=>t { D with nx:=u D } σ H
theorem aE:my X [] vq:=fun _ _ σ H _ I h=>wpAny_execs_nil ⟨σ,H,I,h⟩
theorem ag (h1:PS X st t) (h2:my X rest u):my X (st :: rest) (wq t u):=by
 intro pins s σ H D I h
 refine wpAny_execs_cons (cm (h1 pins s σ H { D with nx:=u D } I h) fun f s1 q=>?_)
 cases f with
 | next=>
  obtain ⟨σ',H',I',q⟩:=q
  exact h2 pins s1 σ' H' D I' q
 | ret v=>exact q
 | brk=>exact q
 | cont=>exact q
theorem ai (h1:PS X st t):my X [st] t:=by
 intro pins s σ H D I h
 refine wpAny_execs_cons (cm (h1 pins s σ H D I h) fun f s1 q=>?_)
 cases f with
 | next=>exact wpAny_execs_nil q
 | ret v=>exact q
 | brk=>exact q
 | cont=>exact q
def BD:TS:=fun D σ H=>D.bk σ H
def E4:TS:=fun D σ H=>D.ct σ H
theorem Inv.quiet {pins:List (Addr×Obj)} {σ : St} {H:Hp} {s:Shared} (I:Inv X pins σ H s):interactive X.env = false:=by simp [interactive,I.ok.kind]
def vt (te:TE):TS:=fun D σ H=>te σ H fun _ H1=>D.nx σ H1
theorem dF (he:PE X e te) (hs:swapsWith e none pos.line X.env = pure false:=by rfl):PS X (.Expr e pos) (vt te):=by
 intro pins s σ H D I h
 exact wpAny_Expr_any (cm (he pins s σ H _ I h) fun v s1 ⟨x,H1,I1,r1,q1⟩=>⟨σ,H1,I1,q1⟩) I.quiet hs
def yo (te:TE):TS:=fun D σ H=>te σ H D.rt
theorem az (he:PE X e te):PS X (.Return (some e) pos) (yo te):=by
 intro pins s σ H D I h
 exact wpAny_Return_some (cm (he pins s σ H _ I h) fun v s1 ⟨x,H1,I1,r1,q1⟩=>⟨x,σ,H1,I1,r1,q1⟩)
def EW:TS:=fun D _ H=>D.rt .bS H
def wt (c:TT) (t u:TS):TS:=fun D σ H=>c σ H fun b H1=>if b = true then t D σ H1 else u D σ H1
theorem bC {c:Expr} {a b:List Stmt} {tc:TT} (hc:PT X c tc) (ha:my X a t) (hb:my X b u):PS X (.If c a b pos) (wt tc t u):=by
 intro pins s σ H D I h
 refine wpAny_If (cm (hc pins s σ H _ I h) fun d s1 ⟨H1,I1,q1⟩=>?_)
 cases d with
 | true=>exact ha pins s1 σ H1 D I1 q1
 | false=>exact hb pins s1 σ H1 D I1 q1
def Br:TS:=fun _ _ _=>False
end
abbrev TG:=V→St→Hp→(St→Hp→Prop)→Prop
abbrev tY:=List V→St→Hp→(St→Hp→Prop)→Prop
def PG (X:Cx) (target:Expr) (t:TG):Prop:=
 ∀ (pins:List (Addr×Obj)) (s:Shared) (σ : St) (H:Hp) (v:V) (u:Value) (Q:St→Hp→Prop),Inv X pins σ H s→RelV v u→t v σ H Q→
  wpAny (model X.prog X.w) X.A (assign target X.env u) (fun _ s'=>∃ σ' H',Inv X pins σ' H' s'∧Q σ' H') X.xe s
def Ak (X:Cx) (ts:List Expr) (t:tY):Prop:=
 ∀ (pins:List (Addr×Obj)) (s:Shared) (σ : St) (H:Hp) (vs:List V) (us:List Value) (Q:St→Hp→Prop),Inv X pins σ H s→Vals vs us→t vs σ H Q→
  wpAny (model X.prog X.w) X.A (assignInOrder ((assignEach ts X.env).map (·.2)) us) (fun _ s'=>∃ σ' H',Inv X pins σ' H' s'∧Q σ' H') X.xe s
abbrev xW:=V→V→V→Hp→(Hp→Prop)→Prop
def Kq (X:Cx) (t:xW):Prop:=
 ∀ (pins:List (Addr×Obj)) (s:Shared) (σ : St) (H:Hp) (o i v:V) (ov iv u:Value) (Q:Hp→Prop),Inv X pins σ H s→RelV o ov→RelV i iv→RelV v u→t o i v H Q→
  wpAny (model X.prog X.w) X.A (setItem ov iv u) (fun _ s'=>∃ H',Inv X pins σ H' s'∧Q H') X.xe s
abbrev Bf:=V→V→Hp→VK→Prop
def LS (X:Cx) (op:Operator) (t:Bf):Prop:=
 ∀ (pins:List (Addr×Obj)) (s:Shared) (σ : St) (H:Hp) (x y:V) (v u:Value) (Q:VK),Inv X pins σ H s→RelV x v→RelV y u→t x y H Q→
  wpAny (model X.prog X.w) X.A (inplaceOp op v u) (EP X pins σ Q) X.xe s
section
variable {X:Cx} {pos:Pos}
def lW (i:Nat):TG:=fun v σ H Q=>Q (σ.set i (some v)) H
theorem aW {i:Nat} {x:Str} (hN:X.N.Nodup) (hi:X.N[i]? = some x) (hx:Loc X.env.scope x) (hf:X.fn x = true∨X.env.scope.names.lookup x = some .local:=by first | exact .inl rfl | exact .inr rfl | assumption):PG X (.Name x pos) (lW i):=by
 intro pins s σ H v u Q I r h
 exact wpAny_assign_Name (h7 I hN hi hx r (fun s' I'=>⟨_,H,I',h⟩) hf)
def zK:tY:=fun vs σ H Q=>vs = []∧Q σ H
def vR (t:TG) (u:tY):tY:=fun vs σ H Q=>∃ v r,vs = v :: r∧t v σ H fun σ' H'=>u r σ' H' Q
theorem om:Ak X [] zK:=by
 intro pins s σ H vs us Q I r h
 obtain ⟨e,h⟩:=h
 subst e
 cases r
 exact assignInOrder_nil ⟨σ,H,I,h⟩
theorem fK {e:Expr} {es:List Expr} {t:TG} {u:tY} (h1:PG X e t) (h2:Ak X es u)
  (hs:(assignEach (e :: es) X.env).map (·.2) = assign e X.env :: (assignEach es X.env).map (·.2):=by rfl):Ak X (e :: es) (vR t u):=by
 intro pins s σ H vs us Q I r h
 obtain ⟨v,vr,e1,h⟩:=h
 subst e1
 cases r with
 | cons r rr=>
  rw [hs]
  refine assignInOrder_cons (cm (h1 pins s σ H _ _ _ I r h) fun _ s1 ⟨σ1,H1,I1,q1⟩=>?_)
  exact h2 pins s1 σ1 H1 _ _ Q I1 rr q1
def xG (K:PySem.W.Frag) (n:Nat) (t:tY):TG:=fun v σ H Q=>∃ a xs,v = .ref a∧SqT K H a xs∧xs.length = n∧t xs σ H Q
theorem rP {es:List Expr} {k:Nat} {t:tY} {n:Nat} (hc:X.calm = true) (h:Ak X es t)
  (hn:(assignEach es X.env).length = n:=by rfl) (zm:(assignEach es X.env).findIdx? (·.1) = none:=by rfl):PG X (.Tuple es k pos) (xG X.K n t):=by
 intro pins s σ H v u Q I r hw
 obtain ⟨a,xs,e1,hq,hl,hw⟩:=hw
 subst e1
 cases r
 obtain ⟨aQ,rv,ht,hz⟩:=I.tuple hq
 refine assign_Tuple_tuple (I.ok.hd hc) ht (by simp [hn,← hl,rv.length]) zm fun h' hx=>?_
 have I1:Inv X pins σ H { s with heap:=h' }:=I.kept (t':=s.toks) fun b o e=>hx b o (Nat.ne_of_lt (Heap.lt_size e)) e
 exact h pins _ σ H xs _ Q I1 (by simpa using rv) hw
def Jr (to ti:TE) (t:xW):TG:=fun v σ H Q=>to σ H fun o H1=>ti σ H1 fun i H2=>t o i v H2 fun H3=>Q σ H3
def ue (te:TE) (g:TG):TS:=fun D σ H=>te σ H fun x H1=>g x σ H1 D.nx
theorem aM {i:Nat} {x:Str} {e:Expr} {te:TE} {pos':Pos} (hN:X.N.Nodup) (hi:X.N[i]? = some x) (hx:Loc X.env.scope x) (he:PE X e te) (hs:swapsWith e (some (.Name x pos')) pos.line X.env = pure false:=by rfl) (hf:X.fn x = true∨X.env.scope.names.lookup x = some .local:=by first | exact .inl rfl | exact .inr rfl | assumption) :
  PS X (.Assign [.Name x pos'] e pos) (ue te (lW i)):=by
 intro pins s σ H D I h
 refine wpAny_Assign_Name (cm (he pins s σ H _ I h) fun v s1 ⟨y,H1,I1,r1,q1⟩=>?_) hs
 exact h7 I1 hN hi hx r1 (fun s2 I2=>⟨_,H1,I2,q1⟩) hf
def GK (i j:Nat) (ta:TA):TS:=fun D σ H=>ta σ H fun vs H1=>∃ v w,vs = [v,w]∧D.nx ((σ.set i (some v)).set j (some w)) H1
def GU (i:Nat) (te:TE) (ti:Bf):TS:=fun D σ H=>∃ x,σ[i]? = some (some x)∧te σ H fun y H1=>ti x y H1 fun z H2=>D.nx (σ.set i (some z)) H2
def E6 (to ti te:TE) (Bm:V→V→Hp→VK→Prop) (GF:Bf) (Bk:xW):TS:=fun D σ H=>to σ H fun o H1=>ti σ H1 fun i H2=>Bm o i H2 fun x H3=>te σ H3 fun y H4=>GF x y H4 fun z H5=>Bk o i z H5 fun H6=>D.nx σ H6
def Kr (X:Cx) (t:V→V→Hp→VK→Prop):Prop:=
 ∀ (pins:List (Addr×Obj)) (s:Shared) (σ : St) (H:Hp) (o i:V) (ov iv:Value) (Q:VK),Inv X pins σ H s→RelV o ov→RelV i iv→t o i H Q→
  wpAny (model X.prog X.w) X.A (getItem ov iv) (EP X pins σ Q) X.xe s
def Lo (f:Int→Int→Int):Bf:=fun x y H Q=>∃ i j,x = .int i∧y = .int j∧Q (.int (f i j)) H
end
section
variable {X:Cx} {pos:Pos}
def Bo (c:TT) (tb:TS):TS:=fun D σ H=>∃ W:Nat→St→Hp→Prop,(∃ m,W m σ H)∧∀ m σ H,W m σ H→
 c σ H fun b H1=>if b = true then ∃ N:St→Hp→Prop,(∀ σ' H',N σ' H'→∃ m',m' < m∧W m' σ' H')∧tb { D with nx:=N,ct:=N,bk:=D.nx } σ H1 else D.nx σ H1
end
structure It where
 go:Nat→Hp→Prop
 oR:Nat→Hp→V→Hp→Prop
 stop:Nat→Hp→Prop
def gR (X:Cx) (pins:List (Addr×Obj)) (H:Hp) (b:Addr):Prop:=
 H b = none∧b≠X.env.locals∧b∉X.fs∧(b∈X.ex∨X.s₀.heap.objs.size≤b)∧(∀ x c,X.env.cells.lookup x = some c→c≠b)∧∀ p∈X.pn ++ pins,p.1≠b
theorem Inv.sL {X:Cx} {pins:List (Addr×Obj)} {σ : St} {H H':Hp} {s:Shared} {b:Addr} (I:Inv X pins σ H s) (hb:s.heap.objs.size≤b) (hn:H' b = none):gR X pins H' b:=by
 refine ⟨hn,Nat.ne_of_gt (Nat.lt_of_lt_of_le I.lt hb),I.CN hb,.inr (Nat.le_trans I.sz hb),fun x c e z=>?_,fun p hp z=>?_⟩
 ·obtain ⟨v,q⟩:=I.cell x c e
  exact absurd (Nat.lt_of_lt_of_le q.lt (by rw [z]; exact hb)) (Nat.lt_irrefl _)
 ·exact absurd (Nat.lt_of_lt_of_le (Heap.lt_size (I.pin p hp).1) (by rw [z]; exact hb)) (Nat.lt_irrefl _)
structure Turn (P:Program) (w:World) (K:PySem.W.Frag) (tg:Expr) (J:It) (fp:List Addr) (it:Addr) (tn:Nat→Heap→Prop):Prop where
 mem:it∈fp
 obj:∀ i h,tn i h→∀ b∈fp,∃ o,h.get? b = some o∧∀ v,o.data≠.cell v
 keep:∀ i h h',tn i h→(∀ b∈fp,∀ o,h.get? b = some o→h'.get? b = some o)→tn i h'
 item:∀ (X:Cx),X.prog = P→X.w = w→X.K = K→X.calm = true→∀ (i:Nat) (pins:List (Addr×Obj)) (s:Shared) (σ : St) (H:Hp) (E:Value→Shared→Prop),Inv X pins σ H s→(∀ b∈fp,gR X pins H b)→tn i s.heap→J.go i H→
  wpAny (model P w) X.A (pyNext (.ref it)) (fun r s1=>∃ u,r = some u∧
   wpAny (model P w) X.A (letOwnedTupleGo tg (.ref it) u) (fun _ s2=>∃ x H',Inv X pins σ H' s2∧RelV x u∧J.oR i H x H'∧tn (i + 1) s2.heap∧∀ b∈fp,H' b = none) E s1) E s
 done:∀ (X:Cx),X.prog = P→X.w = w→X.K = K→X.calm = true→∀ (i:Nat) (pins:List (Addr×Obj)) (s:Shared) (σ : St) (H:Hp) (E:Value→Shared→Prop),Inv X pins σ H s→(∀ b∈fp,gR X pins H b)→tn i s.heap→J.stop i H→
  wpAny (model P w) X.A (pyNext (.ref it)) (fun r s1=>r = none∧Inv X pins σ H s1) E s
 self:∀ (A:Around) (i:Nat) (s:Shared) (Q:Value→Shared→Prop) (E:Value→Shared→Prop),tn i s.heap→Q (.ref it) s→wpAny (model P w) A (pyIter (.ref it)) Q E s
abbrev TI:=St→Hp→(It→Hp→Prop)→Prop
def Gk (X:Cx) (pins:List (Addr×Obj)) (σ : St) (tg:Expr) (R:It→Hp→Prop) (AO:Value) (s2:Shared):Prop:=
 ∃ (it:Addr) (fp:List Addr) (tn:Nat→Heap→Prop) (J:It) (H':Hp),AO = .ref it∧Inv X pins σ H' s2∧Turn X.prog X.w X.K tg J fp it tn∧tn 0 s2.heap∧(∀ b∈fp,gR X pins H' b)∧R J H'
def PI (X:Cx) (tg iter:Expr) (wi:TI):Prop:=
 ∀ (pins:List (Addr×Obj)) (s:Shared) (σ : St) (H:Hp) (R:It→Hp→Prop),Inv X pins σ H s→wi σ H R→
  wpAny (model X.prog X.w) X.A (eval iter X.env) (fun v s1=>wpAny (model X.prog X.w) X.A (pyIter v) (Gk X pins σ tg R) X.xe s1) X.xe s
theorem sJ {M:Model} {A:Around} {E:Value→Shared→Prop} {s:Shared} {tg:Expr} {it:Addr} {u:Value} {o:Obj} {n:String} {vs:Array Value} {Q:Unit→Shared→Prop} (ho:s.heap.get? it = some o) (hc:o.cls = .type n) (hd:o.data = .fields vs)
  (hn:["enumerate", "zip", "dict_itemiterator", "dict_reverseitemiterator", "odict_iterator", "itertools.zip_longest", "itertools.pairwise"].contains n = false) (hQ:Q () s):wpAny M A (letOwnedTupleGo tg (.ref it) u) Q E s:=by
 unfold letOwnedTupleGo
 cases tg <;> first
  | exact wpAny_pure hQ
  | (cases u <;> first
    | exact wpAny_pure hQ
    | (
       refine wpAny_bind (wpAny_load ho ?_)
       rw [hc,hd]
       show wpAny M A (if (["enumerate", "zip", "dict_itemiterator", "dict_reverseitemiterator", "odict_iterator", "itertools.zip_longest", "itertools.pairwise"].contains n && vs[0]? == some (rawInt _)) = true then _ else _) Q E s
       rw [if_neg (by intro h; rw [hn,Bool.false_and] at h; cases h)]
       exact wpAny_pure hQ))
def vg (K:PySem.W.Frag) (a:Addr):It:=
 ⟨fun i H=>∃ xs x,aO K H a xs∧xs[i]? = some x,fun i H x H'=>H' = H∧∀ xs,aO K H a xs→xs[i]? = some x,fun i H=>∃ xs,aO K H a xs∧xs.length≤i⟩
def Kw (K:PySem.W.Frag) (a:Addr):It:=
 ⟨fun i H=>∃ xs x,SqT K H a xs∧xs[i]? = some x,fun i H x H'=>H' = H∧∀ xs,SqT K H a xs→xs[i]? = some x,fun i H=>∃ xs,SqT K H a xs∧xs.length≤i⟩
def tZ (lo:Int) (n:Nat):It:=⟨fun i _=>i < n,fun i H x H'=>H' = H∧x = .int (lo + i),fun i _=>n≤i⟩
theorem oW {P:Program} {w:World} {K:PySem.W.Frag} {tg:Expr} (a it:Addr):Turn P w K tg (vg K a) [it] it (fun i h=>h.IsListIter it a i) where
 mem:=by simp
 obj:=fun i h st b hb=>by
  have e:b = it:=by simpa using hb
  subst e
  obtain ⟨o,e,c,d⟩:=st
  exact ⟨o,e,fun v z=>by rw [d] at z; cases z⟩
 keep:=fun i h h' st k=>st.at fun o e=>k it (by simp) o e
 item:=by
  intro X hP hw hK hc i pins s σ H E I hf st hg
  subst hP hw hK
  obtain ⟨xs,x,hq,hx⟩:=hg
  obtain ⟨aQ,rv,p,hz⟩:=I.list hq
  obtain ⟨u,hu,ru⟩:=rv.get hx
  obtain ⟨f0,f1,f2,f3,f4,f5⟩:=hf it (by simp)
  refine wpAny_pyNext_list_item st p.isList (x:=u) (by simpa using hu) fun h' vx sb=>?_
  have I1:Inv X pins σ H { s with heap:=h' }:=I.turned (t':=s.toks) (fun b o hb e=>(sb.2 b hb).trans e) f0 f1 f3 f4 f5
  obtain ⟨o,e,c,d⟩:=id vx
  exact ⟨u,rfl,sJ (s:={ s with heap:=h' }) e c d (by decide) ⟨x,H,I1,ru,⟨rfl,fun ys hy=>by rw [I.lL hy hq]; exact hx⟩,vx,fun b hb=>(hf b hb).1⟩⟩
 done:=by
  intro X hP hw hK hc i pins s σ H E I hf st hg
  subst hP hw hK
  obtain ⟨xs,hq,hx⟩:=hg
  obtain ⟨aQ,rv,p,hz⟩:=I.list hq
  obtain ⟨f0,f1,f2,f3,f4,f5⟩:=hf it (by simp)
  have hl:=rv.length
  exact wpAny_pyNext_list_end (I.ok.hd hc) st p.isList (by simp; omega) fun h' eb=>⟨rfl,I.turned (t':=s.toks) (fun b o hb e=>eb b o hb e) f0 f1 f3 f4 f5⟩
 self:=fun _ _ _ _ _ st h=>wpAny_pyIter_listiter st h
theorem mJ {P:Program} {w:World} {K:PySem.W.Frag} {tg:Expr} (it:Addr) (lo:Int) (n:Nat):Turn P w K tg (tZ lo n) [it] it (fun i h=>IsRangeIter h it (lo + (i:Nat) * 1) ((n:Int) - (i:Nat)) 1) where
 mem:=by simp
 obj:=fun i h st b hb=>by
  have e:b = it:=by simpa using hb
  subst e
  exact ⟨_,st,fun v z=>by
   have z':Data.fields _ = Data.cell v:=z
   cases z'⟩
 keep:=fun i h h' st k=>k it (by simp) _ st
 item:=by
  intro X hP hw hK hc i pins s σ H E I hf st hg
  subst hP hw hK
  obtain ⟨f0,f1,f2,f3,f4,f5⟩:=hf it (by simp)
  have W:=Walks.range (prog:=X.prog) (w:=X.w) (I.ok.hd hc) it lo 1 n
  refine W.item i s _ _ hg st fun v h' tk hv vx kk=>?_
  obtain ⟨t,rfl⟩:=hv
  have I1:Inv X pins σ H { s with heap:=h',toks:=tk }:=I.turned (fun b o hb e=>kk b o (by simpa using hb) e) f0 f1 f3 f4 f5
  refine ⟨_,rfl,sJ (s:={ s with heap:=h',toks:=tk }) (n:= "range_iterator") vx rfl rfl (by decide) ⟨.int (lo + i),H,I1,⟨t,?_⟩,⟨rfl,rfl⟩,vx,fun b hb=>(hf b hb).1⟩⟩
  rw [Int.mul_one]
 done:=by
  intro X hP hw hK hc i pins s σ H E I hf st hg
  subst hP hw hK
  obtain ⟨f0,f1,f2,f3,f4,f5⟩:=hf it (by simp)
  exact wpAny_pyNext_range_end (I.ok.hd hc) st (by have:n≤i:=hg; omega) fun h' eb=>⟨rfl,I.turned (t':=s.toks) (fun b o hb e=>eb b o hb e) f0 f1 f3 f4 f5⟩
 self:=fun _ _ _ _ _ st h=>wpAny_pyIter_rangeiter st h
end L2
namespace L2
open PySem PySem.Spec PyProof.Rows
section
variable {X:Cx} {tg:Expr}
def vN (K:PySem.W.Frag) (tl:TE):TI:=fun σ H R=>tl σ H fun x H1=>∃ a,x = .ref a∧(∃ xs,aO K H1 a xs)∧R (vg K a) H1
def IC (K:PySem.W.Frag) (tl:TE):TI:=fun σ H R=>tl σ H fun x H1=>∃ a,x = .ref a∧(∃ xs,SqT K H1 a xs)∧R (Kw K a) H1
theorem eQ {l:Expr} {tl:TE} (hl:PE X l tl):PI X tg l (vN X.K tl):=by
 intro pins s σ H R I h
 refine cm (hl pins s σ H _ I h) fun v s1 ⟨x,H1,I1,r1,q1⟩=>?_
 obtain ⟨a,e,⟨xs,hq⟩,q⟩:=q1
 subst e
 cases r1
 obtain ⟨aQ,rv,p,hz⟩:=I1.list hq
 refine wpAny_pyIter_list p.isList ?_
 refine ⟨s1.heap.objs.size,[s1.heap.objs.size],_,_,H1,rfl,I1.kept (t':=s1.toks) fun b o e=>Heap.get?_push_of_some _ e,oW a _,⟨_,Heap.get?_push_size _ rfl,rfl,rfl⟩,fun b hb=>?_,q⟩
 have e:b = s1.heap.objs.size:=by simpa using hb
 subst e
 exact I1.sL (Nat.le_refl _) (I1.bb.fresh (Nat.le_refl _))
theorem qV {pins:List (Addr×Obj)} {σ : St} {H:Hp} {s:Shared} {R:It→Hp→Prop} {E:Value→Shared→Prop} {lo hi:Int} {t u v:Tok} {tk:Nat} (I:Inv X pins σ H s) (h1 : -(2 ^ 62)≤lo) (h2:lo < 2 ^ 62) (h3 : -(2 ^ 62)≤hi) (h4:hi < 2 ^ 62)
  (q:R (tZ lo (hi - lo).toNat) H):wpAny (model X.prog X.w) X.A (pyIter (.ref s.heap.objs.size)) (Gk X pins σ tg R) E { s with heap:=s.heap.push { cls:=.type "range",data:=.fields #[.int lo t,.int hi u,.int 1 v] },toks:=tk }:=by
 refine wpAny_pyIter_range (IsRange.new ..) (small_one h1 h2 h3 h4) ?_
 have I1:Inv X pins σ H { s with heap:=s.heap.push { cls:=.type "range",data:=.fields #[.int lo t,.int hi u,.int 1 v] },toks:=tk }:=I.kept fun b o e=>Heap.get?_push_of_some _ e
 refine ⟨(s.heap.push { cls:=.type "range",data:=.fields #[.int lo t,.int hi u,.int 1 v] }).objs.size,[(s.heap.push { cls:=.type "range",data:=.fields #[.int lo t,.int hi u,.int 1 v] }).objs.size],_,_,H,rfl,
  I1.kept (t':=tk) fun b o e=>Heap.get?_push_of_some _ e,mJ _ lo (hi - lo).toNat,?_,fun b hb=>?_,q⟩
 ·have e1:lo + ((0:Nat):Int) * 1 = lo:=by simp
  have e2:(((hi - lo).toNat:Nat):Int) - ((0:Nat):Int) = Builtin.Range.rangeSize lo hi 1:=by rw [rangeSize_one]; split <;> omega
  show IsRangeIter _ _ (lo + ((0:Nat):Int) * 1) ((((hi - lo).toNat:Nat):Int) - ((0:Nat):Int)) 1
  rw [e1,e2]
  exact Heap.get?_push_size _ rfl
 ·have e:b = (s.heap.push { cls:=.type "range",data:=.fields #[.int lo t,.int hi u,.int 1 v] }).objs.size:=by simpa using hb
  subst e
  exact I1.sL (Nat.le_refl _) (I1.bb.fresh (Nat.le_refl _))
def zh (ta:TA):TI:=fun σ H R=>ta σ H fun vs H1=>∃ j:Int,vs = [.int j]∧-(2 ^ 62)≤j∧j < 2 ^ 62∧R (tZ 0 j.toNat) H1
def Fx (ta:TA):TI:=fun σ H R=>ta σ H fun vs H1=>∃ i j:Int,vs = [.int i,.int j]∧(-(2 ^ 62)≤i∧i < 2 ^ 62∧-(2 ^ 62)≤j∧j < 2 ^ 62)∧R (tZ i (j - i).toNat) H1
theorem cb {a:Expr} {ta:TA} {p pos:Pos} (hg:Gl X "range") (hm:X.mg "range" = none) (ha:PA X [a] ta) (hs:starEach [a] X.env = [(false,eval a X.env)]:=by rfl):PI X tg (.Call (.Name "range" p) [a] [] pos) (zh ta):=by
 intro pins s σ H R I h
 refine Call_ (iG I hg hm boot_range (PyProof.Rows.callWith_type1 (cm (ha pos pins s σ H _ I h) fun us s1 ⟨vs,H1,I1,r1,q1⟩=>?_) hs rfl))
 obtain ⟨j,e,q1,q2,q⟩:=q1
 subst e
 cases r1 with
 | cons r rr=>
  cases rr
  obtain ⟨t,rfl⟩:=r
  exact call_range_1 (qV I1 (by omega) (by omega) q1 q2 (by simpa using q))
def yC (wi:TI) (g:TG) (tb:TS):TS:=fun D σ H=>wi σ H fun J H1=>∃ W:Nat→Nat→St→Hp→Prop,(∃ m,W 0 m σ H1)∧∀ i m σ H,W i m σ H→
 (J.stop i H∧D.nx σ H)∨(J.go i H∧∃ N:St→Hp→Prop,(∀ σ' H',N σ' H'→∃ m',m' < m∧W (i + 1) m' σ' H')∧∀ x H',J.oR i H x H'→g x σ H' fun σ2 H2=>tb { D with nx:=N,ct:=N,bk:=D.nx } σ2 H2)
def gk (fp:List Addr) (h:Heap):List (Addr×Obj):=fp.filterMap fun b=>(h.get? b).map fun o=>(b,o)
theorem cA {fp:List Addr} {h:Heap} {b:Addr} {o:Obj} (hb:b∈fp) (e:h.get? b = some o):(b,o)∈gk fp h:=List.mem_filterMap.mpr ⟨b,hb,by rw [e]; rfl⟩
theorem pq {fp:List Addr} {h:Heap} {p:Addr×Obj} (hp:p∈gk fp h):p.1∈fp∧h.get? p.1 = some p.2:=by
 obtain ⟨b,hb,e⟩:=List.mem_filterMap.mp hp
 cases q:h.get? b with
 | none=>rw [q] at e; cases e
 | some o=>
  rw [q] at e
  have e':(b,o) = p:=Option.some.inj e
  subst e'
  exact ⟨hb,q⟩
theorem Inv.pinned {pins:List (Addr×Obj)} {σ : St} {H:Hp} {s:Shared} {fp:List Addr} (I:Inv X pins σ H s) (hf:∀ b∈fp,gR X pins H b) (ho:∀ b∈fp,∃ o,s.heap.get? b = some o∧∀ v,o.data≠.cell v):Inv X (pins ++ gk fp s.heap) σ H s:=
 I.fJ fun p hp=>(List.mem_append.mp hp).elim (fun z=>I.pin p (List.mem_append_right _ z)) fun z=>by
  obtain ⟨hb,e⟩:=pq z
  obtain ⟨f0,f1,f2,_⟩:=hf p.1 hb
  obtain ⟨o,e',d⟩:=ho p.1 hb
  rw [e] at e'; cases e'
  exact ⟨e,f0,f1,f2,d⟩
theorem Inv.d5 {pins pl:List (Addr×Obj)} {σ : St} {H:Hp} {s:Shared} (I:Inv X (pins ++ pl) σ H s):Inv X pins σ H s:=I.fJ fun p hp=>I.pin p (List.mem_append_right _ (List.mem_append_left _ hp))
theorem cV {iter:Expr} {body:List Stmt} {wi:TI} {g:TG} {tb:TS} {pos:Pos} (hp:PassesOwn (model X.prog X.w) X.A X.env X.xe) (hc:X.calm = true) (hi:PI X tg iter wi) (hg:PG X tg g) (hb:my X body tb)
  (hs:∀ x,foldedSetIterable iter X.env x = pure x:=by intro _; rfl):PS X (.For tg iter body [] pos) (yC wi g tb):=by
 intro pins s σ H D I h
 refine wpAny_For (cm (hi pins s σ H _ I h) fun v s1 h1=>cm h1 fun AO s2 h2=>?_) hs
 obtain ⟨it,fp,tn,J,H2,e,I2,T,GW,f2,W,⟨m0,w0⟩,turn⟩:=h2
 subst e
 -- wb stays true of qA iterator's objects through qA loop
 have wu:∀ {H':Hp},(∀ b∈fp,H' b = none)→∀ b∈fp,gR X pins H' b:=fun hn b hb=>⟨hn b hb,(f2 b hb).2⟩
 refine codeAny_forLoop_any (fun n s'=>∃ i σ' H',Inv X pins σ' H' s'∧tn i s'.heap∧(∀ b∈fp,H' b = none)∧W i n σ' H') ?_ m0 ⟨0,σ,H2,I2,GW,fun b hb=>(f2 b hb).1,w0⟩
 rintro n s3 ⟨i,σ3,H3,I3,E7,A2,w3⟩
 rcases turn i n σ3 H3 w3 with ⟨stop,qn⟩ | ⟨go,N,hN,step⟩
 ·refine wpAny_passesOwn hp (cm (T.done X rfl rfl rfl hc i pins s3 σ3 H3 X.xe I3 (wu A2) E7 stop) fun r s4 ⟨hr,I4⟩=>?_)
  subst hr
  exact wpAny_execs_nil ⟨σ3,H3,I4,qn⟩
 ·refine wpAny_passesOwn hp (cm (T.item X rfl rfl rfl hc i pins s3 σ3 H3 X.xe I3 (wu A2) E7 go) fun r s4 ⟨u,hr,h4⟩=>?_)
  subst hr
  refine wpAny_passesOwn hp (cm h4 fun _ s5 ⟨x,H5,I5,r5,y5,BF,Jw⟩=>?_)
  have KC:=I5.pinned (wu Jw) (T.obj _ _ BF)
  refine wpAny_passesOwn hp (cm (hg _ s5 σ3 H5 x u _ KC r5 (step x H5 y5)) fun _ s6 ⟨σ6,H6,I6,q6⟩=>?_)
  refine wpAny_passesOwn hp (cm (hb _ s6 σ6 H6 _ I6 q6) fun f s7 q7=>?_)
  have again:∀ {σ7:St} {H7:Hp},Inv X (pins ++ gk fp s5.heap) σ7 H7 s7→N σ7 H7→∃ m,m < n∧∃ i σ' H',Inv X pins σ' H' s7∧tn i s7.heap∧(∀ b∈fp,H' b = none)∧W i m σ' H':=fun {σ7 H7} I7 n7=>by
   obtain ⟨m',hm,w7⟩:=hN σ7 H7 n7
   refine ⟨m',hm,i + 1,σ7,H7,I7.d5,T.keep _ _ _ BF fun b hb o e=>(I7.pin (b,o) (List.mem_append_right _ (List.mem_append_right _ (cA hb e)))).1,fun b hb=>?_,w7⟩
   obtain ⟨o,e,d⟩:=T.obj _ _ BF b hb
   exact (I7.pin (b,o) (List.mem_append_right _ (List.mem_append_right _ (cA hb e)))).2.1
  cases f with
  | next=>obtain ⟨σ7,H7,I7,n7⟩:=q7; exact again I7 n7
  | cont=>obtain ⟨σ7,H7,I7,n7⟩:=q7; exact again I7 n7
  | brk=>obtain ⟨σ7,H7,I7,q7⟩:=q7; exact ⟨σ7,H7,I7.d5,q7⟩
  | ret v=>obtain ⟨x7,σ7,H7,I7,r7,q7⟩:=q7; exact ⟨x7,σ7,H7,I7.d5,r7,q7⟩
end
theorem lZ {K:PySem.W.Frag} {a:Addr} {xs:List V} {g:TG} {tb:TS} {D:Ends} {σ : St} {H:Hp} (Pv:Nat→St→Hp→Prop) (h0:Pv 0 σ H) (hl:∀ i σ H,i≤xs.length→Pv i σ H→aO K H a xs)
  (hs:∀ i x σ H,xs[i]? = some x→Pv i σ H→g x σ H fun σ2 H2=>tb { D with nx:=Pv (i + 1),ct:=Pv (i + 1),bk:=D.nx } σ2 H2) (hd:∀ σ H,Pv xs.length σ H→D.nx σ H) :
  ∃ W:Nat→Nat→St→Hp→Prop,(∃ m,W 0 m σ H)∧∀ i m σ H,W i m σ H→
   ((vg K a).stop i H∧D.nx σ H)∨((vg K a).go i H∧∃ N:St→Hp→Prop,(∀ σ' H',N σ' H'→∃ m',m' < m∧W (i + 1) m' σ' H')∧∀ x H',(vg K a).oR i H x H'→g x σ H' fun σ2 H2=>tb { D with nx:=N,ct:=N,bk:=D.nx } σ2 H2):=by
 refine ⟨fun i m σ H=>m = xs.length - i∧i≤xs.length∧Pv i σ H,⟨xs.length,by simp,Nat.zero_le _,h0⟩,?_⟩
 rintro i m σ H ⟨rfl,hi,p⟩
 have q:=hl i σ H hi p
 by_cases cx:i < xs.length
 ·refine .inr ⟨⟨xs,xs[i],q,by simp [cx]⟩,Pv (i + 1),fun σ' H' p'=>⟨xs.length - (i + 1),by omega,rfl,cx,p'⟩,fun x H' y=>?_⟩
  obtain ⟨e,y⟩:=y
  subst e
  exact hs i x σ _ (y xs q) p
 ·have e:i = xs.length:=by omega
  subst e
  exact .inl ⟨⟨xs,q,Nat.le_refl _⟩,hd σ H p⟩
theorem cg {lo:Int} {n:Nat} {g:TG} {tb:TS} {D:Ends} {σ : St} {H:Hp} (Pv:Nat→St→Hp→Prop) (h0:Pv 0 σ H)
  (hs:∀ i σ H,i < n→Pv i σ H→g (.int (lo + i)) σ H fun σ2 H2=>tb { D with nx:=Pv (i + 1),ct:=Pv (i + 1),bk:=D.nx } σ2 H2) (hd:∀ σ H,Pv n σ H→D.nx σ H) :
  ∃ W:Nat→Nat→St→Hp→Prop,(∃ m,W 0 m σ H)∧∀ i m σ H,W i m σ H→
   ((tZ lo n).stop i H∧D.nx σ H)∨((tZ lo n).go i H∧∃ N:St→Hp→Prop,(∀ σ' H',N σ' H'→∃ m',m' < m∧W (i + 1) m' σ' H')∧∀ x H',(tZ lo n).oR i H x H'→g x σ H' fun σ2 H2=>tb { D with nx:=N,ct:=N,bk:=D.nx } σ2 H2):=by
 refine ⟨fun i m σ H=>m = n - i∧i≤n∧Pv i σ H,⟨n,by simp,Nat.zero_le _,h0⟩,?_⟩
 rintro i m σ H ⟨rfl,hi,p⟩
 by_cases cx:i < n
 ·refine .inr ⟨cx,Pv (i + 1),fun σ' H' p'=>⟨n - (i + 1),by omega,rfl,cx,p'⟩,fun x H' y=>?_⟩
  obtain ⟨e,y⟩:=y
  subst e y
  exact hs i σ _ cx p
 ·have e:i = n:=by omega
  subst e
  exact .inl ⟨Nat.le_refl _,hd σ H p⟩
end L2
namespace L2
open PySem PySem.Spec PyProof.Rows
abbrev R2:=V→V→Hp→VK→Prop
def iU (X:Cx) (f:Value→Value→Sem Value) (r:R2):Prop:=
 ∀ (pins:List (Addr×Obj)) (s:Shared) (σ : St) (H:Hp) (x y:V) (v u:Value) (Q:VK),Inv X pins σ H s→RelV x v→RelV y u→r x y H Q→
  wpAny (model X.prog X.w) X.A (f v u) (EP X pins σ Q) X.xe s
def Ey (X:Cx) (f:Value→Sem Value) (r:V→Hp→VK→Prop):Prop:=
 ∀ (pins:List (Addr×Obj)) (s:Shared) (σ : St) (H:Hp) (x:V) (v:Value) (Q:VK),Inv X pins σ H s→RelV x v→r x H Q→
  wpAny (model X.prog X.w) X.A (f v) (EP X pins σ Q) X.xe s
def dB (X:Cx) (f:Value) (r:List V→Hp→VK→Prop):Prop:=
 ∀ (pins:List (Addr×Obj)) (s:Shared) (σ : St) (H:Hp) (xs:List V) (us:List Value) (Q:VK),Inv X pins σ H s→Vals xs us→r xs H Q→
  wpAny (model X.prog X.w) X.A (call f us) (EP X pins σ Q) X.xe s
def Kk (X:Cx) (r:V→Hp→(Bool→Hp→Prop)→Prop):Prop:=
 ∀ (pins:List (Addr×Obj)) (s:Shared) (σ : St) (H:Hp) (x:V) (v:Value) (Q:Bool→Hp→Prop),Inv X pins σ H s→RelV x v→r x H Q→
  wpAny (model X.prog X.w) X.A (truthy v) (TP X pins σ Q) X.xe s
def yq (r:R2) (ta tb:TE):TE:=fun σ H Q=>ta σ H fun x H1=>tb σ H1 fun y H2=>r x y H2 Q
def EU (r:V→Hp→VK→Prop) (ta:TE):TE:=fun σ H Q=>ta σ H fun x H1=>r x H1 Q
def rI (C:Int→Int→Prop) (g:Int→Int→V):R2:=fun x y H Q=>∃ i j,x = .int i∧y = .int j∧C i j∧Q (g i j) H
def wN (g:Int→Int→V):R2:=fun x y H Q=>∃ i j,x = .int i∧y = .int j∧Q (g i j) H
def rU (g:Int→V):V→Hp→VK→Prop:=fun x H Q=>∃ i,x = .int i∧Q (g i) H
section
variable {X:Cx} {a b c:Expr} {ta tb tc:TE} {pos:Pos}
theorem xS (ha:PE X a ta) (hb:PE X b tb) {pins:List (Addr×Obj)} {s:Shared} {σ : St} {H:Hp} {R:V→V→Hp→Prop} (I:Inv X pins σ H s)
  (h:ta σ H fun x H1=>tb σ H1 fun y H2=>R x y H2) {Q:Value→Shared→Prop} {f:Value→Value→Sem Value}
  (hf:∀ v u s2 x y H2,Inv X pins σ H2 s2→RelV x v→RelV y u→R x y H2→wpAny (model X.prog X.w) X.A (f v u) Q X.xe s2) :
  wpAny (model X.prog X.w) X.A (eval a X.env) (fun v s₁=>wpAny (model X.prog X.w) X.A (eval b X.env) (fun u s₂=>wpAny (model X.prog X.w) X.A (f v u) Q X.xe s₂) X.xe s₁) X.xe s:=by
 refine cm (ha pins s σ H _ I h) fun v s1 ⟨x,H1,I1,r1,q1⟩=>?_
 refine cm (hb pins s1 σ H1 _ I1 q1) fun u s2 ⟨y,H2,I2,r2,q2⟩=>?_
 exact hf v u s2 x y H2 I2 r1 r2 q2
theorem av {op:Operator} {r:R2} (ho:iU X (binaryOp op) r) (ha:PE X a ta) (hb:PE X b tb):PE X (.BinOp a op b pos) (yq r ta tb):=by
 intro pins s σ H Q I h
 exact wpAny_BinOp (xS ha hb I h fun v u s2 x y H2 I2 rx ry q=>ho pins s2 σ H2 x y v u Q I2 rx ry q)
theorem rQ {op:UnaryOp} {r:V→Hp→VK→Prop} (ho:Ey X (unaryOp op) r) (ha:PE X a ta):PE X (.UnaryOp op a pos) (EU r ta):=by
 intro pins s σ H Q I h
 exact UnaryOp_ (cm (ha pins s σ H _ I h) fun v s1 ⟨x,H1,I1,r1,q1⟩=>ho pins s1 σ H1 x v Q I1 r1 q1)
theorem AK {f:Value→Value→Sem Value} {C:Int→Int→Prop} {g:Int→Int→Int}
  (rule:∀ (i j:Int) (t u:Tok) (s:Shared) (Q:Value→Shared→Prop) (E:Value→Shared→Prop),C i j→Q (.int (g i j) s.toks) { s with toks:=s.toks + 1 }→wpAny (model X.prog X.w) X.A (f (.int i t) (.int j u)) Q E s) :
  iU X f (rI C fun i j=>.int (g i j)):=by
 intro pins s σ H x y v u Q I rx ry h
 obtain ⟨i,j,rfl,rfl,hc,q⟩:=h
 obtain ⟨t,rfl⟩:=rx
 obtain ⟨t',rfl⟩:=ry
 exact rule i j t t' s _ _ hc ⟨.int (g i j),H,I.tok _,⟨_,rfl⟩,q⟩
theorem Co {f:Value→Value→Sem Value} {g:Int→Int→Int}
  (rule:∀ (i j:Int) (t u:Tok) (s:Shared) (Q:Value→Shared→Prop) (E:Value→Shared→Prop),Q (.int (g i j) s.toks) { s with toks:=s.toks + 1 }→wpAny (model X.prog X.w) X.A (f (.int i t) (.int j u)) Q E s) :
  iU X f (wN fun i j=>.int (g i j)):=by
 intro pins s σ H x y v u Q I rx ry h
 obtain ⟨i,j,rfl,rfl,q⟩:=h
 obtain ⟨t,rfl⟩:=rx
 obtain ⟨t',rfl⟩:=ry
 exact rule i j t t' s _ _ ⟨.int (g i j),H,I.tok _,⟨_,rfl⟩,q⟩
theorem wY {f:Value→Value→Sem Value} {g:Int→Int→Bool}
  (rule:∀ (i j:Int) (t u:Tok) (s:Shared) (Q:Value→Shared→Prop) (E:Value→Shared→Prop),Q (.bool (g i j)) s→wpAny (model X.prog X.w) X.A (f (.int i t) (.int j u)) Q E s) :
  iU X f (wN fun i j=>.bl (g i j)):=by
 intro pins s σ H x y v u Q I rx ry h
 obtain ⟨i,j,rfl,rfl,q⟩:=h
 obtain ⟨t,rfl⟩:=rx
 obtain ⟨t',rfl⟩:=ry
 exact rule i j t t' s _ _ ⟨.bl (g i j),H,I,rfl,q⟩
def KW (i j:Int):Prop:=0 < j∧j < 1073741824
def Gu (i j:Int):Prop:=j≠0∧j.natAbs < 1073741824
def EJ (i j:Int):Prop:=0≤j∧j≤1000000∧i.natAbs < 2 ^ 64
def KU (i j:Int):Prop:=(-(2 ^ 64) < i∧i < 2 ^ 64)∨(-(2 ^ 64) < j∧j < 2 ^ 64)
theorem bN:iU X (binaryOp .Add) (wN fun i j=>.int (i + j)):=Co fun _ _ _ _ _ _ _ q=>add_int q
theorem bJ:iU X (binaryOp .Mod) (rI (fun _ j=>0 < j) fun i j=>.int (i % j)):=AK fun i j _ _ _ _ _ hc q=>by
 have h1:(0:Int) < j:=hc
 exact mod_int' (by omega) (by rw [Int.fmod_eq_emod_of_nonneg i (by omega)]; exact q)
theorem iy:iU X (binaryOp .Pow) (rI EJ fun i j=>.int (i ^ j.toNat)):=AK fun _ _ _ _ _ _ _ hc q=>pow_int_small hc.1 hc.2.1 hc.2.2 q
theorem GB {f:Value→Sem Value} {g:Int→Int}
  (rule:∀ (i:Int) (t:Tok) (s:Shared) (Q:Value→Shared→Prop) (E:Value→Shared→Prop),Q (.int (g i) s.toks) { s with toks:=s.toks + 1 }→wpAny (model X.prog X.w) X.A (f (.int i t)) Q E s) :
  Ey X f (rU fun i=>.int (g i)):=by
 intro pins s σ H x v Q I rx h
 obtain ⟨i,rfl,q⟩:=h
 obtain ⟨t,rfl⟩:=rx
 exact rule i t s _ _ ⟨.int (g i),H,I.tok _,⟨_,rfl⟩,q⟩
theorem mI:Ey X (unaryOp .USub) (rU fun i=>.int (-i)):=GB fun _ _ _ _ _ q=>neg_int q
end
def yL:V→V→Bool
 | .bS,.bS=>true | .bS,.int _=>true | .int _,.bS=>true | .bS,.bl _=>true | .bl _,.bS=>true | .bS,.str _=>true | .str _,.bS=>true
 | .int _,.int _=>true | .bl _,.bl _=>true | .str _,.str _=>true | .mE _,.mE _=>true
 | .int _,.str _=>true | .str _,.int _=>true | .bl _,.str _=>true | .str _,.bl _=>true
 | _,_=>false
def B5:R2:=fun x y H Q=>yL x y = true∧Q (.bl (decide (x = y))) H
def BZ:R2:=fun x y H Q=>yL x y = true∧Q (.bl (!decide (x = y))) H
theorem hU {i j:Int}:decide (V.int i = V.int j) = (i == j):=by
 rw [Bool.eq_iff_iff]
 simp
theorem sZ {i j:Bool}:decide (V.bl i = V.bl j) = (i == j):=by
 rw [Bool.eq_iff_iff]
 simp
theorem hJ {i j:Str}:decide (V.str i = V.str j) = (i == j):=by
 rw [Bool.eq_iff_iff]
 simp
theorem oH {i j:Array UInt8}:decide (V.mE i = V.mE j) = (i.toList == j.toList):=by
 rw [Bool.eq_iff_iff]
 cases i
 cases j
 simp
section
variable {X:Cx} {a b c:Expr} {ta tb tc:TE} {pos:Pos}
theorem aJ {pins:List (Addr×Obj)} {σ : St} {H:Hp} {s:Shared} {Q:VK} {k k':Bool} (I:Inv X pins σ H s) (q:Q (.bl k) H) (e:k = k'):EP X pins σ Q (.bool k') s:=by
 subst e
 exact ⟨.bl k,H,I,rfl,q⟩
theorem d3:iU X (compareOp .Eq) B5:=by
 intro pins s σ H x y v u Q I rx ry h
 obtain ⟨hs,q⟩:=h
 cases x with
 | bS=>
  cases rx
  cases y with
  | bS=>cases ry; exact PySem.EqNone.eq_none_none (aJ I q (by simp))
  | bl j=>cases ry; exact PySem.EqNone.eq_none_bool (aJ I q (by simp))
  | int j=>obtain ⟨t',rfl⟩:=ry; exact PySem.EqNone.eq_none_int (aJ I q (by simp))
  | str j=>obtain ⟨t',rfl⟩:=ry; exact PySem.EqNone.eq_none_str (aJ I q (by simp))
  | _=>exact absurd (show false = true from hs) Bool.false_ne_true
 | bl i=>
  cases rx
  cases y with
  | bS=>cases ry; exact PySem.EqNone.eq_bool_none (aJ I q (by simp))
  | bl j=>cases ry; exact eq_bool (aJ I q sZ)
  | str j=>obtain ⟨t',rfl⟩:=ry; exact PySem.EqMixed.eq_bool_str (aJ I q (by simp))
  | _=>exact absurd (show false = true from hs) Bool.false_ne_true
 | int i=>
  obtain ⟨t,rfl⟩:=rx
  cases y with
  | bS=>cases ry; exact PySem.EqNone.eq_int_none (aJ I q (by simp))
  | int j=>obtain ⟨t',rfl⟩:=ry; exact eq_int (aJ I q hU)
  | str j=>obtain ⟨t',rfl⟩:=ry; exact PySem.EqMixed.eq_int_str (aJ I q (by simp))
  | _=>exact absurd (show false = true from hs) Bool.false_ne_true
 | str i=>
  obtain ⟨t,rfl⟩:=rx
  cases y with
  | bS=>cases ry; exact PySem.EqNone.eq_str_none (aJ I q (by simp))
  | bl j=>cases ry; exact PySem.EqMixed.eq_str_bool (aJ I q (by simp))
  | int j=>obtain ⟨t',rfl⟩:=ry; exact PySem.EqMixed.eq_str_int (aJ I q (by simp))
  | str j=>obtain ⟨t',rfl⟩:=ry; exact eq_str (aJ I q hJ)
  | _=>exact absurd (show false = true from hs) Bool.false_ne_true
 | mE i=>
  obtain ⟨t,rfl⟩:=rx
  cases y with
  | mE j=>obtain ⟨t',rfl⟩:=ry; exact PySem.W.eq_bytes (aJ I q oH)
  | _=>exact absurd (show false = true from hs) Bool.false_ne_true
 | _=>cases y <;> exact absurd (show false = true from hs) Bool.false_ne_true
theorem jC:iU X (compareOp .NotEq) BZ:=by
 intro pins s σ H x y v u Q I rx ry h
 obtain ⟨hs,q⟩:=h
 cases x with
 | bS=>
  cases rx
  cases y with
  | bS=>cases ry; exact PySem.EqNone.ne_none_none (aJ I q (by simp))
  | bl j=>cases ry; exact PySem.EqNone.ne_none_bool (aJ I q (by simp))
  | int j=>obtain ⟨t',rfl⟩:=ry; exact PySem.EqNone.ne_none_int (aJ I q (by simp))
  | str j=>obtain ⟨t',rfl⟩:=ry; exact PySem.EqNone.ne_none_str (aJ I q (by simp))
  | _=>exact absurd (show false = true from hs) Bool.false_ne_true
 | bl i=>
  cases rx
  cases y with
  | bS=>cases ry; exact PySem.EqNone.ne_bool_none (aJ I q (by simp))
  | bl j=>cases ry; exact ne_bool (aJ I q (congrArg not sZ))
  | str j=>obtain ⟨t',rfl⟩:=ry; exact PySem.EqMixed.ne_bool_str (aJ I q (by simp))
  | _=>exact absurd (show false = true from hs) Bool.false_ne_true
 | int i=>
  obtain ⟨t,rfl⟩:=rx
  cases y with
  | bS=>cases ry; exact PySem.EqNone.ne_int_none (aJ I q (by simp))
  | int j=>obtain ⟨t',rfl⟩:=ry; exact ne_int (aJ I q (congrArg not hU))
  | str j=>obtain ⟨t',rfl⟩:=ry; exact PySem.EqMixed.ne_int_str (aJ I q (by simp))
  | _=>exact absurd (show false = true from hs) Bool.false_ne_true
 | str i=>
  obtain ⟨t,rfl⟩:=rx
  cases y with
  | bS=>cases ry; exact PySem.EqNone.ne_str_none (aJ I q (by simp))
  | bl j=>cases ry; exact PySem.EqMixed.ne_str_bool (aJ I q (by simp))
  | int j=>obtain ⟨t',rfl⟩:=ry; exact PySem.EqMixed.ne_str_int (aJ I q (by simp))
  | str j=>obtain ⟨t',rfl⟩:=ry; exact ne_str (aJ I q (congrArg not hJ))
  | _=>exact absurd (show false = true from hs) Bool.false_ne_true
 | mE i=>
  obtain ⟨t,rfl⟩:=rx
  cases y with
  | mE j=>obtain ⟨t',rfl⟩:=ry; exact PySem.W.ne_bytes (aJ I q (congrArg not oH))
  | _=>exact absurd (show false = true from hs) Bool.false_ne_true
 | _=>cases y <;> exact absurd (show false = true from hs) Bool.false_ne_true
theorem ot:iU X (compareOp .Lt) (wN fun i j=>.bl (decide (i < j))):=wY fun _ _ _ _ _ _ _ q=>lt_int q
theorem ou:iU X (compareOp .Gt) (wN fun i j=>.bl (decide (j < i))):=wY fun _ _ _ _ _ _ _ q=>gt_int q
theorem vJ:iU X (compareOp .GtE) (wN fun i j=>.bl (decide (j≤i))):=wY fun _ _ _ _ _ _ _ q=>ge_int q
theorem ph:iU X (compareOp .In) (fun x y H Q=>∃ i j,x = .str i∧y = .str j∧Q (.bl (!(Builtin.Str.occurrences j i 0 j.length 1).isEmpty)) H):=by
 intro pins s σ H x y v u Q I rx ry h
 obtain ⟨i,j,rfl,rfl,q⟩:=h
 obtain ⟨t,rfl⟩:=rx
 obtain ⟨t',rfl⟩:=ry
 exact in_str (aJ I q rfl)
def isObj:HO→Bool
 | .lst _=>true
 | .ins _ _ _=>true
 | _=>false
theorem aP (b:Expr) {op:CmpOp} (h:op≠.In:=by decide) (h2:op≠.NotIn:=by decide):behindInMarks op b = false:=by
 have e1:(op == CmpOp.In) = false:=by cases op <;> first | rfl | exact absurd rfl h
 have e2:(op == CmpOp.NotIn) = false:=by cases op <;> first | rfl | exact absurd rfl h2
 cases b <;> simp [behindInMarks,e1,e2]
theorem dG {op:CmpOp} {r:R2} (ho:iU X (compareOp op) r) (ha:PE X a ta) (hb:PE X b tb) (hm:behindInMarks op b = false):PE X (.Compare a [op] [b] pos) (yq r ta tb):=by
 intro pins s σ H Q I h
 exact wpAny_Compare1 (xS ha hb I h fun v u s2 x y H2 I2 rx ry q=>ho pins s2 σ H2 x y v u Q I2 rx ry q) hm
def vn (t:TE):TT:=fun σ H Q=>t σ H fun x H'=>∃ k,x = .bl k∧Q k H'
theorem aF {op:CmpOp} {r:R2} (ho:iU X (compareOp op) r) (ha:PE X a ta) (hb:PE X b tb) (hm:behindInMarks op b = false):PT X (.Compare a [op] [b] pos) (vn (yq r ta tb)):=by
 intro pins s σ H Q I h
 refine wpAny_isTrue_Compare1 (cm (ha pins s σ H _ I h) fun v s1 ⟨x,H1,I1,r1,q1⟩=>cm (hb pins s1 σ H1 _ I1 q1) fun u s2 ⟨y,H2,I2,r2,q2⟩=>
  cm (ho pins s2 σ H2 x y v u _ I2 r1 r2 q2) fun c s3 ⟨z,H3,I3,r3,k,e,q3⟩=>?_) hm
 subst e
 cases r3
 exact wpAny_truthy_bool ⟨H3,I3,q3⟩
def BA (r r':R2) (ta tb tc:TE):TE:=fun σ H Q=>ta σ H fun x H1=>tb σ H1 fun y H2=>r x y H2 fun z H3=>∃ k,z = .bl k∧
 (if k = true then tc σ H3 fun w' H4=>r' y w' H4 Q else Q (.bl false) H3)
def Kj (K:PySem.W.Frag) (x:V) (H:Hp) (k:Bool):Prop:=
 match x with
 | .bS=>k = false
 | .bl b=>k = b
 | .int i=>k = (i != 0)
 | .str y=>y.length≤sizeLine∧k = ((y.length:Int) != 0)
 | .mE y=>y.size≤sizeLine∧k = ((y.size:Int) != 0)
 | .ref p=>(∃ xs,aO K H p xs∧k = !xs.isEmpty)∨(∃ xs,SqT K H p xs∧k = !xs.isEmpty)∨∃ aV,H p = some (.dK aV)∧k = !aV.isEmpty
 | _=>False
theorem iF:(sizeLine:Nat) < 2 ^ 63:=by rw [sizeLine_eq]; decide
theorem aY:iU X (binaryOp .Add) (fun x y H Q=>∃ i j,x = .str i∧y = .str j∧i.length + j.length≤sizeLine∧Q (.str (i ++ j)) H):=by
 intro pins s σ H x y v u Q I rx ry h
 obtain ⟨i,j,rfl,rfl,hz,q⟩:=h
 obtain ⟨t,rfl⟩:=rx
 obtain ⟨t',rfl⟩:=ry
 exact add_str (fun t' tk=>⟨.str (i ++ j),H,I.tok _,⟨_,rfl⟩,q⟩) hz
def Aj (b:Expr):Prop:=∀ o i,subscripted b false o i = operate [o,i] (getItem o i)
theorem vals1 {x:V} {us:List Value} (r:Vals [x] us):∃ u,us = [u]∧RelV x u:=by
 cases r with
 | cons r1 r2=>cases r2; exact ⟨_,rfl,r1⟩
theorem vals2 {x y:V} {us:List Value} (r:Vals [x,y] us):∃ u w',us = [u,w']∧RelV x u∧RelV y w':=by
 cases r with
 | cons r1 r2=>
  cases r2 with
  | cons r3 r4=>cases r4; exact ⟨_,_,rfl,r1,r3⟩
theorem qa (hc:X.calm = true):dB X (.builtin "min") (fun xs H Q=>∃ i j,xs = [.int i,.int j]∧Q (.int (if j < i then j else i)) H):=by
 intro pins s σ H xs us Q I r h
 obtain ⟨i,j,rfl,q⟩:=h
 obtain ⟨u,w',rfl,⟨t,rfl⟩,⟨t',rfl⟩⟩:=vals2 r
 refine min_two_ints (I.ok.hd hc) fun h' tk k=>⟨_,H,I.kept k,?_,q⟩
 by_cases hj:j < i
 ·rw [if_pos hj,if_pos hj]; exact ⟨_,rfl⟩
 ·rw [if_neg hj,if_neg hj]; exact ⟨_,rfl⟩
theorem cO:dB X (.type "str") (fun xs H Q=>∃ i,xs = [.int i]∧i.natAbs.log2 < 1920∧Q (.str (toString i)) H):=by
 intro pins s σ H xs us Q I r h
 obtain ⟨i,rfl,hz,q⟩:=h
 obtain ⟨u,rfl,t,rfl⟩:=vals1 r
 exact PySem.P.str_of_int hz ⟨.str _,H,I.tok _,⟨_,rfl⟩,q⟩
def ED (K:PySem.W.Frag) (x:V) (H:Hp) (n:Nat):Prop:=
 match x with
 | .str y=>y.length≤sizeLine∧n = y.length
 | .mE y=>y.size≤sizeLine∧n = y.size
 | .ref p=>(∃ xs,aO K H p xs∧n = xs.length)∨∃ xs,SqT K H p xs∧n = xs.length
 | _=>False
theorem bF:dB X (.builtin "len") (fun xs H Q=>∃ x n,xs = [x]∧ED X.K x H n∧Q (.int n) H):=by
 intro pins s σ H xs us Q I r h
 obtain ⟨x,n,rfl,e,q⟩:=h
 obtain ⟨u,rfl,rx⟩:=vals1 r
 have hl:=iF
 have hs:sizeLine = 16777216:=sizeLine_eq
 cases x with
 | str y=>
  obtain ⟨t,rfl⟩:=rx
  obtain ⟨hy,e'⟩:y.length≤sizeLine∧n = y.length:=e
  subst e'
  exact len_str (by omega) ⟨.int _,H,I.tok _,⟨_,rfl⟩,q⟩
 | mE y=>
  obtain ⟨t,rfl⟩:=rx
  obtain ⟨hy,e'⟩:y.size≤sizeLine∧n = y.size:=e
  subst e'
  exact PySem.W.len_bytes (by omega) ⟨.int _,H,I.tok _,⟨_,rfl⟩,q⟩
 | ref p=>
  cases rx
  have e':(∃ xs,aO X.K H p xs∧n = xs.length)∨∃ xs,SqT X.K H p xs∧n = xs.length:=e
  rcases e' with ⟨xs,hx,e'⟩ | ⟨xs,hx,e'⟩
  ·subst e'
   obtain ⟨aQ,r',pl,hz⟩:=I.list hx
   have hlen:=r'.length
   exact Calls.call_len_list pl.isList (by simp only [List.size_toArray]; omega) ⟨.int xs.length,H,I.tok _,⟨_,by simp only [List.size_toArray]; rw [hlen]⟩,q⟩
  ·subst e'
   obtain ⟨aQ,r',pl,hz⟩:=I.tuple hx
   have hlen:=r'.length
   exact len_tuple pl (by simp only [List.size_toArray]; omega) ⟨.int xs.length,H,I.tok _,⟨_,by simp only [List.size_toArray]; rw [hlen]⟩,q⟩
 | _=>exact (show False from e).elim
end
end L2
namespace L2
open PySem PySem.Spec PyProof.Rows
structure xY (h:Heap) (x dx C:Addr) (mA:Str→Option Value):Prop where
 obj:h.get? x = some (PySem.W.instObj C dx)
 ns:h.Ns1 dx mA
 ne:dx≠x
theorem jH {h:Heap} {dx:Addr} {mA:Str→Option Value} (n:h.Ns1 dx mA):∃ od,h.get? dx = some od∧∀ name,PySem.W.lookIn name od = some (mA name):=by
 obtain ⟨o,es,ep,ho,hd,hk,_,hm⟩:=n
 refine ⟨o,ho,fun name=>?_⟩
 have e:=hm name
 unfold nsFind findBy at e
 rw [← Array.find?_toList] at e
 unfold PySem.W.lookIn
 rw [hd]
 dsimp only
 split
 ·rename_i y q
  rw [q] at e
  exact congrArg some e
 ·rename_i q
  rw [q] at e
  have a:es.toList.any (·.refKey) = false:=by
   rw [List.any_eq_false]
   intro y hy
   obtain ⟨z,t,Dm⟩:=hk y (Array.mem_toList_iff.mp hy)
   simp [DictEntry.refKey,Dm]
  have a':¬ es.toList.any (·.refKey) = true:=by rw [a]; exact Bool.false_ne_true
  rw [if_neg a']
  exact congrArg some e
theorem xY.look {h:Heap} {x dx C:Addr} {mA:Str→Option Value} (I:xY h x dx C mA):∃ od,PySem.W.InstAt h x (PySem.W.instObj C dx) C (some od)∧∀ name,PySem.W.lookIn name od = some (mA name):=
 let ⟨od,ho,hl⟩:=jH I.ns
 ⟨od,⟨I.obj,rfl,rfl,ho⟩,hl⟩
def wO (f:Str) (v:V):List (Str×V)→List (Str×V)
 | []=>[(f,v)]
 | (g,x) :: r=>if g = f then (g,v) :: r else (g,x) :: wO f v r
theorem mx.some_of {v:V} {o:Option Value} (r:mx (some v) o):∃ u,o = some u∧RelV v u:=by
 cases o with
 | none=>exact (show False from r).elim
 | some u=>exact ⟨u,rfl,r⟩
theorem pR {v:V} {u:Value} (r:RelV v u):PySem.W.handedIn u = true:=by
 cases v with
 | bS=>cases (show u = Value.none from r); rfl
 | bl b=>cases (show u = Value.bool b from r); rfl
 | int i=>obtain ⟨t,e⟩:=(show ∃ t,u = Value.int i t from r); cases e; rfl
 | str x=>obtain ⟨t,e⟩:=(show ∃ t,u = Value.str x t from r); cases e; rfl
 | mE b=>obtain ⟨t,e⟩:=(show ∃ t,u = Value.bytes b t from r); cases e; rfl
 | mD b=>obtain ⟨t,e⟩:=(show ∃ t,u = Value.float b t from r); cases e; rfl
 | ref a=>cases (show u = Value.ref a from r); rfl
 | ty n=>cases (show u = Value.type n from r); rfl
section
variable {P:Program} {w:World} {H H':Hp} {h h':Heap} {a C dx:Addr} {fs zL:List (Str×V)}
theorem uC (bb:fz P w H h) (e:H a = some (.ins C dx fs)):∃ mA,xY h a dx C mA∧(∀ f,mx (fs.lookup f) (mA f))∧PySem.Within mA (fs.map (·.1))∧fs.length≤1000∧H dx = some (.own a):=by
 obtain ⟨d,z,ne,ob,mA,n,r,q⟩:=(show bu P w H h a (.ins C dx fs) from bb a _ e)
 exact ⟨mA,⟨ob,n,ne⟩,r,q,z,d⟩
end
structure x8 (K:PySem.W.Frag) (C:Addr):Prop where
 pg:PySem.W.plainGet K C Str.empty = true
 hd:PySem.W.hasDictIn K C = true
 po:PySem.W.plainOver K C = true
 sa:PySem.W.findIn K (.ref C) "__setattr__" = some (some (.builtin "object.__setattr__"))
theorem x8.get {K:PySem.W.Frag} {C:Addr} (c:x8 K C) (f:Str):PySem.W.plainGet K C f = true:=c.pg
def nO (K:PySem.W.Frag) (C:Addr) (f:Str):Prop:=PySem.W.findIn K (.ref C) f = some none
structure KS (K:PySem.W.Frag) (C:Addr) (f:Str) (v:V) (u:Value):Prop where
 at_:PySem.W.findIn K (.ref C) f = some (some u)
 rel:RelV v u
 get:PySem.W.specialIn K u "__get__" = some none
 cp:PySem.W.copiedNames.contains f = false
structure Meth (K:PySem.W.Frag) (C:Addr) (m:Str) (f:Addr):Prop where
 at_:PySem.W.findIn K (.ref C) m = some (some (.ref f))
 fn:PySem.W.isFn K (.ref f) = true
 kp:PySem.W.keepIn K (.ref f) = true
section
variable {X:Cx} {pins:List (Addr×Obj)} {σ : St} {H:Hp} {s:Shared} {a C dx:Addr} {fs:List (Str×V)} {f:Str} {v:V} {A:Around} {E:Value→Shared→Prop}
theorem vb {prog:Program} {w:World} {env:Env} {e:Expr} {f:Str} {pos:Pos} {s:Shared} {Q:Value→Shared→Prop} (hb:attributeBase e f env (eval e env) = eval e env)
  (h:wpAny (model prog w) A (eval e env) (fun o s₁=>wpAny (model prog w) A (getAttr o f true) Q E s₁) E s):wpAny (model prog w) A (eval (.Attribute e f pos) env) Q E s:=
 Attribute_any_ h (by rw [arm_eval_Attribute,hb])
end
def GO (K:PySem.W.Frag) (ta:TE) (f:Str):TE:=fun σ H Q=>ta σ H fun x H1=>∃ a C dx fs v,x = .ref a∧H1 a = some (.ins C dx fs)∧x8 K C∧nO K C f∧fs.lookup f = some v∧Q v H1
def GR (K:PySem.W.Frag) (ta:TE) (f:Str):TE:=fun σ H Q=>ta σ H fun x H1=>∃ a C dx fs v u,x = .ref a∧H1 a = some (.ins C dx fs)∧x8 K C∧KS K C f v u∧fs.lookup f = none∧Q v H1
def G6 (K:PySem.W.Frag) (ta tv:TE) (f:Str):TS:=fun D σ H=>tv σ H fun y H1=>ta σ H1 fun x H2=>∃ a C dx fs,x = .ref a∧H2 a = some (.ins C dx fs)∧x8 K C∧nO K C f∧fs.length < 1000∧
 D.nx σ (upd H2 a (.ins C dx (wO f y fs)))
def KA (X:Cx) (op:Operator) (rd:V→V→Hp→VK→Prop):Prop:=
 ∀ (pins:List (Addr×Obj)) (s:Shared) (σ : St) (H:Hp) (x y:V) (u v:Value) (Q:VK),Inv X pins σ H s→RelV x u→RelV y v→rd x y H Q→wpAny (model X.prog X.w) X.A (inplaceOp op u v) (EP X pins σ Q) X.xe s
def AA (K:PySem.W.Frag) (ta tv:TE) (rd:V→V→Hp→VK→Prop) (f:Str):TS:=fun D σ H=>ta σ H fun x H1=>∃ a C dx fs v,x = .ref a∧H1 a = some (.ins C dx fs)∧x8 K C∧nO K C f∧fs.lookup f = some v∧
 tv σ H1 fun y H2=>rd v y H2 fun z H3=>∃ F4 zL,H3 a = some (.ins C F4 zL)∧zL.length < 1000∧D.nx σ (upd H3 a (.ins C F4 (wO f z zL)))
section
variable {X:Cx} {o e value:Expr} {f:Str} {pos pos' GD:Pos} {ta tv:TE}
def Ho:V→V→Hp→VK→Prop:=fun x y H Q=>∃ i j,x = .int i∧y = .int j∧Q (.int (i + j)) H
def Ha:V→V→Hp→VK→Prop:=fun x y H Q=>∃ i j,x = .int i∧y = .int j∧Q (.int (i - j)) H
end
section
variable {X:Cx} {pins:List (Addr×Obj)} {σ : St} {H:Hp} {s:Shared} {A:Around} {E:Value→Shared→Prop} {Q:Value→Shared→Prop} {c:Value} {b:Bool}
inductive gd (K:PySem.W.Frag) (H:Hp):V→Value→Prop where
 | bS:gd K H .bS (.type "NoneType")
 | bl (x:Bool):gd K H (.bl x) (.type "bool")
 | int (i:Int):gd K H (.int i) (.type "int")
 | str (x:Str):gd K H (.str x) (.type "str")
 | mD (x:UInt64):gd K H (.mD x) (.type "float")
 | lst {a:Addr} {xs:List V} (e:H a = some (.lst xs)):gd K H (.ref a) (.type "list")
 | iK {a:Addr} {o:Obj} {xs:List V} (e:H a = some (.iK o (.lst xs))):gd K H (.ref a) (.type "list")
 | tup {a:Addr} {xs:List V} (e:H a = some (.tup xs)):gd K H (.ref a) (.type "tuple")
 | dK {a:Addr} {aV:List (Key×V)} (e:H a = some (.dK aV)):gd K H (.ref a) (.type "dict")
 | dT {a:Addr} {aV:List (List Key×V)} (e:H a = some (.dT aV)):gd K H (.ref a) (.type "dict")
 | ins {a C dx:Addr} {fs:List (Str×V)} (e:H a = some (.ins C dx fs)) (cl:x8 K C) (ha:PySem.W.findIn K (.ref C) "__class__" = some (some (.builtin "object.__class__")))
   (hn:PySem.W.specialIn K (.builtin "object.__class__") "__get__" = some (some (.builtin "getset_descriptor.__get__"))) (AV:PySem.W.takesIn K (.builtin "object.__class__") = some true)
   (hm:PySem.W.mroIn K C (.type "object") = some true):gd K H (.ref a) (.ref C)
theorem pL {x:V} {u t:Value} (I:Inv X pins σ H s) (rx:RelV x u) (ty:gd X.K H x t) (e:PySem.W.kitOne X.K t c = some b) (h:∀ tk,Q (.bool b) { s with toks:=tk }) :
  wpAny (model X.prog X.w) A (call (.builtin "isinstance") [u,c]) Q E s:=by
 cases ty with
 | bS=>cases (show u = Value.none from rx); exact PySem.W.kia_one PySem.W.kitx_none I.ft True.intro e (fun z=>nomatch z) h
 | bl y=>cases (show u = Value.bool y from rx); exact PySem.W.kia_one PySem.W.kitx_bool I.ft True.intro e (fun z=>nomatch z) h
 | int i=>obtain ⟨t,q⟩:=(show ∃ t,u = Value.int i t from rx); cases q; exact PySem.W.kia_one PySem.W.kitx_int I.ft True.intro e (fun z=>nomatch z) h
 | str y=>obtain ⟨t,q⟩:=(show ∃ t,u = Value.str y t from rx); cases q; exact PySem.W.kia_one PySem.W.kitx_str I.ft True.intro e (fun z=>nomatch z) h
 | mD y=>obtain ⟨t,q⟩:=(show ∃ t,u = Value.float y t from rx); cases q; exact PySem.W.kia_one PySem.W.kitx_float I.ft True.intro e (fun z=>nomatch z) h
 | @lst a xs ea=>
  cases (show u = Value.ref a from rx)
  obtain ⟨_,_,n,_,h1⟩:=(show bu X.prog X.w H s.heap a (.lst xs) from I.bb a _ ea)
  exact PySem.W.kia_one PySem.W.kitx_list I.ft ⟨_,h1,rfl⟩ e (fun z=>nomatch z) h
 | @iK a ob xs ea=>
  cases (show u = Value.ref a from rx)
  obtain ⟨_,_,_,n,_,h1⟩:=(show bu X.prog X.w H s.heap a (.iK ob (.lst xs)) from I.bb a _ ea)
  exact PySem.W.kia_one PySem.W.kitx_list I.ft ⟨_,h1,rfl⟩ e (fun z=>nomatch z) h
 | @tup a xs ea=>
  cases (show u = Value.ref a from rx)
  obtain ⟨_,_,_,p⟩:=(show bu X.prog X.w H s.heap a (.tup xs) from I.bb a _ ea)
  obtain ⟨o,h1,h2,_⟩:=p
  exact PySem.W.kia_one PySem.W.kitx_tuple I.ft ⟨o,h1,h2⟩ e (fun z=>nomatch z) h
 | @dK a aV ea=>
  cases (show u = Value.ref a from rx)
  obtain ⟨_,_,vs,_,p⟩:=(show bu X.prog X.w H s.heap a (.dK aV) from I.bb a _ ea)
  obtain ⟨o,es,ep,h1,h2,_⟩:=p
  exact PySem.W.kia_one PySem.W.kitx_dict I.ft ⟨o,h1,h2.1⟩ e (fun z=>nomatch z) h
 | @dT a aV ea=>
  cases (show u = Value.ref a from rx)
  obtain ⟨_,_,xs,_,o,es,ep,h1,h2,_⟩:=(show bu X.prog X.w H s.heap a (.dT aV) from I.bb a _ ea)
  exact PySem.W.kia_one PySem.W.kitx_dict I.ft ⟨o,h1,h2.1⟩ e (fun z=>nomatch z) h
 | @ins a C dx fs ea cl ha hn AV hm=>
  cases (show u = Value.ref a from rx)
  obtain ⟨mA,O,_⟩:=uC I.bb ea
  obtain ⟨od,J,_⟩:=O.look
  exact PySem.W.kia_one (PySem.W.kitx_own (cl.get _) cl.hd ha hn AV hm) I.ft J e (fun z=>nomatch z) h
end
end L2
namespace L2
open PySem PySem.Spec PyProof.Rows
structure cu (k:Nat) (A:Around):Prop where
 hd:A.handled = none
 dp:A.depth + 3 * k + 5 < recursionLimit
 un:A.units + 16 * k + 200 < cLine
theorem cu.mono {j k:Nat} {A:Around} (r:cu k A) (h:j≤k):cu j A:=⟨r.hd,by have:=r.dp; omega,by have:=r.un; omega⟩
theorem cu.deeper {k:Nat} {A:Around} (r:cu (k + 1) A) (env:Env):cu k (A.deeper env):=
 ⟨r.hd,by have:=r.dp; show A.depth + 1 + 3 * k + 5 < _; omega,by have:=r.un; show A.units + 3 + 16 * k + 200 < _; omega⟩
theorem nq {A:Around} {C:Addr} {us:List Value} {kw:List (Str×Value)}:(A.under (.builtin "type.__call__" ⟨.ref C :: us,kw⟩)).depth = A.depth + 1:=by
 first | rfl | simp [Around.under,Code.weight,Code.isCreation,Code.isGuard,Code.isCaller,Code.frames,Code.isFrame,guardIds]
theorem nj {A:Around} {C:Addr} {us:List Value} {kw:List (Str×Value)}:(A.under (.builtin "type.__call__" ⟨.ref C :: us,kw⟩)).units = A.units + 1:=by
 first | rfl | simp [Around.under,Code.cUnits,Code.frames,Code.isFrame]
theorem cu.make {k:Nat} {A:Around} (r:cu (k + 1) A) (C:Addr) (us:List Value) (kw:List (Str×Value)):cu k (A.under (.builtin "type.__call__" ⟨.ref C :: us,kw⟩)):=
 ⟨r.hd,by have:=r.dp; rw [nq]; omega,by have:=r.un; rw [nj]; omega⟩
theorem cu.depth {k:Nat} {A:Around} (r:cu k A):A.depth < recursionLimit:=by have:=r.dp; omega
theorem cu.units {k:Nat} {A:Around} (r:cu k A):A.units + 64 < cLine:=by have:=r.un; omega
def yu:TA:=fun _ H Q=>Q [] H
def vv (ta:TE) (tr:TA):TA:=fun σ H Q=>ta σ H fun x H1=>tr σ H1 fun xs H2=>Q (x :: xs) H2
section
variable {X:Cx} {e:Expr} {es:List Expr} {te:TE} {t:TA} {pos:Pos}
theorem af:PA X [] yu:=fun _ _ _ _ H Q I h=>Calls.spliced_nil ⟨[],H,I,.nil,h⟩
theorem aa (ha:PE X e te) (hr:PA X es t) (hs:starEach (e :: es) X.env = (false,eval e X.env) :: starEach es X.env:=by rfl):PA X (e :: es) (vv te t):=by
 intro pos pins s σ H Q I h
 rw [hs]
 show wpAny _ _ (spliced ((false,eval e X.env) :: backTo pos (starEach es X.env))) _ _ s
 refine Calls.spliced_cons (cm (ha pins s σ H _ I h) fun u s1 ⟨x,H1,I1,r1,q1⟩=>?_)
 exact cm (hr pos pins s1 σ H1 _ I1 q1) fun us s2 ⟨xs,H2,I2,r2,q2⟩=>⟨x :: xs,H2,I2,.cons r1 r2,q2⟩
def yj (t:TA):TE:=fun σ H Q=>t σ H fun xs H1=>xs.length≤sizeLine∧∀ p,H1 p = none→Q (.ref p) (upd H1 p (.tup xs))
def yx (t:TA):TE:=fun σ H Q=>t σ H fun xs H1=>xs.length≤sizeLine∧∀ p,H1 p = none→Q (.ref p) (upd H1 p (.lst xs))
theorem rR {x1} (h:PA X es t):PE X (.Tuple es x1 pos) (yj t):=by
 intro pins s σ H Q I hq
 refine wpAny_Tuple_spliced (cm (h pos pins s σ H _ I hq) fun us s1 ⟨xs,H1,I1,r,z,q⟩=>⟨by rw [← r.length]; exact z,?_⟩)
 have hf:H1 s1.heap.objs.size = none:=I1.bb.fresh (Nat.le_refl _)
 refine ⟨.ref s1.heap.objs.size,upd H1 s1.heap.objs.size (.tup xs),I1.laid (t':=s1.toks) (fun b u e=>Heap.get?_push_of_some _ e) (Nat.le_refl _) ?_,rfl,q _ hf⟩
 exact ⟨z,us,r,⟨_,Heap.get?_push_size _ rfl,rfl,_,rfl⟩⟩
theorem nh (h:PA X es t):PE X (.List es pos) (yx t):=by
 intro pins s σ H Q I hq
 refine wpAny_List_spliced (cm (h pos pins s σ H _ I hq) fun us s1 ⟨xs,H1,I1,r,z,q⟩=>⟨by rw [← r.length]; exact z,?_⟩)
 have hf:H1 s1.heap.objs.size = none:=I1.bb.fresh (Nat.le_refl _)
 refine ⟨.ref s1.heap.objs.size,upd H1 s1.heap.objs.size (.lst xs),I1.laid (t':=s1.toks) (fun b u e=>Heap.get?_push_of_some _ e) (Nat.le_refl _) ?_,rfl,q _ hf⟩
 exact ⟨z,us,0,r,Heap.get?_push_size _ rfl⟩
end
abbrev Sp:=List V→Hp→VK→XK→Prop
abbrev js:=List Env→Hp→Shared→XK→Value→Shared→Prop
structure nS (P:Program) (w:World) (K:PySem.W.Frag) (mg:Str→Option Value) (base:Heap) (A:Around) (outer:List Env) (s:Shared) (H:Hp):Prop where
 frames:A.frames = some outer
 mod:Mod K mg base
 bs:∀ b o,base.get? b = some o→s.heap.get? b = some o∧H b = none
 u9:base.objs.size≤s.heap.objs.size
 fW:s.heap.FunFrames base outer
 vS:∀ b∈dy outer,H b = none
 bb:fz P w H s.heap
 bare:AllBare s.gens
def CE (outer:List Env) (P:Program) (w:World) (H:Hp) (s:Shared) (Q:VK) (u:Value) (s':Shared):Prop:=
 ∃ v H',s'.os = s.os∧AllBare s'.gens∧Un (dy outer) [] H H' s.heap s'.heap∧fz P w H' s'.heap∧RelV v u∧Q v H'
def CR (CX:js) (outer:List Env) (P:Program) (w:World) (H:Hp) (s:Shared) (Q:VK) (E:XK) (r:Result) (s':Shared):Prop:=
 match r with
 | .ok (.ret u)=>CE outer P w H s Q u s'
 | .ok _=>False
 | .error e=>CX outer H s E e s'
structure fA (P:Program) (w:World) (K:PySem.W.Frag) (mg:Str→Option Value) (base:Heap) (CX:js) (k:Nat) (f:Addr) (fd:FuncData) (ps:List Str) (sp:Sp):Prop where
 len:∀ vs H Q E,sp vs H Q E→vs.length = ps.length
 run:∀ (A:Around) (outer:List Env) (s:Shared) (H:Hp) (args:Args) (us:List Value) (vs:List V) (Q:VK) (E:XK),cu k A→nS P w K mg base A outer s H→BindsTo s fd args (ps.zip us)→Vals vs us→sp vs H Q E→
  codeAny (model P w) A (.call (.ref f) args) (CR CX outer P w H s Q E) s
theorem nS.make {P:Program} {w:World} {K:PySem.W.Frag} {mg:Str→Option Value} {base:Heap} {A:Around} {outer:List Env} {s:Shared} {H:Hp} (e:nS P w K mg base A outer s H) (C:Addr) (us:List Value) (kw:List (Str×Value)) :
  nS P w K mg base (A.under (.builtin "type.__call__" ⟨.ref C :: us,kw⟩)) outer s H:=⟨by first | exact e.frames | (simpa [Around.under,Code.envs,Code.isFrame,pushEnvs] using e.frames),e.mod,e.bs,e.u9,e.fW,e.vS,e.bb,e.bare⟩
section
variable {X:Cx} {pins:List (Addr×Obj)} {σ : St} {H:Hp} {s s':Shared}
theorem Inv.xM (I:Inv X pins σ H s):nS X.prog X.w X.K X.mg X.base X.A X.stack s H:=
 ⟨I.ok.frames,I.ok.mod,I.bs,Nat.le_trans I.ok.u9 I.sz,I.stack,I.j5,I.bb,I.bare⟩
theorem Inv.after {Q:VK} {u:Value} (I:Inv X pins σ H s) (h:CE X.stack X.prog X.w H s Q u s'):EP X pins σ Q u s':=by
 obtain ⟨v,H',os,bare,un,bb,r,q⟩:=h
 obtain ⟨hh,g,d,t,HD⟩:=s'
 obtain rfl:HD = s.os:=os
 exact ⟨v,H',I.call (h':=hh) (g':=g) (d':=d) (t':=t) (ch:=[]) un bb bare (fun b z=>absurd z (by simp)),r,q⟩
end
def qD (sp:Sp) (qw:List V) (E:XK) (t:TA):TE:=fun σ H Q=>t σ H fun vs H1=>sp (vs ++ qw) H1 Q E
def EZ (C:Addr) (m:Str) (sp:Sp) (qw:List V) (E:XK) (ta:TE) (t:TA):TE:=fun σ H Q=>ta σ H fun x H1=>∃ a dx fs,x = .ref a∧H1 a = some (.ins C dx fs)∧fs.lookup m = none∧
 t σ H1 fun vs H2=>sp (x :: (vs ++ qw)) H2 Q E
def E1 (C:Addr) (sp:Sp) (qw:List V) (E:XK) (t:TA):TE:=fun σ H Q=>t σ H fun vs H1=>∀ x dx,H1 x = none→H1 dx = none→dx≠x→
 sp (.ref x :: (vs ++ qw)) (upd (upd H1 dx (.own x)) x (.ins C dx [])) (fun v H2=>v = .bS∧Q (.ref x) H2) E
def Binds (K:PySem.W.Frag) (fd:FuncData) (ps:List Str) (ds:List Value):Prop:=
 ∀ (s:Shared) (us:List Value),K.In s.heap→(us ++ ds).length = ps.length→BindsTo s fd ⟨us,[]⟩ (ps.zip (us ++ ds))
theorem Binds.all {K:PySem.W.Frag} {fd:FuncData} {ps:List Str} (h:∀ us:List Value,us.length = ps.length→bindArgs fd ⟨us,[]⟩ = pure (ps.zip us)):Binds K fd ps []:=fun s us _ hl=>by
 rw [List.append_nil] at hl ⊢
 exact .of_eq (h us hl)
def Passes (CX:js) (X:Cx) (E:XK):Prop:=∀ (pins:List (Addr×Obj)) (σ : St) (H:Hp) (s:Shared) (e:Value) (s':Shared),Inv X pins σ H s→CX X.stack H s E e s'→X.xe e s'
section
variable {X:Cx} {CX:js} {k:Nat} {f C:Addr} {fd:FuncData} {ps:List Str} {sp:Sp} {qw:List V} {ds:List Value} {E:XK} {x m:Str} {p pos apos:Pos} {e o:Expr} {es:List Expr} {ta:TE} {t:TA}
theorem wB {pins:List (Addr×Obj)} {σ : St} {H:Hp} {s:Shared} {Q:VK} {us:List Value} {vs:List V} (F:fA X.prog X.w X.K X.mg X.base CX k f fd ps sp) (hr:cu k X.A) (hb:Binds X.K fd ps ds) (hd:Vals qw ds) (hx:Passes CX X E)
  (I:Inv X pins σ H s) (r:Vals vs us) (h:sp (vs ++ qw) H Q E):wpAny (model X.prog X.w) X.A (call (.ref f) us) (EP X pins σ Q) X.xe s:=by
 have r2:Vals (vs ++ qw) (us ++ ds):=r.append hd
 have hl:(us ++ ds).length = ps.length:=by rw [← r2.length]; exact F.len _ _ _ _ h
 refine wpAny_call (codeAny_mono (F.run X.A X.stack s H ⟨us,[]⟩ (us ++ ds) (vs ++ qw) Q E hr I.xM (hb s us I.ft hl) r2 h) fun r s' hq=>?_)
 cases r with
 | error e=>exact hx pins σ H s e s' I hq
 | ok fl=>
  cases fl with
  | ret u=>exact I.after hq
  | next=>exact False.elim hq
  | brk=>exact False.elim hq
  | cont=>exact False.elim hq
theorem um (F:fA X.prog X.w X.K X.mg X.base CX k f fd ps sp) (hr:cu k X.A) (hg:Gl X x) (hm:X.mg x = some (.ref f)) (hk:PySem.W.keepIn X.K (.ref f) = true) (hb:Binds X.K fd ps ds) (hd:Vals qw ds) (hx:Passes CX X E)
  (ha:PA X (e :: es) t) (kC:(x == ("__debug__" : Str)) = false:=by decide) (he:starEach (e :: es) X.env = (false,eval e X.env) :: starEach es X.env:=by rfl) (i7:(backTo pos (starEach es X.env)).any (·.1) = false:=by rfl) :
  PE X (.Call (.Name x p) (e :: es) [] pos) (qD sp qw E t):=by
 intro pins s σ H Q I h
 refine wpAny_Call_Name_kw (dI I hg hm ?_ kC)
 refine PySem.W.callWith_K (h₀:=X.base) I.ok.mod.xi hk (cm (ha pos pins s σ H _ I h) fun us s1 ⟨vs,H1,I1,r,q⟩=>⟨I1.ft,?_⟩) he i7
 exact wB F hr hb hd hx I1 r q
structure Mk (K:PySem.W.Frag) (C f:Addr):Prop where
 makes:PySem.W.makesIn K C = true
 init:PySem.W.findIn K (.ref C) "__init__" = some (some (.ref f))
 fn:PySem.W.isFn K (.ref f) = true
 kp:PySem.W.keepIn K (.ref C) = true
end
def PK (X:Cx) (Fv:List Keyword) (t:TA):Prop:=
 ∀ (pos:Pos) (pins:List (Addr×Obj)) (s:Shared) (σ : St) (H:Hp) (Q:List V→Hp→Prop),Inv X pins σ H s→t σ H Q→wpAny (model X.prog X.w) X.A (evalAll ((backToKw pos (keywordEach Fv X.env)).map (·.2))) (AP X pins σ Q) X.xe s
section
variable {X:Cx} {CX:js} {k:Nat} {f C:Addr} {fd:FuncData} {ps ks:List Str} {sp:Sp} {E:XK} {x m:Str} {p pos apos Il:Pos} {e o:Expr} {es:List Expr} {Fv:List Keyword} {te ta:TE} {t tk:TA} {nm:Option Str}
structure EE (K:PySem.W.Frag) (fd:FuncData) (ps ks:List Str) (g:List Value→List Value→List Value) (gV:List V→List V→List V):Prop where
 to:∀ (s:Shared) (us ws:List Value),K.In s.heap→(g us ws).length = ps.length→BindsTo s fd ⟨us,ks.zip ws⟩ (ps.zip (g us ws))
 rel:∀ {vs:List V} {us:List Value} {zs:List V} {ws:List Value},Vals vs us→Vals zs ws→Vals (gV vs zs) (g us ws)
def BB (sp:Sp) (gV:List V→List V→List V) (E:XK) (t tk:TA):TE:=fun σ H Q=>t σ H fun vs H1=>tk σ H1 fun zs H2=>sp (gV vs zs) H2 Q E
variable {g:List Value→List Value→List Value} {gV:List V→List V→List V}
end
structure aG (N P:List Str) (sc:Scope):Prop where
 kind:sc.kind = .function
 co:sc.isCoroutine = false
 gen:sc.isGenerator = false
 nd:N.Nodup
 pre:N.take P.length = P
 par:∀ x∈P,sc.names.lookup x = some .local∨sc.names.lookup x = some .cell
 xa:∀ y∈sc.names,y.2≠.free
theorem jR {kindOf:Str→Option NameKind} {x:Str}:∀ {binds:List (Str×Value)} {m:Str→Option Value},(∀ v,(x,v)∉binds)→bindL kindOf binds m x = m x
 | [],_,_=>rfl
 | (n,v) :: r,m,h=>by
  unfold bindL
  rw [jR fun w hw=>h w (List.mem_cons_of_mem _ hw)]
  split
  ·have:x≠n:=by rintro rfl; exact h v List.mem_cons_self
   simp [this]
  ·rfl
theorem jT {kindOf:Str→Option NameKind} {x:Str}:∀ {binds:List (Str×Value)} {m:Str→Option Value},(∀ v,(x,v)∉binds)→bindC kindOf binds m x = m x
 | [],_,_=>rfl
 | (n,v) :: r,m,h=>by
  unfold bindC
  rw [jT fun w hw=>h w (List.mem_cons_of_mem _ hw)]
  split
  ·rfl
  ·have:x≠n:=by rintro rfl; exact h v List.mem_cons_self
   simp [this]
theorem jS {kindOf:Str→Option NameKind} {x:Str} {v:Value}:∀ {P:List Str} {vs:List Value} {i:Nat} {m:Str→Option Value},P.Nodup→P[i]? = some x→vs[i]? = some v→kindOf x = some .local→
  bindL kindOf (P.zip vs) m x = some v
 | [],_,_,_,_,h,_,_=>by simp at h
 | _ :: _,[],_,_,_,_,h,_=>by simp at h
 | p :: P,w :: vs,0,m,nd,h1,h2,hk=>by
  simp at h1 h2; subst h1; subst h2
  show bindL kindOf ((p,w) :: P.zip vs) m p = _
  unfold bindL
  rw [jR fun v hv=>(List.nodup_cons.mp nd).1 (List.of_mem_zip hv).1,if_pos hk]
  simp
 | p :: P,w :: vs,i + 1,m,nd,h1,h2,hk=>by
  show bindL kindOf ((p,w) :: P.zip vs) m x = _
  unfold bindL
  exact jS (i:=i) (List.nodup_cons.mp nd).2 (by simpa using h1) (by simpa using h2) hk
theorem jU {kindOf:Str→Option NameKind} {x:Str} {v:Value}:∀ {P:List Str} {vs:List Value} {i:Nat} {m:Str→Option Value},P.Nodup→P[i]? = some x→vs[i]? = some v→kindOf x≠some .local→
  bindC kindOf (P.zip vs) m x = some v
 | [],_,_,_,_,h,_,_=>by simp at h
 | _ :: _,[],_,_,_,_,h,_=>by simp at h
 | p :: P,w :: vs,0,m,nd,h1,h2,hk=>by
  simp at h1 h2; subst h1; subst h2
  show bindC kindOf ((p,w) :: P.zip vs) m p = _
  unfold bindC
  rw [jT fun v hv=>(List.nodup_cons.mp nd).1 (List.of_mem_zip hv).1,if_neg hk]
  simp
 | p :: P,w :: vs,i + 1,m,nd,h1,h2,hk=>by
  show bindC kindOf ((p,w) :: P.zip vs) m x = _
  unfold bindC
  exact jU (i:=i) (List.nodup_cons.mp nd).2 (by simpa using h1) (by simpa using h2) hk
def start (N:List Str) (vs:List V):St:=vs.map some ++ List.replicate (N.length - vs.length) none
def eI (CX:js) (P:Program) (w:World) (K:PySem.W.Frag) (mg:Str→Option Value) (base:Heap) (N:List Str) (qual:Str) (scope:Scope) (f:Addr) (cd:Value) (A:Around) (outer:List Env) (s:Shared) (H:Hp) (E:XK):Cx where
 prog:=P
 w:=w
 K:=K
 mg:=mg
 base:=base
 A:=A.deeper (envOfC qual scope s.heap.objs.size f cd)
 N:=N
 s₀:=s
 H₀:=H
 env:=envOfC qual scope s.heap.objs.size f cd
 outer:=outer
 stack:=envOfC qual scope s.heap.objs.size f cd :: outer
 ex:=[]
 calm:=true
 fn:=fun _=>true
 pn:=[]
 xe:=fun e s'=>wpAny (model P w) (A.deeper (envOfC qual scope s.heap.objs.size f cd)) (leaving (envOfC qual scope s.heap.objs.size f cd) e) (fun _ o6=>CX outer H s E e o6) (fun e' o6=>CX outer H s E e' o6) s'
theorem mi {sc:Scope} {n:Nat} {x:Str} (h:sc.names.lookup x = some .cell):∃ c,(cellsFrom n sc.names []).lookup x = some c:=by
 have q:=PySem.W.cellsFrom_some sc.names n [] (.inl h)
 exact Option.isSome_iff_exists.mp q
theorem pM {CX:js} {P:Program} {w:World} {K:PySem.W.Frag} {mg:Str→Option Value} {base:Heap} {N ps:List Str} {qual:Str} {scope:Scope} {f:Addr} {cd:Value} {A:Around} {outer:List Env} {s s1:Shared} {H:Hp} {E:XK} {us:List Value} {vs:List V}
  (S:aG N ps scope) (hd:A.handled = none) (e0:nS P w K mg base A outer s H) (hl:vs.length = ps.length) (r:Vals vs us)
  (x:InCallC s s.heap.objs.size (bindL (envOfC qual scope s.heap.objs.size f cd).kindOf (ps.zip us) fun _=>none) (cellsFrom (s.heap.objs.size + 1) scope.names []) (bindC (envOfC qual scope s.heap.objs.size f cd).kindOf (ps.zip us) fun _=>none) s1) :
  Inv (eI CX P w K mg base N qual scope f cd A outer s H E) [] (start N vs) H s1:=by
 have i7:ps.length≤N.length:=by have:=congrArg List.length S.pre; rw [List.length_take] at this; omega
 obtain ⟨h1,tk,rfl,hk⟩:=x.done
 have y6:∀ b:Addr,b∉(eI CX P w K mg base N qual scope f cd A outer s H E).ex:=fun b z=>absurd (show b∈([]:List Addr) from z) (by simp)
 refine ⟨⟨e0.mod,S.kind,rfl,rfl,Nat.le_refl _,fun y z c h1 h2=>?_,fun y hy=>?_,fun y c _ h=>?_,fun _=>hd,Around.frames_deeper e0.frames,.inr ⟨rfl,rfl⟩,fun b z=>absurd z (y6 b),e0.bs,e0.u9,fun b _ _=>y6 b,fun b z=>absurd z (y6 b),e0.fW,e0.vS⟩,
  rfl,e0.bare,Un.kept hk,⟨_,x.toInCall.ns,fun i y v h1 h2 h3=>?_⟩,fun y c h=>⟨_,x.cell y c h⟩,e0.bb.fresh (Nat.le_refl _),fun y c h=>?_,fun p hp=>absurd (show p∈([]:List (Addr×Obj)) from hp) (by simp),e0.bb.kept hk,?_⟩
 ·exact name_of_addr x.apart (PySem.mem_of_lookup h1) (PySem.mem_of_lookup h2)
 ·have hy:scope.names.lookup y = some .cell∨scope.names.lookup y = some .free:=hy
  rcases hy with hy | hy
  ·exact mi hy
  ·exact absurd rfl (S.xa _ (PySem.mem_of_lookup hy))
 ·exact Nat.le_of_lt (x.above y c (PySem.mem_of_lookup h))
 ·have hi:i < vs.length:=by
   unfold start at h2
   by_cases hi:i < vs.length
   ·exact hi
   ·rw [List.getElem?_append_right (by simpa using hi)] at h2
    rw [List.getElem?_replicate] at h2
    split at h2 <;> cases h2
  have ha:vs[i]? = some v:=by
   unfold start at h2
   rw [List.getElem?_append_left (by simpa using hi),List.getElem?_map] at h2
   cases e:vs[i]? with
   | none=>rw [e] at h2; cases h2
   | some a=>rw [e] at h2; cases h2; rfl
  obtain ⟨u,hu,rv⟩:=r.get ha
  have hp:ps[i]? = some y:=by
   rw [← S.pre,List.getElem?_take_of_lt (by omega)]; exact h1
  have Ft:ps.Nodup:=by rw [← S.pre]; exact S.nd.sublist (List.take_sublist _ _)
  refine ⟨u,rv,?_⟩
  rcases S.par y (List.mem_of_getElem? hp) with k | k
  ·exact .inl ⟨k,jS Ft hp hu k⟩
  ·obtain ⟨c,e⟩:=mi (n:=s.heap.objs.size + 1) k
   refine .inr ⟨.inl k,c,e,?_⟩
   have q:=x.cell y c e
   rw [jU Ft hp hu (by show scope.names.lookup y≠_; rw [k]; decide)] at q
   exact q
 ·exact e0.bb.fresh (Nat.le_of_lt (x.above y c (PySem.mem_of_lookup h)))
 ·unfold start
  show _ = N.length
  rw [List.length_append,List.length_map,List.length_replicate]
  omega
theorem oC {CX:js} {P:Program} {w:World} {K:PySem.W.Frag} {mg:Str→Option Value} {base:Heap} {k:Nat} {f:Addr} {name qual:Str} {params:Arguments} {body:List Stmt} {scope:Scope} {dV kV doc pm ck ct oc:Value} {an od:Option Addr}
  {oq:Array (Option Value)} {N ps:List Str} {sp:Sp} (lk:K.lookup f = some ⟨oc,od,.func (PySem.W.fnOf name qual params body scope dV kV doc pm an ck ct),oq⟩) (lT:PySem.W.codeIn K ck qual = true) (S:aG N ps scope)
  (len:∀ vs H Q E,sp vs H Q E→vs.length = ps.length)
  (fV:∀ (A:Around) (outer:List Env) (s:Shared) (H:Hp) (vs:List V) (Q:VK) (E:XK),cu k (A.deeper (envOfC qual scope s.heap.objs.size f ck))→sp vs H Q E→
   ∃ t,my (eI CX P w K mg base N qual scope f ck A outer s H E) body t∧t { nx:=fun _ H'=>Q .bS H',rt:=Q } (start N vs) H) :
  fA P w K mg base CX (k + 1) f (PySem.W.fnOf name qual params body scope dV kV doc pm an ck ct) ps sp:=by
 refine ⟨len,fun A outer s H args us vs Q E hr e0 hb r jJ=>?_⟩
 have hl:=len _ _ _ _ jJ
 have KX:K.In s.heap:=e0.mod.xi.keeps fun b o e=>(e0.bs b o e).1
 have lim:s.heap.NoLimit:=e0.mod.nolimit.keeps fun b o e=>(e0.bs b o e).1
 have zB:∀ y∈ps.zip us,scope.names.lookup y.1 = some .local∨(scope.names.lookup y.1 = some .cell∧((cellsFrom (s.heap.objs.size + 1) scope.names []).lookup y.1).isSome = true):=fun ⟨n,v⟩ hy=>by
  rcases S.par n (List.of_mem_zip hy).1 with q | q
  ·exact .inl q
  ·exact .inr ⟨q,PySem.W.cellsFrom_some _ _ _ (.inl q)⟩
 refine codeAny_call_function hr.depth (KX _ _ lk) rfl S.co S.gen rfl (PySem.W.codeRec_of KX lT) (hb _ _ _ _ ?_)
 refine wpAny_newFunctionEnv_cells S.kind zB fun env he s1 x=>?_
 subst he
 refine ⟨lim.keeps x.toInCall.keep,codeAny_func ?_⟩
 obtain ⟨t,ht,hq⟩:=fV A outer s H vs Q E (hr.deeper _) jJ
 have I:Inv (eI CX P w K mg base N qual scope f ck A outer s H E) [] (start N vs) H s1:=pM S hr.hd e0 hl r x
 refine wpAny_mono (ht [] s1 (start N vs) H _ I hq) (fun fl s' hs=>?_) fun e s' hs=>hs
 have fin:∀ {σ':St} {H':Hp} {v:V} {u:Value},Inv (eI CX P w K mg base N qual scope f ck A outer s H E) [] σ' H' s'→RelV v u→Q v H'→CE outer P w H s Q u s':=
  fun {σ' H' v u} J rv q=>⟨v,H',J.os,J.bare,J.base,J.bb,rv,q⟩
 cases fl with
 | ret u=>
  obtain ⟨v,σ',H',J,rv,q⟩:=hs
  exact fin J rv q
 | next=>
  obtain ⟨σ',H',J,q⟩:=hs
  exact fin (v:=V.bS) (u:=Value.none) J rfl q
 | brk=>
  obtain ⟨_,_,_,q⟩:=hs
  exact False.elim q
 | cont=>
  obtain ⟨_,_,_,q⟩:=hs
  exact False.elim q
end L2
namespace L2
open PySem PySem.Spec PyProof.Rows
section
variable {X:Cx} {x:Str} {p pos:Pos} {e:Expr} {es:List Expr} {t:TA} {id T:String} {r:List V→Hp→VK→Prop}
def BC (r:List V→Hp→VK→Prop) (t:TA):TE:=fun σ H Q=>t σ H fun vs H1=>r vs H1 Q
theorem ar (hc:dB X (.builtin id) r) (hg:Gl X x) (hm:X.mg x = none) (hv:bootBuiltins x = some (.builtin id)) (ha:PA X (e :: es) t) (hn:x≠ "__name__":=by decide) (kC:(x == ("__debug__" : Str)) = false:=by decide)
  (he:starEach (e :: es) X.env = (false,eval e X.env) :: starEach es X.env:=by rfl) (i7:(backTo pos (starEach es X.env)).any (·.1) = false:=by rfl):PE X (.Call (.Name x p) (e :: es) [] pos) (BC r t):=by
 intro pins s σ H Q I h
 refine wpAny_Call_Name_kw (iG I hg hm hv ?_ hn kC)
 exact PyProof.Rows.callWith_builtin1 (cm (ha pos pins s σ H _ I h) fun us s1 ⟨vs,H1,I1,r1,q1⟩=>hc pins s1 σ H1 vs us Q I1 r1 q1) he i7
theorem cf (hc:dB X (.type T) r) (hg:Gl X x) (hm:X.mg x = none) (hv:bootBuiltins x = some (.type T)) (ha:PA X (e :: es) t) (hn:x≠ "__name__":=by decide) (kC:(x == ("__debug__" : Str)) = false:=by decide)
  (he:starEach (e :: es) X.env = (false,eval e X.env) :: starEach es X.env:=by rfl) (i7:(backTo pos (starEach es X.env)).any (·.1) = false:=by rfl):PE X (.Call (.Name x p) (e :: es) [] pos) (BC r t):=by
 intro pins s σ H Q I h
 refine wpAny_Call_Name_kw (iG I hg hm hv ?_ hn kC)
 exact PyProof.Rows.callWith_type1 (cm (ha pos pins s σ H _ I h) fun us s1 ⟨vs,H1,I1,r1,q1⟩=>hc pins s1 σ H1 vs us Q I1 r1 q1) he i7
end
end L2
namespace HT
open PySem PyProof.Rows
def lexLt:List Int→List Int→Bool
 | [],[]=>false
 | [],_ :: _=>true
 | _ :: _,[]=>false
 | x :: xs,y :: ys=>if x = y then lexLt xs ys else decide (x < y)
section
variable {prog:Program} {w:World} {A:Around} {E:Value→Shared→Prop} {s:Shared}
def kW (n d:Nat):Option Int→Nat
 | none=>d
 | some v=>if v < 0 then (v + (n:Int)).toNat else min v.toNat n
end
end HT
namespace L2
open PySem PySem.Spec PyProof.Rows
abbrev TO:=St→Hp→(Option Int→Hp→Prop)→Prop
def PO (X:Cx) (e:Option Expr) (t:TO):Prop:=
 ∀ (pins:List (Addr×Obj)) (s:Shared) (σ : St) (H:Hp) (Q:Option Int→Hp→Prop),Inv X pins σ H s→t σ H Q→
  wpAny (model X.prog X.w) X.A (evalPart e X.env) (fun u s'=>∃ o H',Inv X pins σ H' s'∧IsPart u o∧Q o H') X.xe s
def j0:TO:=fun _ H Q=>Q none H
def qC (t:TE):TO:=fun σ H Q=>t σ H fun x H1=>∃ i,x = .int i∧Q (some i) H1
theorem intsAre_of {ns:List Int}:∀ {us:List Value},Vals (ns.map V.int) us→IntsAre us ns:=by
 induction ns with
 | nil=>intro us r; rw [List.map_nil] at r; cases r; exact .nil
 | cons n ns ih=>
  intro us r
  rw [List.map_cons] at r
  cases r with
  | cons r1 r2=>
   obtain ⟨t,e⟩:=r1
   subst e
   exact .cons n t (ih r2)
section
variable {X:Cx} {e:Expr} {te:TE} {lo hi:Option Expr} {tl th:TO} {pos p2:Pos}
theorem b5:PO X none j0:=by
 intro pins s σ H Q I h
 rw [evalPart_none]
 exact wpAny_pure ⟨none,H,I,.none,h⟩
theorem b4 (h:PE X e te):PO X (some e) (qC te):=by
 intro pins s σ H Q I hw
 rw [evalPart_some]
 refine cm (h pins s σ H _ I hw) fun u s1 ⟨x,H1,I1,r1,q1⟩=>?_
 obtain ⟨i,rfl,q⟩:=q1
 obtain ⟨t,rfl⟩:=r1
 exact ⟨some i,H1,I1,.int i t,q⟩
def Ez (X:Cx) (r:V→Option Int→Option Int→Hp→VK→Prop):Prop:=
 ∀ (pins:List (Addr×Obj)) (s:Shared) (σ : St) (H:Hp) (x:V) (v vl vu:Value) (lo hi:Option Int) (sl:Addr) (Q:VK),Inv X pins σ H s→RelV x v→s.heap.IsSliceOf sl vl vu .none→IsPart vl lo→IsPart vu hi→r x lo hi H Q→
  ∃ T id,typeLookup (.type T) "__getitem__" = pure (some (.builtin id))∧s.TypeIs v T∧wpAny (model X.prog X.w) X.A (getItem v (.ref sl)) (EP X pins σ Q) X.xe s
def Bp (r:V→Option Int→Option Int→Hp→VK→Prop) (te:TE) (tl th:TO):TE:=fun σ H Q=>te σ H fun x H1=>tl σ H1 fun l H2=>th σ H2 fun u H3=>r x l u H3 Q
theorem bQ {r:V→Option Int→Option Int→Hp→VK→Prop} (hr:Ez X r) (he:PE X e te) (hl:PO X lo tl) (hu:PO X hi th):PE X (.Subscript e (.Slice lo hi none p2) pos) (Bp r te tl th):=by
 intro pins s σ H Q I h
 refine Subscript_ (cm (he pins s σ H _ I h) fun v s1 ⟨x,H1,I1,r1,q1⟩=>?_)
 refine wpAny_Slice (cm (hl pins s1 σ H1 _ I1 q1) fun vl s2 ⟨l,H2,I2,pl,q2⟩=>cm (hu pins s2 σ H2 _ I2 q2) fun vu s3 ⟨u,H3,I3,pu,q3⟩=>?_)
 rw [evalPart_none]
 refine wpAny_pure ?_
 have I4:Inv X pins σ H3 { s3 with heap:=s3.heap.push { cls:=.type "slice",data:=.fields #[vl,vu,.none] } }:=I3.kept (t':=s3.toks) fun b ob q=>Heap.get?_push_of_some _ q
 obtain ⟨T,id,hT,ht,hg⟩:=hr pins { s3 with heap:=s3.heap.push { cls:=.type "slice",data:=.fields #[vl,vu,.none] } } σ H3 x v vl vu l u s3.heap.objs.size Q I4 r1 (Heap.IsSliceOf.new ..) pl pu q3
 show wpAny (model X.prog X.w) X.A (subscriptTail e (.Slice lo hi none p2) v (.ref s3.heap.objs.size)) (EP X pins σ Q) X.xe { s3 with heap:=s3.heap.push { cls:=.type "slice",data:=.fields #[vl,vu,.none] } }
 exact tail_any (ops:=[.ref s3.heap.objs.size,v]) ht hT hg (by with_unfolding_all rfl)
def nG (xs:List V) (lo hi:Option Int):List V:=(xs.drop (HT.kW xs.length 0 lo)).take (HT.kW xs.length xs.length hi - HT.kW xs.length 0 lo)
theorem mf (xs:List V) (lo hi:Option Int):(nG xs lo hi).length≤xs.length:=by
 unfold nG
 rw [List.length_take,List.length_drop]
 omega
def Hb (K:PySem.W.Frag):V→Option Int→Option Int→Hp→VK→Prop:=fun x lo hi H Q=>∃ a xs,x = .ref a∧SqT K H a xs∧
 ¬ (HT.kW xs.length 0 lo = 0∧HT.kW xs.length xs.length hi = xs.length)∧∀ p,H p = none→Q (.ref p) (upd H p (.tup (nG xs lo hi)))
def Hf (K:PySem.W.Frag):R2:=fun x y H Q=>∃ a b ns ms,x = .ref a∧y = .ref b∧SqT K H a (ns.map V.int)∧SqT K H b (ms.map V.int)∧Q (.bl (HT.lexLt ns ms)) H
def Fg (K:PySem.W.Frag):R2:=fun x y H Q=>∃ a b xs ys,x = .ref a∧y = .ref b∧SqT K H a xs∧SqT K H b ys∧xs≠[]∧xs.length + ys.length≤sizeLine∧
 (ys = []→Q (.ref a) H)∧(ys≠[]→∀ p,H p = none→Q (.ref p) (upd H p (.tup (xs ++ ys))))
end
end L2
namespace L2
open PySem PySem.Spec PyProof.Rows
def xo (n:Nat) (i:Int):Option Nat:=if 0≤i then (if i < n then some i.toNat else none) else if -(n:Int)≤i then some (i + n).toNat else none
def qx {α : Type} (xs:List α) (i:Int):Option α:=(xo xs.length i).bind fun j=>xs[j]?
theorem uA {n:Nat} {i:Int} {j:Nat} (h:xo n i = some j):seqIndex? i n = some j∧j < n∧-(n:Int)≤i∧i < n:=by
 unfold xo at h
 by_cases h0:0≤i
 ·rw [if_pos h0] at h
  by_cases h1:i < n
  ·rw [if_pos h1] at h
   have e:i.toNat = j:=Option.some.inj h
   exact ⟨by rw [seqIndex_of h0 h1,e],by omega,by omega,h1⟩
  ·rw [if_neg h1] at h; cases h
 ·rw [if_neg h0] at h
  by_cases h1 : -(n:Int)≤i
  ·rw [if_pos h1] at h
   have e:(i + n).toNat = j:=Option.some.inj h
   exact ⟨by rw [seqIndex_neg (by omega) h1,e],by omega,h1,by omega⟩
  ·rw [if_neg h1] at h; cases h
theorem oO {α : Type} {xs:List α} {i:Int} {v : α} (h:qx xs i = some v):∃ j,seqIndex? i xs.length = some j∧xs[j]? = some v∧j < xs.length∧-(xs.length:Int)≤i∧i < xs.length:=by
 unfold qx at h
 cases e:xo xs.length i with
 | none=>rw [e] at h; cases h
 | some j=>
  rw [e] at h
  obtain ⟨h1,h2,h3,h4⟩:=uA e
  exact ⟨j,h1,h,h2,h3,h4⟩
theorem dk {α : Type} {xs:List α} {j:Nat} {v : α} (h:xs[j]? = some v):qx xs (j:Int) = some v:=by
 have hj:j < xs.length:=(List.getElem?_eq_some_iff.mp h).1
 have e:xo xs.length (j:Int) = some j:=by
  unfold xo
  rw [if_pos (by omega),if_pos (by omega)]; simp
 unfold qx; rw [e]; exact h
def vf (b:Expr):Prop:=∀ o i,subscripted b false o i = operate [o,i] (getItem o i)
def EH (X:Cx) (r:R2):Prop:=
 ∀ (value slice:Expr) (pins:List (Addr×Obj)) (s:Shared) (σ : St) (H:Hp) (x y:V) (v u:Value) (Q:VK),Inv X pins σ H s→RelV x v→RelV y u→r x y H Q→
  subscripted slice false v u = operate [v,u] (getItem v u)→wpAny (model X.prog X.w) X.A (subscriptTail value slice v u) (EP X pins σ Q) X.xe s
def Gp (X:Cx) (id:String) (r:V→List V→Hp→VK→Prop):Prop:=
 ∀ (pins:List (Addr×Obj)) (s:Shared) (σ : St) (H:Hp) (x:V) (xs:List V) (v:Value) (us:List Value) (Q:VK),Inv X pins σ H s→RelV x v→Vals xs us→r x xs H Q→
  wpAny (model X.prog X.w) X.A (call (.builtin id) (v :: us)) (EP X pins σ Q) X.xe s
section
variable {X:Cx} {a b:Expr} {ta tb:TE} {pos:Pos}
theorem cH {r:R2} (hr:EH X r) (ha:PE X a ta) (hb:PE X b tb) (hs:vf b):PE X (.Subscript a b pos) (yq r ta tb):=by
 intro pins s σ H Q I h
 exact Subscript_ (xS ha hb I h fun v u s2 x y H2 I2 rx ry q=>hr a b pins s2 σ H2 x y v u Q I2 rx ry q (hs _ _))
def wM (K:PySem.W.Frag):R2:=fun x y H Q=>∃ p xs i v,x = .ref p∧y = .int i∧aO K H p xs∧qx xs i = some v∧Q v H
def B1 (K:PySem.W.Frag):R2:=fun x y H Q=>∃ p xs i v,x = .ref p∧y = .int i∧SqT K H p xs∧qx xs i = some v∧Q v H
def yS:R2:=fun x y H Q=>∃ z i c,x = .str z∧y = .int i∧z.length≤sizeLine∧qx z.cps.toList i = some c∧Q (.str ⟨#[c]⟩) H
theorem bO:EH X (wM X.K):=by
 intro value slice pins s σ H x y v u Q I rx ry h hs
 obtain ⟨p,xs,i,z,rfl,rfl,hq,he,q⟩:=h
 cases rx
 obtain ⟨t,rfl⟩:=ry
 obtain ⟨aQ,r,pl,hz⟩:=I.list hq
 obtain ⟨j,h1,h2,h3,h4,h5⟩:=oO he
 obtain ⟨w,ew,BU⟩:=r.get h2
 have hl:=r.length
 have hn:=iF
 have fin:EP X pins σ Q w s:=⟨z,H,I,BU,q⟩
 by_cases h0:0≤i
 ·have hj:i.toNat = j:=by
   rw [seqIndex_of h0 h5] at h1
   exact Option.some.inj h1
  exact item_listR pl.isList h0 (by omega) (by rw [hj]; simpa using ew) fin hs
 ·have hj:(i + (aQ.toArray.size:Int)).toNat = j:=by
   rw [seqIndex_neg (by omega) h4] at h1
   rw [List.size_toArray,← hl]
   exact Option.some.inj h1
  exact subscriptTail_builtinR (x:=w) pl.isList.typeIs slot_list_getitem.lookup
   (wpAny_getItem_list_neg (Q:=fun r s'=>r = w∧EP X pins σ Q r s') pl.isList (by omega) (by rw [List.size_toArray] <;> omega) (by omega) (by rw [hj]; simpa using ew) ⟨rfl,fin⟩) hs
theorem sF:EH X yS:=by
 intro value slice pins s σ H x y v u Q I rx ry h hs
 obtain ⟨z,i,c,rfl,rfl,hz,he,q⟩:=h
 obtain ⟨t,rfl⟩:=rx
 obtain ⟨t',rfl⟩:=ry
 obtain ⟨j,h1,h2,h3,h4,h5⟩:=oO he
 have hl:z.cps.toList.length = z.length:=by simp [Str.length]
 rw [hl] at h1 h4 h5
 have hn:=iF
 exact tail_any (typeIs_str s z t) slot_str_getitem.lookup (getItem_str (c:=c) (by
  have e1:decide (i < -(2 ^ 63:Int)) = false:=decide_eq_false (by omega)
  have e2:decide (i≥2 ^ 63) = false:=decide_eq_false (by omega)
  rw [e1,e2,Bool.or_false]) (by rw [h1]; simpa using h2) ⟨.str ⟨#[c]⟩,H,I.tok _,⟨_,rfl⟩,q⟩) hs
def K8 (K:PySem.W.Frag):R2:=fun x y H Q=>wM K x y H Q∨B1 K x y H Q∨yS x y H Q
def Fd:V→V→V→Hp→(Hp→Prop)→Prop:=fun o i v H Q=>∃ p xs k j,o = .ref p∧i = .int k∧H p = some (.lst xs)∧xo xs.length k = some j∧Q (upd H p (.lst (xs.set j v)))
theorem kc (lo hi:Option Int) (n:Nat):(sliceBounds lo hi none n).1 = ((HT.kW n 0 lo:Nat):Int)∧(sliceBounds lo hi none n).2.1 = ((HT.kW n n hi:Nat):Int)∧(sliceBounds lo hi none n).2.2 = 1:=by
 refine ⟨?_,?_,rfl⟩
 ·cases lo with
  | none=>simp [sliceBounds,HT.kW]
  | some i=>
   simp only [sliceBounds,HT.kW,Option.getD_none,show (1:Int) > 0 by decide,if_true]
   by_cases h:i < 0
   ·simp only [h,if_true] <;> omega
   ·simp only [h,if_false] <;> omega
 ·cases hi with
  | none=>simp [sliceBounds,HT.kW]
  | some i=>
   simp only [sliceBounds,HT.kW,Option.getD_none,show (1:Int) > 0 by decide,if_true]
   by_cases h:i < 0
   ·simp only [h,if_true] <;> omega
   ·simp only [h,if_false] <;> omega
theorem i8 (aQ:List Value) (lo hi:Option Int):slicePick aQ.toArray lo hi none = ((aQ.drop (HT.kW aQ.length 0 lo)).take (HT.kW aQ.length aQ.length hi - HT.kW aQ.length 0 lo)).toArray:=by
 obtain ⟨h1,h2,h3⟩:=kc lo hi aQ.toArray.size
 unfold slicePick
 rw [h1,h2,h3]
 simp only [sliceRange_one,pick_run,List.size_toArray] <;> rfl
def yP (K:PySem.W.Frag):V→Option Int→Option Int→Hp→VK→Prop:=fun x lo hi H Q=>∃ a xs,x = .ref a∧aO K H a xs∧∀ p,H p = none→Q (.ref p) (upd H p (.lst (nG xs lo hi)))
theorem kd:Ez X (yP X.K):=by
 intro pins s σ H x v vl vu lo hi sl Q I rx hs pl pu h
 obtain ⟨a,xs,rfl,hx,q⟩:=h
 cases rx
 obtain ⟨aQ,r,ht,hz⟩:=I.list hx
 have hlen:=r.length
 refine ⟨"list",_,slot_list_getitem.lookup,ht.isList.typeIs,?_⟩
 refine wpAny_getItem_list_slice ht.isList hs pl pu .none (by simp) ?_ (by rw [List.size_toArray] <;> omega)
 rw [i8,← hlen]
 refine ⟨.ref s.heap.objs.size,_,I.laid (t':=s.toks) (o:=.lst (nG xs lo hi)) (fun b ob q=>Heap.get?_push_of_some _ q) (Nat.le_refl _) ?_,rfl,q _ (I.bb.fresh (Nat.le_refl _))⟩
 exact ⟨Nat.le_trans (mf xs lo hi) hz,_,0,(r.drop (HT.kW xs.length 0 lo)).take (HT.kW xs.length xs.length hi - HT.kW xs.length 0 lo),Heap.get?_push_size _ rfl⟩
def fX:V→Bool
 | .bS=>true
 | .bl _=>true
 | .int _=>true
 | .str _=>true
 | _=>false
def uX:V→V→Bool
 | .bS,.bS=>true
 | .bl a,.bl b=>a == b
 | .bl a,.int b=>(if a then 1 else 0) == b
 | .int a,.bl b=>a == (if b then 1 else 0)
 | .int a,.int b=>a == b
 | .str a,.str b=>a == b
 | _,_=>false
theorem xK {A:Around} {s:Shared} {y x:V} {u v:Value} (ry:RelV y u) (rx:RelV x v) (fy:fX y = true) (fx:fX x = true):SeqAt.EqAt A s u v (uX y x):=by
 cases y with
 | bS=>
  cases ry
  cases x with
  | bS=>cases rx; exact SeqAt.EqAt.same _
  | bl b=>cases rx; exact SeqAt.EqAt.none_bool b
  | int b=>obtain ⟨t,rfl⟩:=rx; exact SeqAt.EqAt.none_int b t
  | str b=>obtain ⟨t,rfl⟩:=rx; exact SeqAt.EqAt.none_str b t
  | _=>exact absurd (show false = true from fx) Bool.false_ne_true
 | bl a=>
  cases ry
  cases x with
  | bS=>cases rx; exact SeqAt.EqAt.bool_none a
  | bl b=>cases rx; exact SeqAt.EqAt.bool_bool a b
  | int b=>obtain ⟨t,rfl⟩:=rx; exact SeqAt.EqAt.bool_int a b t
  | str b=>obtain ⟨t,rfl⟩:=rx; exact SeqAt.EqAt.bool_str a b t
  | _=>exact absurd (show false = true from fx) Bool.false_ne_true
 | int a=>
  obtain ⟨t',rfl⟩:=ry
  cases x with
  | bS=>cases rx; exact SeqAt.EqAt.int_none a t'
  | bl b=>cases rx; exact SeqAt.EqAt.int_bool a t' b
  | int b=>obtain ⟨t,rfl⟩:=rx; exact SeqAt.EqAt.int_int a t' b t
  | str b=>obtain ⟨t,rfl⟩:=rx; exact SeqAt.EqAt.int_str a t' b t
  | _=>exact absurd (show false = true from fx) Bool.false_ne_true
 | str a=>
  obtain ⟨t',rfl⟩:=ry
  cases x with
  | bS=>cases rx; exact SeqAt.EqAt.str_none a t'
  | bl b=>cases rx; exact SeqAt.EqAt.str_bool a t' b
  | int b=>obtain ⟨t,rfl⟩:=rx; exact SeqAt.EqAt.str_int a t' b t
  | str b=>obtain ⟨t,rfl⟩:=rx; exact SeqAt.EqAt.str_str a t' b t
  | _=>exact absurd (show false = true from fx) Bool.false_ne_true
 | _=>exact absurd (show false = true from fy) Bool.false_ne_true
def nE (x:V) (u:Value):Bool:=match u with
 | .none=>uX .bS x
 | .bool b=>uX (.bl b) x
 | .int i _=>uX (.int i) x
 | .str z _=>uX (.str z) x
 | _=>false
theorem sU {x y:V} {u:Value} (r:RelV y u) (f:fX y = true):nE x u = uX y x:=by
 cases y with
 | bS=>cases r; rfl
 | bl b=>cases r; rfl
 | int i=>obtain ⟨t,rfl⟩:=r; rfl
 | str z=>obtain ⟨t,rfl⟩:=r; rfl
 | _=>exact absurd (show false = true from f) Bool.false_ne_true
theorem gc {x:V}:∀ {xs:List V} {us:List Value},Vals xs us→xs.all fX = true→us.any (nE x) = xs.any fun y=>uX y x
 | _,_,.nil,_=>rfl
 | y :: xs,u :: us,.cons r t,f=>by
  rw [List.all_cons,Bool.and_eq_true] at f
  rw [List.any_cons,List.any_cons,sU r f.1,gc t f.2]
theorem eA {A:Around} {s:Shared} {x:V} {v:Value} (rx:RelV x v) (fx:fX x = true):∀ {xs:List V} {us:List Value},Vals xs us→xs.all fX = true→∀ u∈us,SeqAt.EqAt A s u v (nE x u)
 | _,_,.nil,_=>fun u hu=>by cases hu
 | y :: xs,u :: us,.cons r t,f=>fun u' hu=>by
  rw [List.all_cons,Bool.and_eq_true] at f
  rcases List.mem_cons.mp hu with rfl | hu
  ·rw [sU r f.1]; exact xK r rx f.1 fx
  ·exact eA rx fx t f.2 u' hu
def AQ (x:V) (xs:List V):Bool:=xs.any fun y=>uX y x
def B3 (K:PySem.W.Frag) (neg:Bool):R2:=fun x y H Q=>∃ p xs,y = .ref p∧(aO K H p xs∨SqT K H p xs)∧fX x = true∧xs.all fX = true∧Q (.bl (if neg then !AQ x xs else AQ x xs)) H
theorem jD:iU X (compareOp .In) (B3 X.K false):=by
 intro pins s σ H x y v u Q I rx ry h
 obtain ⟨p,xs,rfl,hq,fx,fs,q⟩:=h
 cases ry
 rcases hq with hq | hq
 ·obtain ⟨aQ,r,pl,hz⟩:=I.list hq
  refine SeqAt.in_listAt (nE x) pl.isList (fun w hw=>eA rx fx r fs w (by simpa using hw)) ⟨.bl _,H,I,rfl,?_⟩
  rw [show aQ.toArray.any (nE x) = aQ.any (nE x) by simp,gc r fs]
  exact q
 ·obtain ⟨aQ,r,pl,hz⟩:=I.tuple hq
  refine SeqAt.in_tupleAt (nE x) pl (fun w hw=>eA rx fx r fs w (by simpa using hw)) ⟨.bl _,H,I,rfl,?_⟩
  rw [show aQ.toArray.any (nE x) = aQ.any (nE x) by simp,gc r fs]
  exact q
theorem fN:iU X (compareOp .NotIn) (B3 X.K true):=by
 intro pins s σ H x y v u Q I rx ry h
 obtain ⟨p,xs,rfl,hq,fx,fs,q⟩:=h
 cases ry
 rcases hq with hq | hq
 ·obtain ⟨aQ,r,pl,hz⟩:=I.list hq
  refine SeqAt.notIn_listAt (nE x) pl.isList (fun w hw=>eA rx fx r fs w (by simpa using hw)) ⟨.bl _,H,I,rfl,?_⟩
  rw [show aQ.toArray.any (nE x) = aQ.any (nE x) by simp,gc r fs]
  exact q
 ·obtain ⟨aQ,r,pl,hz⟩:=I.tuple hq
  refine SeqAt.notIn_tupleAt (nE x) pl (fun w hw=>eA rx fx r fs w (by simpa using hw)) ⟨.bl _,H,I,rfl,?_⟩
  rw [show aQ.toArray.any (nE x) = aQ.any (nE x) by simp,gc r fs]
  exact q
theorem km:iU X (compareOp .NotIn) (fun x y H Q=>∃ i j,x = .str i∧y = .str j∧Q (.bl (!(!(Builtin.Str.occurrences j i 0 j.length 1).isEmpty))) H):=by
 intro pins s σ H x y v u Q I rx ry h
 obtain ⟨i,j,rfl,rfl,q⟩:=h
 obtain ⟨t,rfl⟩:=rx
 obtain ⟨t',rfl⟩:=ry
 exact notIn_str ⟨.bl _,H,I,rfl,q⟩
theorem bE:dB X (.builtin "len") (fun xs H Q=>∃ z,xs = [.str z]∧z.length≤sizeLine∧Q (.int z.length) H):=by
 intro pins s σ H xs us Q I r h
 obtain ⟨z,rfl,hz,q⟩:=h
 obtain ⟨u,rfl,t,rfl⟩:=vals1 r
 have hn:=iF
 exact len_str (by omega) ⟨.int z.length,H,I.tok _,⟨_,rfl⟩,q⟩
def Av (K:PySem.W.Frag) (T:String) (x:V) (H:Hp):Prop:=match x with
 | .str _=>T = "str"
 | .int _=>T = "int"
 | .ref p=>(T = "list"∧∃ xs,aO K H p xs)∨(T = "tuple"∧∃ o,K.lookup p = some o∧o.cls = .type "tuple"∧o.dict = none)∨
   (T = "dict"∧((∃ aV,H p = some (.dK aV))∨∃ aV,H p = some (.dT aV)))∨(T = "set"∧∃ S n,H p = some (.set S n))
 | _=>False
theorem wg {pins:List (Addr×Obj)} {σ : St} {H:Hp} {s:Shared} {T:String} {x:V} {v:Value} (I:Inv X pins σ H s) (r:RelV x v) (ty:Av X.K T x H) :
  s.TypeIs v T∧∀ a,v = .ref a→∃ ob,s.heap.get? a = some ob∧ob.dict = none:=by
 cases x with
 | str z=>
  obtain ⟨t,rfl⟩:=r
  cases (show T = "str" from ty)
  exact ⟨typeIs_str s z t,fun _ e=>nomatch e⟩
 | int i=>
  obtain ⟨t,rfl⟩:=r
  cases (show T = "int" from ty)
  exact ⟨typeIs_int s i t,fun _ e=>nomatch e⟩
 | ref p=>
  cases r
  rcases ty with ⟨rfl,xs,hq⟩ | ⟨rfl,o,hk,hc,hd⟩ | ⟨rfl,hk⟩ | ⟨rfl,S,n,hk⟩
  ·obtain ⟨aQ,_,pl,_⟩:=I.list hq
   refine ⟨pl.isList.typeIs,fun a e=>?_⟩
   cases e
   obtain ⟨o,n,e,c,hd,_⟩:=pl
   exact ⟨o,e,hd⟩
  ·refine ⟨⟨o,I.ft p o hk,hc⟩,fun a e=>?_⟩
   cases e
   exact ⟨o,I.ft _ o hk,hd⟩
  ·have z:∃ o,s.heap.get? p = some o∧o.ExactDict:=by
    rcases hk with ⟨aV,hk⟩ | ⟨aV,hk⟩
    ·obtain ⟨_,_,_,_,o,_,_,e,ex,_⟩:=I.bb p _ hk
     exact ⟨o,e,ex⟩
    ·obtain ⟨_,_,_,_,o,_,_,e,ex,_⟩:=I.bb p _ hk
     exact ⟨o,e,ex⟩
   obtain ⟨o,e,ex⟩:=z
   refine ⟨⟨o,e,ex.1⟩,fun a e2=>?_⟩
   cases e2
   exact ⟨o,e,ex.2.1⟩
  ·obtain ⟨o,_,_,_,e,ex,_⟩:=I.bb p _ hk
   refine ⟨⟨o,e,ex.1⟩,fun a e2=>?_⟩
   cases e2
   exact ⟨o,e,ex.2.1⟩
 | _=>exact False.elim ty
def GS (K:PySem.W.Frag) (T:String) (r:V→List V→Hp→VK→Prop) (to:TE):TE:=fun σ H Q=>to σ H fun x H1=>Av K T x H1∧r x [] H1 Q
def E5 (K:PySem.W.Frag) (T:String) (r:V→List V→Hp→VK→Prop) (to:TE) (t:TA):TE:=fun σ H Q=>to σ H fun x H1=>Av K T x H1∧t σ H1 fun xs H2=>r x xs H2 Q
variable {o e:Expr} {es:List Expr} {to:TE} {t:TA} {name:Str} {apos df:Pos} {T id:String} {r:V→List V→Hp→VK→Prop}
theorem ff (pa:PlainAttrs T) (slot:Slot T name id) (IG:typeOf (.builtin id) = pure (.type "method_descriptor")) (hm:Gp X id r) (ho:PE X o to) (ha:PA X (e :: es) t)
  (lU:attributeBase o name X.env (eval o X.env) = eval o X.env:=by rfl)
  (Du:((backTo df (starEach (e :: es) X.env)).all (fun x=>!x.1) && (backToKw df (keywordEach [] X.env)).all (fun x=>x.1.isSome)
   && decide ((e :: es).length + ([]:List Keyword).length + (if ([]:List Keyword).isEmpty then 0 else 1) < 30)) = true:=by rfl)
  (zA:(apos.endLine == df.line) = true:=by rfl) (hs:starEach (e :: es) X.env = (false,eval e X.env) :: starEach es X.env:=by rfl) (xu:(backTo df (starEach es X.env)).any (·.1) = false:=by rfl) :
  PE X (.Call (.Attribute o name apos) (e :: es) [] df) (E5 X.K T r to t):=by
 intro pins s σ H Q I h
 refine wpAny_Call_method_late lU Du zA rfl (cm (ho pins s σ H _ I h) fun v s1 ⟨x,H1,I1,r1,ty,q1⟩=>?_)
 obtain ⟨h1,h2⟩:=wg I1 r1 ty
 refine ⟨T,id,pa,slot,IG,h1,h2,?_⟩
 have hA:=ha df pins s1 σ H1 _ I1 q1
 rw [hs] at hA ⊢
 refine Calls.callWith_builtin (by show (false || (backTo df (starEach es X.env)).any (·.1)) = false; rw [xu] <;> rfl) (Calls.evalArgs_plain ?_)
 exact cm hA fun us s2 ⟨vs,H2,I2,r2,q2⟩=>hm pins s2 σ H2 x vs v us Q I2 r1 r2 q2
/- xs.append(e),list.index on a module's tuple .. are Gp facts of 06m -/
end
end L2
namespace L2
open PySem PySem.Spec PyProof.Rows
def Bh (X:Cx) (id:String) (r:V→List V→Hp→VK→Prop):Prop:=
 ∀ (pins:List (Addr×Obj)) (s:Shared) (σ : St) (H:Hp) (x:V) (xs:List V) (v:Value) (us:List Value) (Q:VK),Inv X pins σ H s→RelV x v→Vals xs us→r x xs H Q→
  wpAny (model X.prog X.w) X.A (call (.builtin id) (v :: us)) (EP X pins σ Q) X.xe s
theorem Vals.one:∀ {x:V} {us:List Value},Vals [x] us→∃ u,us = [u]∧RelV x u
 | _,_,.cons r .nil=>⟨_,rfl,r⟩
section
variable {X:Cx} {pins:List (Addr×Obj)} {σ : St} {H:Hp} {s:Shared} {l b:Addr} {xs ys zs:List V}
theorem Inv.zc {aQ its':List Value} {n:Nat} {f:Array Value→Array Value} {t':Nat} (I:Inv X pins σ H s) (hH:H l = some (.lst xs))
  (e:s.heap.get? l = some { cls:=.type "list",data:=.seq aQ.toArray n }) (hf:f aQ.toArray = its'.toArray) (hv:Vals ys its') (hz:ys.length≤sizeLine) :
  Inv X pins σ (upd H l (.lst ys)) { s with heap:=s.heap.update l (Obj.mapSeq f),toks:=t' }:=by
 have q:=PySem.IsL.update e f
 rw [hf] at q
 refine I.write (x:=l) (e:=l) (by rw [hH]; exact trivial) (.inl rfl) (fun b' u hb hu=>(Heap.get?_update_other s.heap (Obj.mapSeq f) (Ne.symm hb)).trans hu) ⟨_,q⟩ ?_
 exact ⟨hz,its',_,hv,q⟩
theorem Inv.zb (I:Inv X pins σ H s) (hH:H l = some (.lst xs)):xs.length≤sizeLine∧∃ (aQ:List Value) (n:Nat),Vals xs aQ∧xs.length = aQ.length∧s.heap.get? l = some { cls:=.type "list",data:=.seq aQ.toArray n }:=by
 obtain ⟨z,aQ,n,r,e⟩:=I.bb l _ hH
 exact ⟨z,aQ,n,r,r.length,e⟩
end
section
variable {X:Cx}
def n9:V→List V→Hp→VK→Prop:=fun x vs H Q=>∃ l xs y,x = .ref l∧vs = [y]∧H l = some (.lst xs)∧xs.length < sizeLine∧Q .bS (upd H l (.lst (xs ++ [y])))
theorem eS:Bh X "list.append" n9:=by
 intro pins s σ H x vs v us Q I rx rv h
 obtain ⟨l,xs,y,rfl,rfl,hH,hz,q⟩:=h
 cases rx
 obtain ⟨u,rfl,ru⟩:=rv.one
 obtain ⟨z,aQ,n,r,hl,e⟩:=I.zb hH
 refine call_meets F.slot_list_append ⟨_,e,rfl⟩ F.entry_list_append (F.args_list_append_2 _ _) (PySem.list_append l aQ.toArray n u (by rw [List.size_toArray]; omega)) ⟨e,?_⟩
 refine ⟨.bS,_,I.zc (its':=aQ ++ [u]) hH e (by simp) (r.append (.cons ru .nil)) ?_,rfl,q⟩
 rw [List.length_append,List.length_singleton]
 omega
def AI:V→List V→Hp→VK→Prop:=fun x vs H Q=>∃ l b xs zs,x = .ref l∧vs = [.ref b]∧H l = some (.lst xs)∧H b = some (.lst zs)∧xs.length + zs.length≤sizeLine∧Q .bS (upd H l (.lst (xs ++ zs)))
def Hd:V→List V→Hp→VK→Prop:=fun x vs H Q=>∃ l xs y,x = .ref l∧vs = []∧H l = some (.lst xs)∧xs[xs.length - 1]? = some y∧Q y (upd H l (.lst xs.dropLast))
def BY:V→List V→Hp→VK→Prop:=fun x vs H Q=>∃ l xs i k y,x = .ref l∧vs = [.int i]∧H l = some (.lst xs)∧-(2 ^ 63)≤i∧i < 2 ^ 63∧seqIndex? i xs.length = some k∧xs[k]? = some y∧Q y (upd H l (.lst (xs.eraseIdx k)))
def yR:V→List V→Hp→VK→Prop:=fun x vs H Q=>∃ l xs,x = .ref l∧vs = []∧H l = some (.lst xs)∧Q .bS (upd H l (.lst xs.reverse))
def B6:V→List V→Hp→VK→Prop:=fun x vs H Q=>∃ l xs,x = .ref l∧vs = []∧H l = some (.lst xs)∧Q .bS (upd H l (.lst []))
def Hn:R2:=fun x y H Q=>∃ l b xs zs,x = .ref l∧y = .ref b∧H l = some (.lst xs)∧H b = some (.lst zs)∧xs.length + zs.length≤sizeLine∧∀ p,H p = none→Q (.ref p) (upd H p (.lst (xs ++ zs)))
def Hc:R2:=fun x y H Q=>∃ l k xs,x = .ref l∧y = .int k∧H l = some (.lst xs)∧-(2 ^ 63)≤k∧k < 2 ^ 63∧xs.length * k.toNat≤sizeLine∧
 ∀ p,H p = none→Q (.ref p) (upd H p (.lst (List.replicate k.toNat xs).flatten))
end
end L2
namespace L2
open PySem PySem.Spec PyProof.Rows
section
variable {κ : Type} [DecidableEq κ]
def oU (aV:List (κ×V)) (k : κ):Option V:=(aV.find? fun kv=>decide (kv.1 = k)).map (·.2)
def putK (aV:List (κ×V)) (k : κ) (v:V):List (κ×V):=
 if (aV.any fun kv=>decide (kv.1 = k)) = true then aV.map (fun kv=>if kv.1 = k then (kv.1,v) else kv) else aV ++ [(k,v)]
def sW (aV:List (κ×V)) (k : κ):List (κ×V):=aV.filter fun kv=>decide (kv.1≠k)
end
abbrev KT (H:Hp):List (List Key×V)→List (List Key×Addr×Value)→Prop:=Paired fun p q=>p.1 = q.1∧H q.2.1 = some (.tup (p.1.map kV))∧RelV p.2 q.2.2
def qt (H:Hp) (a:Addr) (y:V) (r:Option V):Prop:=
 (∃ aV k,Rd H a (.dK aV)∧y = kV k∧r = oU aV k)∨∃ aV k b,Rd H a (.dT aV)∧y = .ref b∧H b = some (.tup (k.map kV))∧r = oU aV k
def Am (H:Hp) (a:Addr) (y v:V) (H':Hp):Prop:=
 (∃ aV k,H a = some (.dK aV)∧y = kV k∧aV.length < sizeLine∧H' = upd H a (.dK (putK aV k v)))∨
 ∃ aV k b,H a = some (.dT aV)∧y = .ref b∧H b = some (.tup (k.map kV))∧aV.length < sizeLine∧H' = upd H a (.dT (putK aV k v))
def Ks (i:Expr):Prop:=∀ ov iv,subscripted i false ov iv = operate [ov,iv] (getItem ov iv)
def E3 (td ty:TE):TE:=fun σ H Q=>td σ H fun x H1=>ty σ H1 fun y H2=>∃ a v,x = .ref a∧qt H2 a y (some v)∧Q v H2
def GQ (ty td:TE):TE:=fun σ H Q=>ty σ H fun y H1=>td σ H1 fun x H2=>∃ a o,x = .ref a∧qt H2 a y o∧Q (.bl o.isSome) H2
def Ax (ty td:TE):TE:=fun σ H Q=>ty σ H fun y H1=>td σ H1 fun x H2=>∃ a o,x = .ref a∧qt H2 a y o∧Q (.bl (!o.isSome)) H2
def E8 (td ty tv:TE):TS:=fun D σ H=>tv σ H fun v H1=>td σ H1 fun x H2=>ty σ H2 fun y H3=>∃ a H4,x = .ref a∧Am H3 a y v H4∧D.nx σ H4
def Fb (td ty tv:TE) (rd:V→V→Hp→VK→Prop):TS:=fun D σ H=>td σ H fun x H1=>ty σ H1 fun y H2=>∃ a v,x = .ref a∧qt H2 a y (some v)∧
 tv σ H2 fun y2 H3=>rd v y2 H3 fun z H4=>∃ H5,Am H4 a y z H5∧D.nx σ H5
def E9 (td ty:TE):TS:=fun D σ H=>td σ H fun x H1=>ty σ H1 fun y H2=>∃ a aV k,x = .ref a∧H2 a = some (.dK aV)∧y = kV k∧(oU aV k).isSome = true∧D.nx σ (upd H2 a (.dK (sW aV k)))
def Bx:TE:=fun _ H Q=>∀ p,H p = none→Q (.ref p) (upd H p (.dK []))
def Bw:TE:=fun _ H Q=>∀ p,H p = none→Q (.ref p) (upd H p (.dT []))
def jZ:List (TE×TE)→St→Hp→(List (V×V)→Hp→Prop)→Prop
 | [],_,H,Q=>Q [] H
 | (tk,tv) :: r,σ,H,Q=>tk σ H fun x H1=>tv σ H1 fun y H2=>jZ r σ H2 fun ps H3=>Q ((x,y) :: ps) H3
abbrev VV:List (V×V)→List (Value×Value)→Prop:=Paired fun p q=>RelV p.1 q.1∧RelV p.2 q.2
def LR (X:Cx) (pos:Pos) (keys:List (Option Expr)) (values:List Expr) (Bl:List (TE×TE)):Prop:=
 ∀ (pins:List (Addr×Obj)) (s:Shared) (σ : St) (H:Hp) (Q:List (V×V)→Hp→Prop),Inv X pins σ H s→jZ Bl σ H Q→
  wpAny (model X.prog X.w) X.A (evalPairs (pairTrees keys values X.env pos)) (fun vs s'=>∃ ps H',Inv X pins σ H' s'∧VV ps vs∧Q ps H') X.xe s
def xb (aV more:List (Key×V)):List (Key×V):=more.foldl (fun acc kv=>putK acc kv.1 kv.2) aV
def E2 (Bl:List (TE×TE)):TE:=fun σ H Q=>∀ p,H p = none→jZ Bl σ (upd H p (.dK [])) fun ps H2=>H2 p = some (.dK [])∧∃ aV:List (Key×V),ps = aV.map (fun kv=>(kV kv.1,kv.2))∧aV.length≤15∧Q (.ref p) (upd H2 p (.dK (xb [] aV)))
structure M1 (X:Cx) (o:Expr) (m:Str) (apos:Pos) (e:Expr) (df:Pos):Prop where
 base:attributeBase o m X.env (eval o X.env) = eval o X.env
 zP:((backTo df (starEach [e] X.env)).all (fun x=>!x.1) && (backToKw df (keywordEach [] X.env)).all (fun x=>x.1.isSome)
  && decide (([e]:List Expr).length + ([]:List Keyword).length + (if ([]:List Keyword).isEmpty then 0 else 1) < 30)) = true
 line:(apos.endLine == df.line) = true
 trees:backTo df (starEach [e] X.env) = [(false,eval e X.env)]
structure M2 (X:Cx) (o:Expr) (m:Str) (apos:Pos) (e f:Expr) (df:Pos):Prop where
 base:attributeBase o m X.env (eval o X.env) = eval o X.env
 zP:((backTo df (starEach [e,f] X.env)).all (fun x=>!x.1) && (backToKw df (keywordEach [] X.env)).all (fun x=>x.1.isSome)
  && decide (([e,f]:List Expr).length + ([]:List Keyword).length + (if ([]:List Keyword).isEmpty then 0 else 1) < 30)) = true
 line:(apos.endLine == df.line) = true
 trees:backTo df (starEach [e,f] X.env) = [(false,eval e X.env),(false,eval f X.env)]
def Al (H:Hp) (a:Addr):Prop:=(∃ aV,Rd H a (.dK aV))∨∃ aV,Rd H a (.dT aV)
def Bz (td ty:TE):TE:=fun σ H Q=>td σ H fun x H1=>∃ a,x = .ref a∧Al H1 a∧ty σ H1 fun y H2=>∃ o,qt H2 a y o∧Q (o.getD .bS) H2
def By (td ty tx:TE):TE:=fun σ H Q=>td σ H fun x H1=>∃ a,x = .ref a∧Al H1 a∧ty σ H1 fun y H2=>tx σ H2 fun z H3=>∃ o,qt H3 a y o∧Q (o.getD z) H3
def Bv (td ty:TE):TE:=fun σ H Q=>td σ H fun x H1=>∃ a,x = .ref a∧Al H1 a∧ty σ H1 fun y H2=>∃ aV k v,H2 a = some (.dK aV)∧y = kV k∧oU aV k = some v∧Q v (upd H2 a (.dK (sW aV k)))
def Bu (td ty tx:TE):TE:=fun σ H Q=>td σ H fun x H1=>∃ a,x = .ref a∧Al H1 a∧ty σ H1 fun y H2=>tx σ H2 fun z H3=>∃ aV k,H3 a = some (.dK aV)∧y = kV k∧
 (∀ v,oU aV k = some v→Q v (upd H3 a (.dK (sW aV k))))∧(oU aV k = none→Q z H3)
end L2
namespace Gw
open PySem PySem.W PySem.Calls PyProof.Rows
theorem gP {P:Params} {h:Heap}:∀ (ns:List Int) (vs:List Value),WellAll P h vs (ns.map WData.int)→IntsAre vs ns:=by
 intro ns
 induction ns with
 | nil=>
  intro vs w
  rw [List.map_nil] at w
  cases w
  exact .nil
 | cons n ns ih=>
  intro vs w
  rw [List.map_cons] at w
  cases w with
  | cons a b=>
   cases a
   exact .cons _ _ (ih _ b)
theorem o5 {l:OpenLaw} {n:Nat} (hn:l.most = some n) {P:Params} {h:Heap} {args:List WData} {vals:List Value}
  (uF:l.row.toRowW.claim.pre args = true) (C8:WellAll P h vals args) :
  ∃ a vs ns,vals = [Value.ref a]∧args = [WData.list (ns.map WData.int)]∧h.get? a = some { cls:=.type "list",data:=.seq vs.toArray }∧IntsAre vs ns∧ns.length≤n:=by
 have IJ:WShape.hasAll [] args [.list .int] = true:=(pre_splitW uF).1
 have hc:l.pre.holds [] { args:=args } = true:=(pre_splitW uF).2
 obtain ⟨d,r,rfl,h1,h2⟩:=hasAllW_cons IJ
 obtain rfl:=hasAllW_nil h2
 obtain ⟨xs,rfl,h3⟩:=hasW_list h1
 obtain ⟨ns,rfl⟩:=items_int h3
 have hlen:ns.length≤n:=by
  unfold OpenLaw.pre at hc
  have h4:(WTm.not (.lt (.lit (.int (n:Int))) (.len (.arg 0)))).holds [] { args:=[.list (ns.map .int)] } = true:=by
   have h4:=(holds_andW hc).1
   rw [hn] at h4
   exact h4
  have h5:=condW_of h4 (w_not (w_lt w_lit (w_len_list (w_arg rfl))))
  rw [List.length_map] at h5
  refine Nat.le_of_not_lt fun q=>?_
  have q':(n:Int) < ((ns.length:Nat):Int):=by omega
  first
   | (rw [decide_eq_true q'] at h5; exact absurd h5 (by decide))
   | (simp at h5; omega)
 cases C8 with
 | cons w1 w2=>
  cases w2
  cases w1 with
  | list ho Dx=>exact ⟨_,_,ns,rfl,rfl,ho,gP ns _ Dx,hlen⟩
theorem pe (l:OpenLaw) (args:List WData):l.row.toRowW.claim.post args (.bool true) args = true:=
 postW_of (r:=l.row.toRowW) (X:=(true == true))
  (show WShape.has [] (.bool true) .bool = true by first | rfl | decide | simp [WShape.has,WShape.arms,WShape.armsAll])
  (show (WTm.eq .res (.lit (.bool true))).value [] { args:=args,res:=some (.bool true),after:=args } = some (.bool (true == true)) from w_eq_bool (w_res rfl) w_lit) rfl
theorem mr {l:OpenLaw} {n:Nat} {q:Program} {loose:List Str} {XP:(Str→Option Value)→Heap→Prop} {YP:World→Heap→Prop} {d:DefRec}
  (hn:l.most = some n) (xA:d.params.defaults = [])
  (call:∀ (w:World) (s₀ s₁ : Shared) (mg mb:Str→Option Value) (fa:Addr) (o:Obj) (pm cd doc:Value) (a:Addr) (vs:List Value) (ns:List Int),
   Ground q loose [] XP w s₀ mg mb s₁.heap→YP w s₁.heap→
   s₁.heap.get? fa = some o→o.data = .func (docDef d.name d.params d.body d.scope pm cd doc)→s₁.heap.CodeRec cd d.name→mg d.name = some (.ref fa)→
   s₁.heap.get? a = some { cls:=.type "list",data:=.seq vs.toArray }→IntsAre vs ns→ns.length≤n→s₁.gens = #[]→
   codeAny (model l.prog w) callerA (.call (.ref fa) ⟨[.ref a],[]⟩) (fun r s'=>r = .ok (.ret (.bool true))∧OldK s₁.heap s'.heap∧s'.os = s₁.os∧AllBare s'.gens) s₁) :
  WalkO q loose XP YP l.row.toRowW d [] (fun f vs=>PySem.call f vs):=by
 intro w s₀ s₁ mg mb G Y fa o pm cd doc dV kV ho hd lT hD zy hg args vals as uF IZ Lw C8 Ly
 obtain rfl:dV = .none:=Dflts.none hD xA
 obtain rfl:kV = .none:=Dflts.noKw hD
 obtain ⟨a,vs,ns,rfl,rfl,xx,hints,hlen⟩:=o5 hn uF C8
 refine enter_call (codeAny_mono (call w s₀ s₁ mg mb fa o pm cd doc a vs ns G Y ho (fd_plain hd) lT zy xx hints hlen hg) fun r s' hq=>?_)
 obtain ⟨rfl,h2,h3,h4⟩:=hq
 exact ⟨.inl ⟨.bool true,.bool true,[],rfl,fun _=>rfl,.bool true,pe l _,fun _=>⟨List.Pairwise.nil,fun _ hm=>(nomatch hm)⟩⟩,h2,h3,h4⟩
section
variable {prog:Program} {w:World} {A:Around} {E:Value→Shared→Prop} {s:Shared} {K:Frag}
def CP (h:Heap):Heap:={ h with objs:=#[] }
def ledger (h:Heap) (L d:Addr):List (Addr×Obj):=(List.range h.objs.size).filterMap fun a=>if a = L∨a = d then none else (h.get? a).map fun o=>(a,o)
end
end Gw
namespace L2
open PySem PySem.Spec PyProof.Rows
theorem ju:∀ {vs:List Value} {ns:List Int},IntsAre vs ns→Vals (ns.map V.int) vs
 | _,_,.nil=>.nil
 | _,_,.cons n t h=>.cons ⟨t,rfl⟩ (ju h)
def xX (H:Hp):Prop:=∀ b,H b = none∨∃ o xs,H b = some (.iK o (.lst xs))
theorem sj {P:Program} {w:World} {K:PySem.W.Frag} {mg mb:Str→Option Value} {CX:js} {k:Nat} {fa a:Addr} {fd:FuncData} {x:Str} {sp:Sp} {s₁ : Shared} {vs:List Value} {ns:List Int}
  (KX:K.In s₁.heap) (tW:s₁.heap.Ns mainGlobals mg) (hb:s₁.heap.Ns builtinsNs mb) (Jn:∀ x:Str,x≠ "__name__"→mb x = bootBuiltins x) (Dk:s₁.heap.NoLimit) (hg:s₁.gens = #[])
  (ha:s₁.heap.get? a = some { cls:=.type "list",data:=.seq vs.toArray }) (hi:IntsAre vs ns) (hl:ns.length≤sizeLine) (hr:cu k callerA)
  (F:∀ base:Heap,K.In base→base.Ns mainGlobals mg→fA P w K mg base CX k fa fd [x] sp) (zI:∀ (s:Shared) (u:Value),BindsTo s fd ⟨[u],[]⟩ [(x,u)])
  (jJ:∀ H:Hp,xX H→aO K H a (ns.map V.int)→sp [.ref a] H (fun v _=>v = .bl true) fun _ _ _=>False)
  (DB:∀ H e s',CX [] H s₁ (fun _ _ _=>False) e s'→False) :
  codeAny (model P w) callerA (.call (.ref fa) ⟨[.ref a],[]⟩) (fun r s'=>r = .ok (.ret (.bool true))∧OldK s₁.heap s'.heap∧s'.os = s₁.os∧AllBare s'.gens) s₁:=by
 have rv:=ju hi
 have CS:=hi.length
 -- from an abstract heap in EN nothing but qA qQ may be tracked
 have core:∀ H:Hp,xX H→aO K H a (ns.map V.int)→fz P w H s₁.heap→(∀ b,H b≠none→b = a)→(H a≠none→K.lookup a = none)→
   codeAny (model P w) callerA (.call (.ref fa) ⟨[.ref a],[]⟩) (fun r s'=>r = .ok (.ret (.bool true))∧OldK s₁.heap s'.heap∧s'.os = s₁.os∧AllBare s'.gens) s₁:=by
  intro H hO hS bb hA hK
  have oN:∀ {b:Addr} {o:Obj},s₁.heap.get? b = some o→H b = none→(kB s₁.heap H).get? b = some o:=fun e n=>sH e n
  have y6:∀ {b:Addr} {o:Obj} {es:Array DictEntry} {ep:Nat},s₁.heap.get? b = some o→o.data = .dict es ep→H b = none:=fun {b o es ep} e d=>by
   cases q:H b with
   | none=>rfl
   | some u=>
    have e':b = a:=hA b (by rw [q]; simp)
    subst e'
    rw [ha] at e; cases e
    have d':Data.seq vs.toArray _ = Data.dict es ep:=d
    cases d'
  have AL:∀ {b:Addr} {m:Str→Option Value},s₁.heap.Ns b m→(kB s₁.heap H).Ns b m:=fun {b m} ⟨o,es,ep,e,d,r⟩=>⟨o,es,ep,oN e (y6 e d),d,r⟩
  have FW:K.In (kB s₁.heap H):=fun b o e=>oN (KX b o e) (by
   cases q:H b with
   | none=>rfl
   | some u=>
    have e':b = a:=hA b (by rw [q]; simp)
    subst e'
    rw [hK (by rw [q]; simp)] at e; cases e)
  have hM:Mod K mg (kB s₁.heap H):=⟨FW,AL tW,⟨mb,AL hb,Jn⟩,let ⟨mc,h1,h2⟩:=Dk; ⟨mc,AL h1,h2⟩⟩
  have e0:nS P w K mg (kB s₁.heap H) callerA [] s₁ H:=⟨rfl,hM,fun b o e=>uv e,Nat.le_of_eq (pP _ _),trivial,fun b hb=>absurd (show b∈([]:List Addr) from hb) (by simp),bb,.of_eq hg⟩
  refine codeAny_mono ((F _ FW (AL tW)).run callerA [] s₁ H ⟨[.ref a],[]⟩ [.ref a] [.ref a] _ _ hr e0 (zI s₁ (.ref a)) (.cons rfl .nil) (jJ H hO hS)) fun r s' h=>?_
  cases r with
  | error e=>exact (DB H e s' h).elim
  | ok fl=>
   cases fl with
   | next=>exact False.elim h
   | brk=>exact False.elim h
   | cont=>exact False.elim h
   | ret u=>
    obtain ⟨v,H',os,bare,un,Dg,r',q⟩:=h
    have q':v = .bl true:=q
    subst q'
    obtain rfl:u = Value.bool true:=r'
    refine ⟨rfl,OldK.of_keep fun b o e=>?_,os,bare⟩
    cases q:H b with
    | none=>exact un.keep b o e q (by intro z; exact absurd (show b∈([]:List Addr) from z) (by simp)) (by simp)
    | some u=>
     rcases hO b with z | ⟨ob,xs,z⟩
     ·rw [q] at z; cases z
     ·have z2:=un.gs b ob _ z
      obtain ⟨e1,_⟩:=bb b _ z
      obtain ⟨e2,_⟩:=Dg b _ z2
      rw [e] at e1; cases e1
      exact e2
 cases hk:K.lookup a with
 | some o=>
  -- qA qQ is one of qA module's own objects
  have e:=KX a o hk
  rw [ha] at e
  cases e
  refine core (fun _=>none) (fun _=>.inl rfl) (.inr ⟨_,vs.toArray,_,hk,rfl,rfl,rfl,by rw [List.size_toArray,CS]; exact hl,by simpa using rv⟩) (fun b u z=>by have z':(none:Option HO) = some u:=z; cases z') (fun b z=>absurd rfl z) fun z=>absurd rfl z
 | none=>
  refine core (fun b=>if b = a then some (.iK { cls:=.type "list",data:=.seq vs.toArray } (.lst (ns.map V.int))) else none) (fun b=>?_) (.inl (.inr ⟨{ cls:=.type "list",data:=.seq vs.toArray },if_pos rfl⟩)) (fun b u z=>?_) (fun b z=>?_) fun _=>hk
  ·by_cases hb:b = a
   ·exact .inr ⟨_,_,if_pos hb⟩
   ·exact .inl (if_neg hb)
  ·by_cases hb:b = a
   ·have z':=(if_pos hb).symm.trans z
    cases z'
    subst hb
    exact ⟨ha,by rw [List.length_map]; exact hl,vs,_,rv,ha⟩
   ·have z':=(if_neg hb).symm.trans z
    cases z'
  ·by_cases hb:b = a
   ·exact hb
   ·exact absurd (if_neg hb) z
end L2
namespace L2
open PySem PySem.Spec PyProof.Rows
abbrev LW {K:PySem.W.Frag} {h:Heap} (_:K.In h):PySem.W.Frag:=K
theorem t9 {l:PySem.W.OpenLaw} {n k:Nat} {q:Program} {loose:List Str} {XP:(Str→Option Value)→Heap→Prop} {YP:World→Heap→Prop} {d:DefRec} {K:Params→PySem.W.Frag} {CX:World→js} {sp:World→Sp} {x:Str}
  (hn:l.most = some n) (IW:n≤sizeLine) (xA:d.params.defaults = []) (hr:cu k callerA)
  (hY:∀ (w:World) (h:Heap),YP w h→(K w.params).In h)
  (F:∀ (w:World) (mg:Str→Option Value) (fa:Addr) (h:Heap),(K w.params).In h→h.Ns mainGlobals mg→mg d.name = some (.ref fa)→
   ∃ fd:FuncData,(∀ (s:Shared) (u:Value),BindsTo s fd ⟨[u],[]⟩ [(x,u)])∧
    ∀ base:Heap,(K w.params).In base→base.Ns mainGlobals mg→fA l.prog w (K w.params) mg base (CX w) k fa fd [x] (sp w))
  (jJ:∀ (w:World) (H:Hp) (a:Addr) (ns:List Int),ns.length≤n→xX H→aO (K w.params) H a (ns.map V.int)→sp w [.ref a] H (fun v _=>v = .bl true) fun _ _ _=>False)
  (DB:∀ (w:World) (H:Hp) (s:Shared) (e:Value) (s':Shared),CX w [] H s (fun _ _ _=>False) e s'→False) :
  PySem.W.WalkO q loose XP YP l.row.toRowW d [] (fun f vs=>PySem.call f vs):=by
 refine Gw.mr hn xA fun w s₀ s₁ mg mb fa o pm cd doc a vs ns G Y ho hd lT zy xx hints hlen hg=>?_
 have KX:=hY w _ Y
 obtain ⟨fd,hb,hF⟩:=F w mg fa _ KX G.T.g zy
 exact sj KX G.T.g G.T.b G.T.builtins G.T.nolimit hg xx hints (Nat.le_trans hlen IW) hr hF hb (fun H hO hS=>jJ w H a ns hlen hO hS) fun H e s'=>DB w H s₁ e s'
end L2
namespace L2
open PySem PySem.Spec PyProof.Rows
def inClass (s:Stmt) (j:Nat):Stmt:=match s with
 | .ClassDef _ _ _ body _ _ _ _ _ _ _=>body.getD j (.Pass ⟨0,0,0,0⟩)
 | _=>.Pass ⟨0,0,0,0⟩
def aH (s:Stmt):Arguments:=match s with
 | .FunctionDef _ a _ _ _ _ _ _ _ _=>a
 | _=>{ posonlyargs:=[],args:=[],vararg:=none,kwonlyargs:=[],kw_defaults:=[],kwarg:=none,defaults:=[] }
def aD (s:Stmt):List Stmt:=match s with
 | .FunctionDef _ _ b _ _ _ _ _ _ _=>b
 | _=>[]
def ah (s:Stmt):Scope:=match s with
 | .FunctionDef _ _ _ _ _ _ sc _ _ _=>sc
 | _=>{ kind:=.function,names:=[],isGenerator:=false,isCoroutine:=false }
abbrev L1:js:=fun _ _ _ _ _ _=>False
abbrev E0:XK:=fun _ _ _=>False
structure tV (K:PySem.W.Frag) (x qual:Str) (st:Stmt) (f:Addr) (fd:FuncData):Prop where
 ex:∃ (oc:Value) (od:Option Addr) (kV doc pm:Value) (an:Option Addr) (ck ct:Value) (oq:Array (Option Value)),
  fd = PySem.W.fnOf x qual (aH st) (aD st) (ah st) .none kV doc pm an ck ct∧K.lookup f = some ⟨oc,od,.func fd,oq⟩∧PySem.W.codeIn K ck qual = true
 kp:PySem.W.keepIn K (.ref f) = true
section
variable {P:Program} {w:World} {K:PySem.W.Frag} {mg:Str→Option Value} {base:Heap}
theorem tV.binds {x qual:Str} {st:Stmt} {f:Addr} {fd:FuncData} {ps:List Str} (F:tV K x qual st f fd)
  (h:∀ (kV doc pm:Value) (an:Option Addr) (ck ct:Value) (us:List Value),us.length = ps.length→bindArgs (PySem.W.fnOf x qual (aH st) (aD st) (ah st) .none kV doc pm an ck ct) ⟨us,[]⟩ = pure (ps.zip us)):Binds K fd ps []:=by
 obtain ⟨oc,od,kV,doc,pm,an,ck,ct,oq,rfl,lk,lT⟩:=F.ex
 exact .all (h kV doc pm an ck ct)
theorem ay {x qual:Str} {st:Stmt} {f:Addr} {oc:Value} {od an:Option Addr} {oq:Array (Option Value)} {kV doc pm ck ct:Value} (l:K.lookup f = some ⟨oc,od,.func (PySem.W.fnOf x qual (aH st) (aD st) (ah st) .none kV doc pm an ck ct),oq⟩)
  (c:PySem.W.codeIn K ck qual = true) (k:PySem.W.keepIn K (.ref f) = true):tV K x qual st f (PySem.W.fnOf x qual (aH st) (aD st) (ah st) .none kV doc pm an ck ct):=⟨⟨oc,od,kV,doc,pm,an,ck,ct,oq,rfl,l,c⟩,k⟩
end
section
variable {X:Cx}
theorem pv (i:Nat) {x:Str} {pos:Pos} (hN:X.N[i]? = some x:=by rfl) (hv:Be X.env.scope x:=by first | exact Or.inl rfl | exact Or.inr (Or.inl rfl) | exact Or.inr (Or.inr rfl)) (hd:(x == ("__debug__" : Str)) = false:=by decide)
  (lT:(x == ("__classdict__" : Str)) = false:=by decide):PE X (.Name x pos) (ud i):=wQ hN hv hd lT
end
theorem uB {A B:Prop} (h:B):if false = true then A else B:=by
 rw [if_neg Bool.false_ne_true]
 exact h
theorem pK {A B:Prop} (h:A):if true = true then A else B:=by
 rw [if_pos rfl]
 exact h
def ao (H H':Hp):Prop:=∀ b o,H b = some o→H' b = some o
theorem ao.trans {H H1 H2:Hp} (a:ao H H1) (b:ao H1 H2):ao H H2:=fun c o h=>b c o (a c o h)
theorem ao.free {H H':Hp} (e:ao H H') {l:Addr} (h:H' l = Option.none):H l = Option.none:=by
 cases q:H l with
 | none=>rfl
 | some o=>
  rw [e l o q] at h
  cases h
theorem ao.seq {K:PySem.W.Frag} {H H':Hp} {a:Addr} {xs:List V} (e:ao H H') (h:aO K H a xs):aO K H' a xs:=by
 rcases h with (h | ⟨o,h⟩) | h
 ·exact .inl (.inl (e _ _ h))
 ·exact .inl (.inr ⟨o,e _ _ h⟩)
 ·exact .inr h
end L2

section
namespace L2
open PySem PySem.Spec PyProof.Rows
def Sz (n:Nat) (x:Int):Prop:=x.natAbs < 2 ^ n
theorem Sz.mono {m n:Nat} {x:Int} (h:Sz m x) (IX:m≤n):Sz n x:=Nat.lt_of_lt_of_le h (Nat.pow_le_pow_right (by decide) IX)
section
variable {X:Cx}
theorem fO:iU X (binaryOp .Mult) (rI IntMulOk fun i j=>.int (i * j)):=AK fun _ _ _ _ _ _ _ hc q=>mul_int q hc
def EL (_ j:Int):Prop:=j≠0∧Sz 9000 j
theorem EL.np {i j:Int} (h:EL i j):Builtin.divisionGoesByPylong i j = false:=by
 refine PyProof.noPylong_of_log2 ?_
 have h0:j.natAbs≠0:=fun e=>h.1 (Int.natAbs_eq_zero.mp e)
 exact (Nat.log2_lt h0).mpr h.2
def EK (_ j:Int):Prop:=0 < j∧Sz 9000 j
theorem dH:iU X (binaryOp .FloorDiv) (rI EK fun i j=>.int (i / j)):=AK fun i j _ _ _ _ _ hc q=>by
 have h1:(0:Int) < j:=hc.1
 exact floordiv_int (by omega) (by rw [Int.fdiv_eq_ediv_of_nonneg i (by omega)]; exact q) (.inl (EL.np ⟨by omega,hc.2⟩))
end
structure cP (P:Program) (w:World) (K:PySem.W.Frag) (mg:Str→Option Value) (base:Heap) (CX:js) (x:Str) (k:Nat) (ps:List Str) (sp:Sp):Prop where
 ex:∃ f fd,fA P w K mg base CX k f fd ps sp∧mg x = some (.ref f)∧PySem.W.keepIn K (.ref f) = true∧Binds K fd ps []
section
variable {X:Cx} {CX:js} {k j:Nat} {ps:List Str} {sp:Sp} {E:XK} {x:Str} {p pos:Pos} {e:Expr} {es:List Expr} {t:TA}
theorem ax (h:cP X.prog X.w X.K X.mg X.base CX x k ps sp) (hr:cu j X.A) (hx:Passes CX X E) (ha:PA X (e :: es) t) (hk:k≤j:=by decide) (hg:Gl X x:=by rfl) (kC:(x == ("__debug__" : Str)) = false:=by decide)
  (he:starEach (e :: es) X.env = (false,eval e X.env) :: starEach es X.env:=by rfl) (i7:(backTo pos (starEach es X.env)).any (·.1) = false:=by rfl) :
  PE X (.Call (.Name x p) (e :: es) [] pos) (qD sp [] E t):=by
 obtain ⟨f,fd,F,hm,Dl,hb⟩:=h.ex
 exact um F (hr.mono hk) hg hm Dl hb .nil hx ha kC he i7
end
inductive kU:V→Value→Prop where
 | ty (n:String):kU (.ty n) (.type n)
 | ref (a:Addr):kU (.ref a) (.ref a)
def vH (K:PySem.W.Frag):List V→Hp→VK→Prop:=fun xs H Q=>∃ x c t u b,xs = [x,c]∧gd K H x t∧kU c u∧PySem.W.kitOne K t u = some b∧Q (.bl b) H
theorem gw {X:Cx}:dB X (.builtin "isinstance") (vH X.K):=by
 intro pins s σ H xs us Q I r h
 obtain ⟨x,c,t,u,b,rfl,ty,rc,e,q⟩:=h
 obtain ⟨u1,u2,rfl,r1,r2⟩:=vals2 r
 have e2:u2 = u:=by
  cases rc <;> (cases r2; rfl)
 subst e2
 exact pL I r1 ty e fun tk=>⟨.bl b,H,I.tok _,rfl,q⟩
section
variable {X:Cx} {pins:List (Addr×Obj)} {σ : St} {H:Hp} {s:Shared} {h':Heap}
theorem Inv.oV {t':Nat} {ch:List Addr} {a:Addr} {o:HO} (I:Inv X pins σ H s) (k:∀ b u,b∉ch→s.heap.get? b = some u→h'.get? b = some u) (hf:∀ b∈ch,gR X pins H b) (hp:s.heap.objs.size≤a)
  (new:bu X.prog X.w (upd H a o) h' a o):Inv X pins σ (upd H a o) { s with heap:=h',toks:=t' }:=by
 have hn:=I.bb.fresh hp
 have se:∀ b u,H b = some u→b∉ch:=fun b u e z=>by rw [(hf b z).1] at e; cases e
 refine I.step (g':=s.gens) (d':=s.drawn) (ch:=ch) (fun b hb=>?_) (fun b o _ _ hc e _=>k b o hc e) (fun b o _ _ hc e _=>⟨o.slots,k b o hc e⟩) (fun b u _ e n=>?_) (fun b o hc e=>⟨o,k b o hc e⟩)
  (fun b xs e=>by rw [aq (aB e hn)]; exact e) (fun b u v e=>by rw [aq (aB e hn)]; exact e) (fun b ps e=>⟨#[],by rw [aq (aB e hn),e]; simp⟩) (fun m hm=>?_) (fun b u e=>?_) I.bare
 ·obtain ⟨f0,f1,f2,f3,f4,f5⟩:=hf b hb
  exact ⟨f3,f1,f4,f5⟩
 ·rw [aq (Nat.ne_of_lt (Nat.lt_of_lt_of_le (Heap.lt_size e) hp))]; exact n
 ·obtain ⟨o,es,ep,ho,r⟩:=hm
  exact ⟨o,es,ep,k _ o (fun z=>(hf _ z).2.1 rfl) ho,r⟩
 ·by_cases hb:b = a
  ·subst hb; rw [ak] at e; cases e; exact new
  ·rw [aq hb] at e
   refine (I.bb b u e).d8 (fun c v hc q=>k c v ?_ q) (fun c q=>by rw [aq (aB q hn)]; exact q) fun c xs q=>by rw [aq (aB q hn)]; exact q
   rcases hc with z | z
   ·rw [z]; exact se b u e
   ·exact se c _ z
theorem Inv.uc {t':Nat} {ch:List Addr} (I:Inv X pins σ H s) (k:∀ b u,b∉ch→s.heap.get? b = some u→h'.get? b = some u) (hf:∀ b∈ch,gR X pins H b):Inv X pins σ H { s with heap:=h',toks:=t' }:=by
 have se:∀ b u,H b = some u→b∉ch:=fun b u e z=>by rw [(hf b z).1] at e; cases e
 refine I.step (g':=s.gens) (d':=s.drawn) (ch:=ch) (fun b hb=>?_) (fun b o _ _ hc e _=>k b o hc e) (fun b o _ _ hc e _=>⟨o.slots,k b o hc e⟩) (fun b u _ e n=>n) (fun b o hc e=>⟨o,k b o hc e⟩)
  (fun b xs e=>e) (fun b u v e=>e) (fun b ps e=>⟨#[],by rw [e]; simp⟩) (fun m hm=>?_) (fun b u e=>?_) I.bare
 ·obtain ⟨f0,f1,f2,f3,f4,f5⟩:=hf b hb
  exact ⟨f3,f1,f4,f5⟩
 ·obtain ⟨o,es,ep,ho,r⟩:=hm
  exact ⟨o,es,ep,k _ o (fun z=>(hf _ z).2.1 rfl) ho,r⟩
 ·refine (I.bb b u e).d8 (fun c v hc q=>k c v ?_ q) (fun c q=>q) fun c xs q=>q
  rcases hc with z | z
  ·rw [z]; exact se b u e
  ·exact se c _ z
end
def vh (K:PySem.W.Frag) (a:Addr):It:=
 ⟨fun i H=>∃ xs x,aO K H a xs∧xs[i]? = some x,
  fun i H x H'=>∃ p y,H p = none∧x = .ref p∧(∀ xs,aO K H a xs→xs[i]? = some y)∧H' = upd H p (.tup [.int i,y]),
  fun i H=>∃ xs,aO K H a xs∧xs.length≤i⟩
theorem oX {P:Program} {w:World} {K:PySem.W.Frag} {elts:List Expr} {kx:Nat} {px:Pos} (a e it:Addr) (FG:e≠it) :
  Turn P w K (.Tuple elts kx px) (vh K a) [e,it] e (fun i h=>(∃ old,IsEnum h e it (i:Nat) old)∧h.IsListIter it a i) where
 mem:=by simp
 obj:=fun i h st b hb=>by
  obtain ⟨⟨old,he⟩,hit⟩:=st
  rcases List.mem_cons.mp hb with rfl | hb
  ·exact ⟨_,he,fun v z=>by cases z⟩
  ·obtain rfl:b = it:=by simpa using hb
   obtain ⟨o,e1,c,d⟩:=hit
   exact ⟨o,e1,fun v z=>by rw [d] at z; cases z⟩
 keep:=fun i h h' st k=>by
  obtain ⟨⟨old,he⟩,hit⟩:=st
  exact ⟨⟨old,k e (by simp) _ he⟩,hit.at fun o q=>k it (by simp) o q⟩
 item:=by
  intro X hP hw hK hc i pins s σ H E I hf st hg
  subst hP hw hK
  obtain ⟨⟨old,he⟩,hit⟩:=st
  obtain ⟨xs,x,hq,hx⟩:=hg
  obtain ⟨aQ,rv,p,hz⟩:=I.list hq
  obtain ⟨u,hu,ru⟩:=rv.get hx
  have zD:e < s.heap.objs.size:=Heap.lt_size he
  have Dr:it < s.heap.objs.size:=by obtain ⟨_,q,_⟩:=id hit; exact Heap.lt_size q
  refine wpAny_pyNext_enum_item he hit p.isList (x:=u) (by simpa using hu) FG fun h' ho Dq hT II hk=>⟨_,rfl,?_⟩
  refine wpAny_letOwnedTupleGo_enum ho fun h2 Jf zo=>?_
  replace zo:Heap.SameBut e h' h2:=zo
  have hn:H s.heap.objs.size = none:=I.bb.fresh (Nat.le_refl _)
  have kk:∀ b o,b∉[e,it]→s.heap.get? b = some o→h2.get? b = some o:=fun b o hb q=>(zo.2 b fun z=>hb (by simp [z])).trans (hk b o (fun z=>hb (by simp [z])) (fun z=>hb (by simp [z])) q)
  have Jp:h2.get? s.heap.objs.size = some { cls:=.type "tuple",data:=.seq #[.int i s.toks,u] }:=(zo.2 _ (Nat.ne_of_gt zD)).trans hT
  refine ⟨.ref s.heap.objs.size,upd H s.heap.objs.size (.tup [.int i,x]),Inv.oV (s:=s) (h':=h2) (t':=s.toks + 1) I kk hf (Nat.le_refl _) ⟨by simp only [List.length_cons,List.length_nil]; rw [sizeLine_eq]; decide,[.int i s.toks,u],.cons ⟨_,rfl⟩ (.cons ru .nil),⟨_,Jp,rfl,_,rfl⟩⟩,rfl,
   ⟨_,x,hn,rfl,fun ys hy=>by rw [I.lL hy hq]; exact hx,rfl⟩,⟨⟨_,Jf⟩,Dq.at fun o q=>(zo.2 it (Ne.symm FG)).trans q⟩,fun b hb=>?_⟩
  rw [aq ?_]
  ·exact (hf b hb).1
  ·rcases List.mem_cons.mp hb with rfl | hb
   ·exact Nat.ne_of_lt zD
   ·obtain rfl:b = it:=by simpa using hb
    exact Nat.ne_of_lt Dr
 done:=by
  intro X hP hw hK hc i pins s σ H E I hf st hg
  subst hP hw hK
  obtain ⟨⟨old,he⟩,hit⟩:=st
  obtain ⟨xs,hq,hx⟩:=hg
  obtain ⟨aQ,rv,p,hz⟩:=I.list hq
  have hl:=rv.length
  exact wpAny_pyNext_enum_end (I.ok.hd hc) he hit p.isList (by simp; omega) fun h' eb=>⟨rfl,Inv.uc (t':=s.toks) (ch:=[e,it]) I (fun b o hb q=>eb b o (fun z=>hb (by simp [z])) q) hf⟩
 self:=fun _ _ _ _ _ st h=>by
  obtain ⟨⟨old,he⟩,hit⟩:=st
  exact wpAny_pyIter_enum he h
def vO (K:PySem.W.Frag) (ta:TA):TI:=fun σ H R=>ta σ H fun vs H1=>∃ a,vs = [.ref a]∧(∃ xs,aO K H1 a xs)∧R (vh K a) H1
theorem oj {X:Cx} {l:Expr} {ta:TA} {p pos:Pos} {elts:List Expr} {kx:Nat} {px:Pos} (hm:X.mg "enumerate" = none) (ha:PA X [l] ta) (hg:Gl X "enumerate":=by rfl) (hs:starEach [l] X.env = [(false,eval l X.env)]:=by rfl) :
  PI X (.Tuple elts kx px) (.Call (.Name "enumerate" p) [l] [] pos) (vO X.K ta):=by
 intro pins s σ H R I h
 refine Call_ (iG I hg hm boot_enumerate (PyProof.Rows.callWith_type1 (cm (ha pos pins s σ H _ I h) fun us s1 ⟨vs,H1,I1,r1,q1⟩=>?_) hs rfl))
 obtain ⟨a,rfl,⟨xs,hq⟩,q⟩:=q1
 obtain ⟨u,rfl,ru⟩:=vals1 r1
 cases ru
 obtain ⟨aQ,rv,pl,hz⟩:=I1.list hq
 refine call_enumerate_list pl.isList fun h' he hit II hk=>?_
 refine wpAny_pyIter_enum he ?_
 have I2:Inv X pins σ H1 { s1 with heap:=h' }:=I1.kept (t':=s1.toks) fun b o e=>hk b o e
 refine ⟨_,[s1.heap.objs.size + 1,s1.heap.objs.size],_,_,H1,rfl,I2,oX a _ _ (Nat.succ_ne_self _),⟨⟨_,he⟩,hit⟩,fun b hb=>?_,q⟩
 rcases List.mem_cons.mp hb with rfl | hb
 ·exact I1.sL (Nat.le_succ _) (I1.bb.fresh (Nat.le_succ _))
 ·obtain rfl:b = s1.heap.objs.size:=by simpa using hb
  exact I1.sL (Nat.le_refl _) (I1.bb.fresh (Nat.le_refl _))
theorem sM {K:PySem.W.Frag} {a:Addr} {xs:List V} {g:TG} {tb:TS} {D:Ends} {σ : St} {H:Hp} (Pv:Nat→St→Hp→Prop) (h0:Pv 0 σ H) (hl:∀ i σ H,i≤xs.length→Pv i σ H→aO K H a xs)
  (hs:∀ i x p σ H,xs[i]? = some x→Pv i σ H→H p = none→g (.ref p) σ (upd H p (.tup [.int i,x])) fun σ2 H2=>tb { D with nx:=Pv (i + 1),ct:=Pv (i + 1),bk:=D.nx } σ2 H2) (hd:∀ σ H,Pv xs.length σ H→D.nx σ H) :
  ∃ W:Nat→Nat→St→Hp→Prop,(∃ m,W 0 m σ H)∧∀ i m σ H,W i m σ H→
   ((vh K a).stop i H∧D.nx σ H)∨((vh K a).go i H∧∃ N:St→Hp→Prop,(∀ σ' H',N σ' H'→∃ m',m' < m∧W (i + 1) m' σ' H')∧∀ x H',(vh K a).oR i H x H'→g x σ H' fun σ2 H2=>tb { D with nx:=N,ct:=N,bk:=D.nx } σ2 H2):=by
 refine ⟨fun i m σ H=>m = xs.length - i∧i≤xs.length∧Pv i σ H,⟨xs.length,by simp,Nat.zero_le _,h0⟩,?_⟩
 rintro i m σ H ⟨rfl,hi,p⟩
 have q:=hl i σ H hi p
 by_cases cx:i < xs.length
 ·refine .inr ⟨⟨xs,xs[i],q,by simp [cx]⟩,Pv (i + 1),fun σ' H' p'=>⟨xs.length - (i + 1),by omega,rfl,cx,p'⟩,fun x H' y=>?_⟩
  obtain ⟨r,y,hr,rfl,hy,rfl⟩:=y
  exact hs i y r σ H (hy xs q) p hr
 ·have e:i = xs.length:=by omega
  subst e
  exact .inl ⟨⟨xs,q,Nat.le_refl _⟩,hd σ H p⟩
section
variable {σ : St} {H:Hp} {Q:VK} {D:Ends}
theorem r_var {i:Nat} {v:V} (h : σ[i]? = some (some v)) (q:Q v H):ud i σ H Q:=⟨v,h,q⟩
theorem r_c {v:V} (q:Q v H):tC v σ H Q:=q
theorem r_op {r:R2} {ta tb:TE} (h:ta σ H fun x H1=>tb σ H1 fun y H2=>r x y H2 Q):yq r ta tb σ H Q:=h
theorem wF {r:V→Hp→VK→Prop} {ta:TE} (h:ta σ H fun x H1=>r x H1 Q):EU r ta σ H Q:=h
theorem rf {g:Int→Int→V} {i j:Int} (q:Q (g i j) H):wN g (.int i) (.int j) H Q:=⟨i,j,rfl,rfl,q⟩
theorem rh {C:Int→Int→Prop} {g:Int→Int→V} {i j:Int} (c:C i j) (q:Q (g i j) H):rI C g (.int i) (.int j) H Q:=⟨i,j,rfl,rfl,c,q⟩
theorem wH {g:Int→V} {i:Int} (q:Q (g i) H):rU g (.int i) H Q:=⟨i,rfl,q⟩
theorem rD {i j:Int} (q:Q (.bl (decide (i = j))) H):B5 (.int i) (.int j) H Q:=⟨rfl,by rw [hU,Bool.beq_eq_decide_eq]; exact q⟩
theorem rm {i j:Int} (q:Q (.bl (!decide (i = j))) H):BZ (.int i) (.int j) H Q:=⟨rfl,by rw [hU,Bool.beq_eq_decide_eq]; exact q⟩
theorem r_seq {t u:TS} (h:t { D with nx:=u D } σ H):wq t u D σ H:=h
theorem mZ (h:D.nx σ H):vq D σ H:=h
theorem r_asg {te:TE} {g:TG} (h:te σ H fun x H1=>g x σ H1 D.nx):ue te g D σ H:=h
theorem r_gname {i:Nat} {v:V} {R:St→Hp→Prop} (h:R (σ.set i (some v)) H):lW i v σ H R:=h
theorem q5 {te:TE} (h:te σ H D.rt):yo te D σ H:=h
theorem m9 {te:TE} (h:te σ H fun _ H1=>D.nx σ H1):vt te D σ H:=h
theorem n5 {c:TT} {t u:TS} (h:c σ H fun b H1=>if b = true then t D σ H1 else u D σ H1):wt c t u D σ H:=h
theorem mU {t:TE} {R:Bool→Hp→Prop} (h:t σ H fun x H'=>∃ k,x = .bl k∧R k H'):vn t σ H R:=h
theorem BW {t:TE} {R:Bool→Hp→Prop} (h:t σ H fun x H'=>∃ k,x = .bl k∧R k H'):tB t σ H R:=h
theorem wK {k:Bool} {R:Bool→Prop} (h:R k):∃ k',V.bl k = .bl k'∧R k':=⟨k,rfl,h⟩
theorem rj {t:TT} {R:Bool→Hp→Prop} (h:t σ H fun c H1=>R (!c) H1):yt t σ H R:=h
theorem rF {t u:TT} {R:Bool→Hp→Prop} (h:t σ H fun c H1=>if c = true then u σ H1 R else R false H1):yE t u σ H R:=h
theorem wI {t u:TT} {R:Bool→Hp→Prop} (h:t σ H fun c H1=>if c = true then R true H1 else u σ H1 R):EY t u σ H R:=h
theorem ng {ta tb:TE} (h:ta σ H fun x H1=>∃ c,x = .bl c∧if c = true then tb σ H1 Q else Q (.bl false) H1):vw ta tb σ H Q:=h
theorem ri {ta tb:TE} (h:ta σ H fun x H1=>∃ c,x = .bl c∧if c = true then Q (.bl true) H1 else tb σ H1 Q):yp ta tb σ H Q:=h
theorem mX {ta:TE} (h:ta σ H fun x H1=>∃ c,x = .bl c∧Q (.bl (!c)) H1):vo ta σ H Q:=h
theorem ip {R:List V→Hp→Prop} (h:R [] H):yu σ H R:=h
theorem eu {ta:TE} {tr:TA} {R:List V→Hp→Prop} (h:ta σ H fun x H1=>tr σ H1 fun xs H2=>R (x :: xs) H2):vv ta tr σ H R:=h
theorem ki {sp:Sp} {E:XK} {t:TA} (h:t σ H fun vs H1=>sp (vs ++ []) H1 Q E):qD sp [] E t σ H Q:=h
theorem wJ {r:List V→Hp→VK→Prop} {t:TA} (h:t σ H fun vs H1=>r vs H1 Q):BC r t σ H Q:=h
theorem qY {t:TA} (h:t σ H fun xs H1=>xs.length≤sizeLine∧∀ p,H1 p = none→Q (.ref p) (upd H1 p (.tup xs))):yj t σ H Q:=h
theorem rq {t:TA} (h:t σ H fun xs H1=>xs.length≤sizeLine∧∀ p,H1 p = none→Q (.ref p) (upd H1 p (.lst xs))):yx t σ H Q:=h
theorem dZ {wi:TI} {g:TG} {tb:TS} (h:wi σ H fun J H1=>∃ W:Nat→Nat→St→Hp→Prop,(∃ m,W 0 m σ H1)∧∀ i m σ H,W i m σ H→
 (J.stop i H∧D.nx σ H)∨(J.go i H∧∃ N:St→Hp→Prop,(∀ σ' H',N σ' H'→∃ m',m' < m∧W (i + 1) m' σ' H')∧∀ x H',J.oR i H x H'→g x σ H' fun σ2 H2=>tb { D with nx:=N,ct:=N,bk:=D.nx } σ2 H2)):yC wi g tb D σ H:=h
theorem AS {A B:Prop} (h:A):if true = true then A else B:=pK h
theorem AU {A B:Prop} (h:B):if false = true then A else B:=uB h
theorem if2 {c A B:Prop} [Decidable c] (h1:c→A) (h2:¬ c→B):if decide c = true then A else B:=by
 by_cases h:c
 ·rw [decide_eq_true h]; exact pK (h1 h)
 ·rw [decide_eq_false h]; exact uB (h2 h)
theorem xr {c A B:Prop} [Decidable c] (h1:¬ c→A) (h2:c→B):if (!decide c) = true then A else B:=by
 by_cases h:c
 ·rw [decide_eq_true h]; exact uB (h2 h)
 ·rw [decide_eq_false h]; exact pK (h1 h)
end
end L2
end
section
namespace L2
open PySem PySem.Spec PyProof.Rows
theorem bc:bootBuiltins "len" = some (.builtin "len"):=by decide +kernel
theorem aK:bootBuiltins "isinstance" = some (.builtin "isinstance"):=by decide +kernel
theorem nN:bootBuiltins "int" = some (.type "int"):=by decide +kernel
theorem u7:bootBuiltins "bool" = some (.type "bool"):=by decide +kernel
theorem u6:bootBuiltins "list" = some (.type "list"):=by decide +kernel
theorem fh:bootBuiltins "ValueError" = some (.type "ValueError"):=by decide +kernel
structure Def (K:PySem.W.Frag) (mg:Str→Option Value) (x:Str) (st:Stmt) (ps:List Str):Prop where
 ex:∃ f fd,tV K x x st f fd∧mg x = some (.ref f)∧Binds K fd ps []
theorem ao.upd {H:Hp} {p:Addr} {o:HO} (h:H p = none):ao H (upd H p o):=fun b u e=>by rw [aq (aB e h)]; exact e
section
variable {σ : St} {H:Hp} {Q:VK} {K:PySem.W.Frag}
theorem cw {p:Addr} {xs:List V} {i:Int} {v:V} (h:aO K H p xs) (hi:qx xs i = some v) (q:Q v H):wM K (.ref p) (.int i) H Q:=⟨p,xs,i,v,rfl,rfl,h,hi,q⟩
theorem m7 {x c:V} {t u:Value} {b:Bool} (ty:gd K H x t) (hc:kU c u) (e:PySem.W.kitOne K t u = some b) (q:Q (.bl b) H):vH K [x,c] H Q:=⟨x,c,t,u,b,rfl,ty,hc,e,q⟩
theorem ir {n:Nat} {t:tY} {a:Addr} {xs:List V} {R:St→Hp→Prop} (h:SqT K H a xs) (hl:xs.length = n) (q:t xs σ H R):xG K n t (.ref a) σ H R:=⟨a,xs,rfl,h,hl,q⟩
theorem kh {t:TG} {u:tY} {v:V} {vs:List V} {R:St→Hp→Prop} (q:t v σ H fun σ' H'=>u vs σ' H' R):vR t u (v :: vs) σ H R:=⟨v,vs,rfl,q⟩
theorem m8 {R:St→Hp→Prop} (q:R σ H):zK [] σ H R:=⟨rfl,q⟩
theorem uz {K:PySem.W.Frag}:PySem.W.kitOne K (.type "int") (.type "int") = some true:=by simp [PySem.W.kitOne]
end
end L2
namespace Fr
structure LV (a b t u:Int):Prop where
 pos:0 < u
 co:Int.gcd t u = 1
 eq:t * b = a * u
 ta:t.natAbs≤a.natAbs
 ub:u.natAbs≤b.natAbs
end Fr
namespace L2
open PySem PySem.Spec PyProof.Rows
theorem xp {A B:Prop} (h:B):if (!true) = true then A else B:=uB h
theorem xq {A B:Prop} (h:A):if (!false) = true then A else B:=pK h
theorem vz:2≤sizeLine:=by rw [sizeLine_eq]; decide
theorem yI:3≤sizeLine:=by rw [sizeLine_eq]; decide
end L2
namespace L2
open PySem PySem.Spec PyProof.Rows
theorem de {CX:js} {P:Program} {w:World} {K:PySem.W.Frag} {mg:Str→Option Value} {base:Heap} {N:List Str} {q:Str} {sc:Scope} {f:Addr} {cd:Value} {A:Around} {o:List Env} {s:Shared} {H:Hp} {E:XK}:(eI CX P w K mg base N q sc f cd A o s H E).K = K:=rfl
end L2
namespace L2
open PySem PySem.Spec PyProof.Rows
section
variable {K:PySem.W.Frag}
theorem xh:PySem.W.kitOne K (.type "int") (.type "bool") = some false:=by kernel_rfl
theorem xg:PySem.W.kitOne K (.type "list") (.type "list") = some true:=by kernel_rfl
end
end L2
namespace L2
open PySem PySem.Spec PyProof.Rows
theorem mulL {a b:Int} (h1 : -(2 ^ 64) < a) (h2:a < 2 ^ 64):IntMulOk a b:=.of_left (intBits_le_64 h1 h2)
theorem Sz.G7 {n:Nat} {x:Int} (h1 : -(2 ^ 64) < x) (h2:x < 2 ^ 64) (hn:64≤n):Sz n x:=Sz.mono (m:=64) (by unfold Sz; omega) hn
theorem kK {i j:Int} (h1:0 < j) (h2:j < 2 ^ 64):EK i j:=⟨h1,Sz.G7 (by omega) h2 (by decide)⟩
section
variable {X:Cx} {a b:Expr} {i j v:Int} {op:Operator} {pos:Pos} {C:Int→Int→Prop} {g:Int→Int→V}
theorem fL (ho:iU X (binaryOp op) (rI C g)) (ha:PE X a (tC (.int i))) (hb:PE X b (tC (.int j))) (c:C i j) (e:g i j = .int v):PE X (.BinOp a op b pos) (tC (.int v)):=
 fun pins s σ H Q I h=>av ho ha hb pins s σ H Q I ⟨i,j,rfl,rfl,c,by rw [e]; exact h⟩
end
end L2
namespace L2
open PySem PySem.Spec PyProof.Rows
end L2
end
section
namespace L2
open PySem PySem.Spec PySem.W PySem.Calls PyProof.Rows Builtin Builtin.ObjectAttr Builtin.Getset_descriptor
def ExcAt (C:Addr) (a:Addr) (h:Heap):Prop:=∃ ob,h.get? a = some ob∧ob.cls = .ref C∧PySem.W.notCls ob = true
def uS (C a:Addr):HO:=.ext (ExcAt C a)
theorem ExcAt.d8 {C a:Addr} {h h':Heap} (x:ExcAt C a h) (k:∀ o,h.get? a = some o→h'.get? a = some o):ExcAt C a h':=let ⟨o,e,r⟩:=x; ⟨o,k o e,r⟩
theorem uQ {P:Program} {w:World} {H:Hp} {h:Heap} {C a:Addr} (x:ExcAt C a h):bu P w H h a (uS C a):=
 ⟨x,let ⟨o,e,_⟩:=x; ⟨o,e⟩,fun _ _ y k=>y.d8 k⟩
theorem uR {P:Program} {w:World} {H:Hp} {h:Heap} {C a:Addr} (hk:fz P w H h) (e:H a = some (uS C a)):ExcAt C a h:=(hk a _ e).1
theorem ExcAt.ty {C a:Addr} {h:Heap} {M:Model} (x:ExcAt C a h):Looks M h (typeOf (.ref a)) (.ref C):=by
 obtain ⟨o,e,c,_⟩:=x
 exact c▸(Looks.ld e).andThen .now
def gT (C:Addr) (D:Option Addr) (a:Addr) (h:Heap):Prop:=∃ ob,h.get? a = some ob∧ob.cls = .ref C∧PySem.W.notCls ob = true∧ob.dict = D
def dM (C:Addr) (D:Option Addr) (a:Addr):HO:=.ext (gT C D a)
theorem gT.d8 {C a:Addr} {D:Option Addr} {h h':Heap} (x:gT C D a h) (k:∀ o,h.get? a = some o→h'.get? a = some o):gT C D a h':=let ⟨o,e,r⟩:=x; ⟨o,k o e,r⟩
theorem uT {P:Program} {w:World} {H:Hp} {h:Heap} {C a:Addr} {D:Option Addr} (x:gT C D a h):bu P w H h a (dM C D a):=
 ⟨x,let ⟨o,e,_⟩:=x; ⟨o,e⟩,fun _ _ y k=>y.d8 k⟩
theorem oF {P:Program} {w:World} {H:Hp} {h:Heap} {C a:Addr} {D:Option Addr} (hk:fz P w H h) (e:H a = some (dM C D a)):gT C D a h:=(hk a _ e).1
theorem gT.at {C a:Addr} {D:Option Addr} {h:Heap} (x:gT C D a h):ExcAt C a h:=let ⟨o,h1,h2,h3,_⟩:=x; ⟨o,h1,h2,h3⟩
def uP (C:Addr) (D:Option Addr) (a:Addr):HO:=match D with | none=>uS C a | some d=>dM C (some d) a
structure dq (K:Frag) (D:Addr):Prop where
 FN:findIn K (.ref D) "__getattribute__" = some (some (.builtin "BaseException.__getattribute__"))
 FL:findIn K (.ref D) "__getattr__" = some none
 AX:mroIn K D (.type "BaseException") = some true
 cl:(clsIn K D).isSome = true
 ha:findIn K (.ref D) "__class__" = some (some (.builtin "object.__class__"))
 hn:specialIn K (.builtin "object.__class__") "__get__" = some (some (.builtin "getset_descriptor.__get__"))
 AV:takesIn K (.builtin "object.__class__") = some true
 hm:mroIn K D (.type "object") = some true
section
variable {prog:Program} {w:World} {A:Around} {E:Value→Shared→Prop} {s:Shared} {K:Frag} {x D:Addr}
theorem uV {M:Model} {h:Heap} (X:K.In h) (c:dq K D):Looks M h (find (.ref x) (.ref D) "__class__") (.bind (.builtin "getset_descriptor.__get__") (.builtin "object.__class__")):=by
 have l1:=looks_findIn (M:=M) X c.ha
 have l2:Looks M h (getOf (some (.builtin "object.__class__"))) (some (.builtin "getset_descriptor.__get__")):=looks_specialIn X c.hn
 have l3:=looks_takesIn (M:=M) X c.AV
 refine l1.andThen (l2.andThen ?_)
 have l4:Looks M h (dataDescriptor? (some (.builtin "object.__class__")) (some (.builtin "getset_descriptor.__get__"))) (some (.builtin "getset_descriptor.__get__",.builtin "object.__class__")):=l3.andThen .now
 exact l4.andThen (Looks.tag .now)
theorem xJ {R:Result→Shared→Prop} {tp:Value} (X:K.In s.heap) (I:ExcAt D x s.heap) (c:dq K D) (h:R (.ok (.ret (.ref D))) s) :
  codeAny (model prog w) A (.call (.builtin "getset_descriptor.__get__") ⟨[.builtin "object.__class__",.ref x,tp],[]⟩) R s:=by
 obtain ⟨oo,e,cc,nc⟩:=I
 obtain ⟨HP,od,Fm,oq⟩:=oo
 have I':ExcAt D x s.heap:=⟨_,e,cc,nc⟩
 obtain ⟨hh,g,dr,t,os⟩:=s
 have k0:=I'.ty (M:=model prog w)
 have k1:=looks_mroIn (M:=model prog w) X c.hm
 refine codeAny_call_builtin KF.slot_gs.plain KF.entry_gs (KF.slot_gs.check _ _ _ _ _ _ _ _ KF.type_class (KF.args_gs _ _ _) ?_)
 unfold Builtin.«getset_descriptor.__get__» descrGet
 rw [dga_obj]
 refine wpAny_bind (wpAny_pure ?_)
 unfold descrGetter descrCheckInstance descrNameAndClass isInstance
 simp only [KF.owner_class]
 repeat lk
 refine ⟨Code.quiet_builtin _ (by decide +kernel),codeAny_builtin KF.entry_class ?_⟩
 unfold Builtin.«object.__class__» shownTypeOf
 repeat lk
 exact h
theorem ma {M:Model} {vK:Value} {Q:Unit→Shared→Prop} (X:K.In s.heap) (I:ExcAt D x s.heap) (AX:mroIn K D (.type "BaseException") = some true) (hq:Q () s):wpAny M A (checkBuiltinCall "BaseException.__getattribute__" ⟨[.ref x,vK],[]⟩) Q E s:=by
 obtain ⟨hh,g,d,t,os⟩:=s
 have k0:=I.ty (M:=M)
 have k1:=looks_mroIn (M:=M) X AX
 have hk:builtinKind "BaseException.__getattribute__" = some .slot:=by decide +kernel
 have hs:splitId "BaseException.__getattribute__" = some ("BaseException", "__getattribute__"):=by decide +kernel
 have ha:=F.args_bexc_ga (.ref x) vK
 simp only [checkBuiltinCall,hk,hs]
 refine wpAny_bind ?_
 unfold isInstance
 repeat (first | lk | wp_step)
 exact hq
theorem sR {tk:Tok} {Q:PySem.Fin→Shared→Prop} (X:K.In s.heap) (I:ExcAt D x s.heap) (c:dq K D) (hq:Q (.done (.ret (.ref D))) s) :
  wpAny (model prog w) A (Builtin.«object.__getattribute__» ⟨[.ref x,.str "__class__" tk],[]⟩) Q E s:=by
 have I':=I
 have X':=X
 obtain ⟨hh,g,d,t,os⟩:=s
 have k0:=I.ty (M:=model prog w)
 have k2:=uV (x:=x) (M:=model prog w) X c
 repeat (any_goals (first | assumption | with_reducible refine Looks.at (by assumption) ?_ | wp_step))
 refine xJ (s:=⟨hh,g,d,t,os⟩) X' I' c ?_
 repeat (any_goals (first | assumption | wp_step))
theorem uW {tk:Tok} {R:Result→Shared→Prop} (X:K.In s.heap) (I:ExcAt D x s.heap) (c:dq K D) (hq:R (.ok (.ret (.ref D))) s) :
  codeAny (model prog w) A (.call (.builtin "BaseException.__getattribute__") ⟨[.ref x,.str "__class__" tk],[]⟩) R s:=
 codeAny_call_builtin F.attr_ValueError.ga.plain F.entry_bexc_ga (ma X I c.AX (sR X I c hq))
theorem sS {Q:Option Value→Shared→Prop} (X:K.In s.heap) (I:ExcAt D x s.heap) (c:dq K D) (h:Q (some (.ref D)) { s with toks:=s.toks + 1 }):wpAny (model prog w) A (getAttr? (.ref x) "__class__") Q E s:=by
 have I':=I
 have X':=X
 obtain ⟨hh,g,d,t,os⟩:=s
 have k0:=I.ty (M:=model prog w)
 have k1:=looks_findIn (M:=model prog w) X c.FN
 have k3:=looks_findIn (M:=model prog w) X c.FL
 have f3:=F.attr_ValueError.ga.bind (.ref x)
 have IF:(Value.builtin "BaseException.__getattribute__" == Value.builtin "object.__getattribute__") = false:=by decide +kernel
 have Lq:(onTheHeap (Value.ref D) && Value.builtin "BaseException.__getattribute__" == Value.builtin "object.__getattribute__") = false:=by rw [IF]; rfl
 have Lr:(false && onTheHeap (Value.builtin "BaseException.__getattribute__")) = false:=rfl
 unfold getAttr? getAttrBy?
 refine wpAny_bind (wpAny_mkText (wpAny_bind (wpAny_attempt ?_)))
 repeat (any_goals (first | assumption | with_reducible refine Looks.at (by assumption) ?_ | wp_step))
 refine uW (s:=⟨hh,g,d,t + 1,os⟩) X' I' c ?_
 repeat (any_goals (first | assumption | wp_step))
theorem lQ (c:dq K D):KitX K (.ref x) (.ref D) (ExcAt D x) where
 ty:=fun _ _ _ I=>I.ty
 it:=fun _ _ X _=>by
  obtain ⟨JT,uJ⟩:=Option.isSome_iff_exists.mp c.cl
  unfold clsIn at uJ
  split at uJ
  ·rename_i c' d' JU BQ ho
   intro A' Q' E' s' k q
   unfold isType loadHead
   exact wpAny_bind (wpAny_loadPart (k _ _ (X _ _ ho)) (wpAny_pure q))
  ·cases uJ
 ne:=fun h tp dd aQ n sl X zj=>by
  obtain ⟨JT,uJ⟩:=Option.isSome_iff_exists.mp c.cl
  refine Bool.eq_false_iff.mpr fun q=>?_
  have e:D = tp:=Value.ref.inj (beq_iff_eq.mp q)
  subst e
  unfold clsIn at uJ
  split at uJ
  ·rename_i c' d' JU BQ ho
   have z:=(X _ _ ho).symm.trans zj
   cases z
  ·cases uJ
 ca:=fun X I k=>sS X I c k
end
end L2
end
section
namespace Kd
open PySem
def Kp {α : Type}:Sem α→Prop
 | .pure _=>True
 | .raise _=>True
 | .unsupported _=>True
 | .finish _=>True
 | .rule _ k=>Kp (k ())
 | .at _ k=>Kp (k ())
 | .load _ _ k=>∀ o,Kp (k o)
 | .update _ _ f k=>(∀ o,(f o).dict = o.dict)∧Kp (k ())
 | .alloc _ k=>∀ a,Kp (k a)
 | .loadIfAlive _ k=>∀ o,Kp (k o)
 | .point _ k=>Kp (k ())
 | .register _ _=>True
 | .fresh k=>∀ t,Kp (k t)
 | .ask k=>∀ x,Kp (k x)
 | .choose _ _ k=>∀ x,Kp (k x)
 | .os _ _ k=>∀ x,Kp (k x)
 | .call ..=>False
 | .handled _ k=>∀ x,Kp (k x)
 | .newGen _ k=>∀ x,Kp (k x)
 | .genState _ k=>∀ x,Kp (k x)
 | .resume ..=>False
 | .yield ..=>True
 | .stack k=>∀ x,Kp (k x)
 | .fork ..=>True
 | .thread k=>∀ x,Kp (k x)
 | .await ..=>True
def Dc (e:Addr) (D:Option Addr) (h:Heap):Prop:=∃ o,h.objs[e]? = some o∧o.dict = D
theorem Dc.upd {e a:Addr} {D:Option Addr} {h:Heap} {f:Obj→Obj} (x:Dc e D h) (hf:∀ o,(f o).dict = o.dict):Dc e D (h.update a f):=by
 obtain ⟨o,h1,h2⟩:=x
 cases h with
 | mk objs l=>
  unfold Heap.update
  by_cases q:a = e
  ·exact ⟨f o,by simp only [Array.getElem?_modify,if_pos q]; simp only at h1; rw [h1]; rfl,by rw [hf,h2]⟩
  ·exact ⟨o,by simp only [Array.getElem?_modify,if_neg q]; exact h1,h2⟩
theorem Dc.push {e:Addr} {D:Option Addr} {h:Heap} (x:Dc e D h) (o:Obj):Dc e D (h.push o):=by
 obtain ⟨o',h1,h2⟩:=x
 cases h with
 | mk objs l=>
  unfold Heap.push
  have lt:e < objs.size:=(Array.getElem?_eq_some_iff.mp h1).1
  exact ⟨o',by simp only [Array.getElem?_push,if_neg (Nat.ne_of_lt lt)]; exact h1,h2⟩
theorem Dc.of {e:Addr} {D:Option Addr} {h:Heap} {o:Obj} (h1:h.get? e = some o) (h2:o.dict = D):Dc e D h:=⟨o,(Heap.get?_some_iff.mp h1).1,h2⟩
theorem Dc.at {e:Addr} {D:Option Addr} {h:Heap} {o:Obj} (x:Dc e D h) (h1:h.get? e = some o):o.dict = D:=by
 obtain ⟨o',h2,h3⟩:=x
 have h4:=(Heap.get?_some_iff.mp h1).1
 rw [h2] at h4
 cases h4
 exact h3
theorem ze {α : Type} {M:Model} {Γ : Ctx} {e:Addr} {D:Option Addr}:∀ {t:Sem α} {Q : α→Pos→Shared→Prop} {E:Value→Pos→Shared→Prop} {p:Pos} {s:Shared},Kp t→Dc e D s.heap→Sem.wp M Γ t Q E p s→
  Sem.wp M Γ t (fun a p s'=>Q a p s'∧Dc e D s'.heap) (fun v p s'=>E v p s'∧Dc e D s'.heap) p s:=by
 intro t
 induction t with
 | pure a=>intro Q E p s _ d h; exact ⟨h,d⟩
 | raise v=>intro Q E p s _ d h; exact ⟨h,d⟩
 | unsupported _=>intro Q E p s _ d h; exact h
 | finish _=>intro Q E p s _ d h; exact h
 | rule _ k ih=>intro Q E p s kk d h; exact ih () kk d h
 | «at» _ k ih=>intro Q E p s kk d h; exact ih () kk d h
 | load a _ k ih=>intro Q E p s kk d h; obtain ⟨o,ho,h⟩:=h; exact ⟨o,ho,ih o (kk o) d h⟩
 | update a _ f k ih=>intro Q E p s kk d h; exact ⟨h.1,ih () kk.2 (d.upd kk.1) h.2⟩
 | alloc o k ih=>intro Q E p s kk d h; exact ih _ (kk _) (d.push o) h
 | loadIfAlive a k ih=>intro Q E p s kk d h; exact ih _ (kk _) d h
 | point _ k ih=>intro Q E p s kk d h; exact ih () kk d h
 | register _ _ _=>intro Q E p s _ d h; exact h
 | fresh k ih=>intro Q E p s kk d h; exact ih _ (kk _) d h
 | ask k ih=>intro Q E p s kk d h; exact ih _ (kk _) d h
 | choose _ _ k ih=>intro Q E p s kk d h; exact ⟨h.1,ih _ (kk _) d h.2⟩
 | os _ _ k ih=>intro Q E p s kk d h; exact ih _ (kk _) d h
 | call=>intro Q E p s kk d h; exact kk.elim
 | handled _ k ih=>intro Q E p s kk d h; exact ih _ (kk _) d h
 | newGen _ k ih=>intro Q E p s kk d h; exact ih _ (kk _) d h
 | genState _ k ih=>intro Q E p s kk d h; obtain ⟨st,hs,h⟩:=h; exact ⟨st,hs,ih _ (kk _) d h⟩
 | resume=>intro Q E p s kk d h; exact kk.elim
 | yield=>intro Q E p s _ d h; exact h
 | stack k ih=>intro Q E p s kk d h; exact ih _ (kk _) d h
 | fork=>intro Q E p s _ d h; exact h
 | thread k ih=>intro Q E p s kk d h; exact ih _ (kk _) d h
 | await=>intro Q E p s _ d h; exact h
theorem fq {α : Type} {M:Model} {A:Around} {e:Addr} {D:Option Addr} {t:Sem α} {Q : α→Shared→Prop} {E:Value→Shared→Prop} {s:Shared} (k:Kp t) (d:Dc e D s.heap) (h:wpAny M A t Q E s) :
  wpAny M A t (fun a s'=>Q a s'∧Dc e D s'.heap) (fun v s'=>E v s'∧Dc e D s'.heap) s:=fun Γ p hΓ=>ze k d (h Γ p hΓ)
theorem Kp.bind {α β : Type} {f : α→Sem β} (hf:∀ a,Kp (f a)):∀ {m:Sem α},Kp m→Kp (m >>= f):=by
 intro m
 show Kp m→Kp (Sem.bind m f)
 induction m with
 | pure a=>intro _; exact hf a
 | raise v=>intro _; trivial
 | unsupported _=>intro _; trivial
 | finish _=>intro _; trivial
 | rule _ k ih=>intro kk; exact ih () kk
 | «at» _ k ih=>intro kk; exact ih () kk
 | load a _ k ih=>intro kk o; exact ih o (kk o)
 | update a _ f k ih=>intro kk; exact ⟨kk.1,ih () kk.2⟩
 | alloc o k ih=>intro kk a; exact ih a (kk a)
 | loadIfAlive a k ih=>intro kk o; exact ih o (kk o)
 | point _ k ih=>intro kk; exact ih () kk
 | register _ _ _=>intro _; trivial
 | fresh k ih=>intro kk x; exact ih x (kk x)
 | ask k ih=>intro kk x; exact ih x (kk x)
 | choose _ _ k ih=>intro kk x; exact ih x (kk x)
 | os _ _ k ih=>intro kk x; exact ih x (kk x)
 | call=>intro kk; exact kk.elim
 | handled _ k ih=>intro kk x; exact ih x (kk x)
 | newGen _ k ih=>intro kk x; exact ih x (kk x)
 | genState _ k ih=>intro kk x; exact ih x (kk x)
 | resume=>intro kk; exact kk.elim
 | yield=>intro _; trivial
 | stack k ih=>intro kk x; exact ih x (kk x)
 | fork=>intro _; trivial
 | thread k ih=>intro kk x; exact ih x (kk x)
 | await=>intro _; trivial
theorem ky (a:Addr):Kp (load a):=fun _=>trivial
theorem lP (v:Value):Kp (fieldsOf v):=by
 unfold fieldsOf
 split
 ·refine Kp.bind (fun o=>?_) (ky _)
  split
  ·trivial
  ·trivial
 ·trivial
theorem fT (v:Value) (i:Nat):Kp (field v i):=by
 unfold field
 refine Kp.bind (fun o=>?_) (lP v)
 split
 ·trivial
 ·trivial
theorem eB (v:Value) (i:Nat) (x:Value):Kp (setField v i x):=by
 unfold setField
 split
 ·unfold updateField
  refine Kp.bind (fun o=>?_) (ky _)
  split
  ·split
   ·exact ⟨fun o=>by cases o with | mk c d dt sl=>cases dt <;> rfl,trivial⟩
   ·trivial
  ·trivial
 ·trivial
theorem cM (v:Value) (f:Option Addr):Kp (setFlight v f):=by
 unfold setFlight
 refine Kp.bind (fun o=>?_) (fT v 1)
 split
 ·exact eB ..
 ·trivial
theorem ku (ty:String) (vs:List Value):Kp (newFields ty vs):=by
 unfold newFields newObj
 dsimp only
 have h:Kp (newObjAsIs (.type ty) (.fields vs.toArray)):=by
  unfold newObjAsIs
  exact fun a=>trivial
 split
 ·exact trivial
 ·exact h
theorem sk:Kp stack:=fun _=>trivial
theorem ux:Kp frameEnvs:=fun _=>trivial
theorem sq (f:Addr) (b:Bool):Kp (entryPlaceOf f b):=by
 unfold entryPlaceOf
 refine Kp.bind (fun o=>?_) sk
 dsimp only
 split
 ·trivial
 ·trivial
theorem pD (env:Env) (outer:List Env):Kp (behindIsImport env outer):=by
 unfold behindIsImport
 split
 ·trivial
 ·split
  ·trivial
  ·refine Kp.bind (fun x=>?_) (fT _ _)
   trivial
theorem uy (env:Env) (b:Bool) (l:List Env):Kp (keptBack env b l):=by
 unfold keptBack
 split
 ·split
  ·trivial
  ·exact fun _=>trivial
 ·trivial
theorem lO:∀ l:List Env,Kp (readyFrames l)
 | []=>trivial
 | env :: outer=>by
  unfold readyFrames
  split
  ·refine Kp.bind (fun o=>?_) (ky _)
   split
   ·trivial
   ·refine Kp.bind (fun i=>Kp.bind (fun b=>Kp.bind (fun _=>lO outer) ?_) (uy ..)) (pD ..)
    exact ⟨fun o=>rfl,trivial⟩
  ·trivial
theorem nv (env:Env):Kp (frameOf env):=by
 unfold frameOf
 refine Kp.bind (fun l=>Kp.bind (fun o=>?_) ?_) ux
 ·split
  ·trivial
  ·trivial
 ·unfold frameObject
  split
  ·trivial
  ·refine Kp.bind (fun x=>?_) (lO _)
   trivial
theorem oz (v:Value) (env:Env):Kp (noteFrame v env):=by
 unfold noteFrame
 split
 ·refine Kp.bind (fun o=>?_) (fT v 1)
  have fin:∀ f,Kp (do setField v 1 (← EntryCells.newEntry o (← frameOf env) .none (rawInt f) .none (← entryPlaceOf f (o != .none)))):=fun f=>by
   refine Kp.bind (fun x=>?_) (nv env)
   refine Kp.bind (m:=entryPlaceOf f (o != .none)) (fun y=>?_) (sq _ _)
   unfold EntryCells.newEntry
   refine Kp.bind (fun z=>?_) (ku _ _)
   exact eB ..
  split
  ·refine Kp.bind (fun h=>?_) (fT _ _)
   split
   ·trivial
   ·exact Kp.bind (fun _=>fin _) (eB ..)
  ·exact fin _
 ·trivial
theorem fo (env:Env) (v:Value):Kp (leaving env v):=by
 unfold leaving
 exact Kp.bind (fun _=>cM ..) (oz ..)
end Kd
end
section
namespace L2
open PySem PySem.Spec PySem.W PySem.Calls PyProof.Rows
theorem bu.there {P:Program} {w:World} {H:Hp} {h:Heap} {a:Addr} {o:HO} (x:bu P w H h a o):∃ ob,h.get? a = some ob:=by
 induction o with
 | lst xs=>obtain ⟨_,_,_,_,e⟩:=x; exact ⟨_,e⟩
 | tup xs=>obtain ⟨_,_,_,ob,e,_⟩:=x; exact ⟨ob,e⟩
 | dK aV=>obtain ⟨_,_,_,_,o,_,_,e,_⟩:=x; exact ⟨o,e⟩
 | dT aV=>obtain ⟨_,_,_,_,o,_,_,e,_⟩:=x; exact ⟨o,e⟩
 | set S n=>obtain ⟨ob,_,_,_,e,_⟩:=x; exact ⟨ob,e⟩
 | ins C dx fs=>obtain ⟨_,_,_,e,_⟩:=x; exact ⟨_,e⟩
 | own y=>exact x
 | xd fs=>obtain ⟨_,⟨od,_,_,e,_⟩,_⟩:=x; exact ⟨od,e⟩
 | AD lo hi=>obtain ⟨_,_,_,e⟩:=x; exact ⟨_,e⟩
 | iK ob u ih=>obtain ⟨e,_⟩:=x; exact ⟨ob,e⟩
 | vk ps=>exact ⟨_,x⟩
 | met f y=>exact ⟨_,x⟩
 | ext φ=>obtain ⟨_,e,_⟩:=x; exact e
def i6 (B:Heap) (fr:List Addr) (h:Heap):Prop:=∀ b o,h.get? b = some o→b∉fr→∃ o',B.get? b = some o'
section
variable {X:Cx} {pins:List (Addr×Obj)} {σ : St} {H:Hp} {s:Shared} {B h':Heap}
theorem Inv.iM {t':Nat} (I:Inv X pins σ H s) (hex:X.ex = []) (b1:B.StaysIn s.heap) (b2:B.StaysIn h') (c0:i6 B (dy X.stack) X.s₀.heap) (ct:∀ b o,H b = some o→∃ ob,B.get? b = some ob)
  (cp:∀ p∈X.pn ++ pins,∃ ob,B.get? p.1 = some ob) (up:s.heap.UpToSlots h'):Inv X pins σ H { s with heap:=h',toks:=t' }:=by
 have AR:∀ {b o ob},s.heap.get? b = some o→B.get? b = some ob→h'.get? b = some o:=fun {b o ob} e q=>by
  have:=b1 b ob q
  rw [e] at this; cases this
  exact b2 b _ q
 have nL:∀ b o,X.s₀.heap.get? b = some o→b∉X.fs→b∉dy X.stack:=fun b o e hb z=>by
  rcases List.mem_cons.mp (I.d7 b z) with q | q
  ·exact absurd (Nat.lt_of_lt_of_le (Heap.lt_size e) I.ok.above) (by rw [q]; exact Nat.lt_irrefl _)
  ·exact hb q
 have Fq:∀ b:Addr,b∉X.ex:=fun b z=>by rw [hex] at z; cases z
 have fr:∀ b∈X.fs,∃ o,s.heap.get? b = some o∧∀ vs,o.data≠.fields vs:=fun b hb=>(I.fW.mem hb).2
 have cellK:∀ {c v},s.heap.IsCell c v→h'.IsCell c v:=fun {c v} ⟨o,ho,hd⟩=>by
  obtain ⟨sl,e⟩:=up c o ho fun vs z=>by rw [hd] at z; cases z
  exact ⟨_,e,hd⟩
 refine ⟨I.ok,I.os,I.bare,⟨fun b o e n hb _=>?_,fun b o e n hb _=>?_,I.base.free,fun b o e _=>?_,I.base.gF,I.base.gs,I.base.gH⟩,?_,fun x c e=>?_,I.free,I.cK,fun p hp=>?_,fun b u e=>?_,I.len⟩
 ·obtain ⟨ob,q⟩:=c0 b o e (nL b o e hb)
  exact AR (I.base.keep b o e n hb (Fq b)) q
 ·obtain ⟨sl,q⟩:=I.base.slot b o e n hb (Fq b)
  obtain ⟨o2,q2,nf⟩:=fr b hb
  obtain ⟨vz,q3⟩:=up b o2 q2 nf
  rw [q] at q2; cases q2
  exact ⟨vz,q3⟩
 ·by_cases hb:b∈X.fs
  ·obtain ⟨o2,q2,nf⟩:=fr b hb
   obtain ⟨vz,q3⟩:=up b o2 q2 nf
   exact ⟨_,q3⟩
  ·obtain ⟨ob,q⟩:=c0 b o e (nL b o e hb)
   exact ⟨ob,b2 b ob q⟩
 ·obtain ⟨m,hn,hl⟩:=I.loc
  refine ⟨m,up.ns hn,fun i x v e1 e2 e3=>?_⟩
  obtain ⟨u,r,l⟩:=hl i x v e1 e2 e3
  refine ⟨u,r,?_⟩
  rcases l with l | ⟨k,c,e,z⟩
  ·exact .inl l
  ·exact .inr ⟨k,c,e,cellK z⟩
 ·obtain ⟨v,z⟩:=I.cell x c e
  exact ⟨v,cellK z⟩
 ·obtain ⟨e,n,ne,nf,d⟩:=I.pin p hp
  obtain ⟨ob,q⟩:=cp p hp
  exact ⟨AR e q,n,ne,nf,d⟩
 ·refine (I.bb b u e).d8 (fun c v hc q=>?_) (fun _ q=>q) fun _ _ q=>q
  rcases hc with z | z
  ·subst z
   obtain ⟨ob,q2⟩:=ct c u e
   exact AR q q2
  ·obtain ⟨ob,q2⟩:=ct c _ z
   exact AR q q2
end
structure qr (P:Program) (w:World) (outer:List Env) (H:Hp) (s:Shared) (a:Addr) (cls:Value) (D:Option Addr) (H':Hp) (s':Shared):Prop where
 os:s'.os = s.os
 bare:AllBare s'.gens
 un:Un (dy outer) [] H H' s.heap s'.heap
 bb:fz P w H' s'.heap
 kH:∃ B a0,Heap.FlyingW B outer a cls a0 s'.heap∧i6 B (dy outer) s.heap∧∀ b o,H' b = some o→∃ ob,B.get? b = some ob
 new:H' a = none
 fresh:s.heap.get? a = none
 DM:Kd.Dc a D s'.heap
def bP (P:Program) (w:World):js:=fun outer H s E e s'=>∃ a cls D H',e = .ref a∧qr P w outer H s a cls D H' s'∧E cls D H'
section
variable {M:Model} {A:Around} {E:Value→Shared→Prop} {s:Shared} {base h:Heap} {env:Env} {outer:List Env} {L e:Addr} {cls a0:Value} {D:Option Addr} {Q:Unit→Shared→Prop}
theorem nr (kX:A.frames = some (env :: outer)) (hf:env.frame = some L) (zC:Heap.FlyingW base (env :: outer) e cls a0 s.heap) (dc:Kd.Dc e D s.heap)
  (hQ:∀ h',Heap.FlyingW base outer e cls a0 h'→s.heap.UpToSlots h'→Kd.Dc e D h'→Q () { s with heap:=h' }):wpAny M A (leaving env (.ref e)) Q E s:=
 wpAny_mono (Kd.fq (Kd.fo _ _) dc (wpAny_leaves_onW (Q:=fun _ s'=>∃ h',s' = { s with heap:=h' }∧Heap.FlyingW base outer e cls a0 h'∧s.heap.UpToSlots h') kX hf zC fun h' f u=>⟨h',rfl,f,u⟩))
  (fun _ s' ⟨⟨h',q,f,u⟩,d⟩=>by subst q; exact hQ h' f u d) fun _ _ z=>z.1
theorem jG (kX:A.frames = some (env :: outer)) (hf:env.frame = some L) (zC:Heap.FlyingW base (env :: outer) e cls a0 s.heap) (dc:Kd.Dc e D s.heap)
  (hQ:∀ h',Heap.HeldW base (env :: outer) e cls a0 L h'→s.heap.UpToSlots h'→Kd.Dc e D h'→Q () { s with heap:=h' }):wpAny M A (noteFrame (.ref e) env) Q E s:=
 wpAny_mono (Kd.fq (Kd.oz _ _) dc (wpAny_looks_onW (Q:=fun _ s'=>∃ h',s' = { s with heap:=h' }∧Heap.HeldW base (env :: outer) e cls a0 L h'∧s.heap.UpToSlots h') kX hf zC fun h' f u=>⟨h',rfl,f,u⟩))
  (fun _ s' ⟨⟨h',q,f,u⟩,d⟩=>by subst q; exact hQ h' f u d) fun _ _ z=>z.1
theorem xf {l:List Env} (hh:Heap.HeldW base l e cls a0 L s.heap) (dc:Kd.Dc e D s.heap)
  (hQ:∀ h',Heap.FlyingW base l e cls a0 h'→s.heap.UpToSlots h'→Kd.Dc e D h'→Q () { s with heap:=h' }):wpAny M A (setFlight (.ref e) none) Q E s:=
 wpAny_mono (Kd.fq (Kd.cM _ _) dc (wpAny_landsW (Q:=fun _ s'=>∃ h',s' = { s with heap:=h' }∧Heap.FlyingW base l e cls a0 h'∧s.heap.UpToSlots h') hh fun h' f u=>⟨h',rfl,f,u⟩))
  (fun _ s' ⟨⟨h',q,f,u⟩,d⟩=>by subst q; exact hQ h' f u d) fun _ _ z=>z.1
theorem xU {l:List Env} (hh:Heap.FlyingW base l e cls a0 s.heap) (dc:Kd.Dc e D s.heap)
  (hQ:∀ h',Heap.FlyingW base l e cls a0 h'→s.heap.UpToSlots h'→Kd.Dc e D h'→Q () { s with heap:=h' }):wpAny M A (setFlight (.ref e) none) Q E s:=
 wpAny_mono (Kd.fq (Kd.cM _ _) dc (lands_againW (Q:=fun _ s'=>∃ h',s' = { s with heap:=h' }∧Heap.FlyingW base l e cls a0 h'∧s.heap.UpToSlots h') hh fun h' f u=>⟨h',rfl,f,u⟩))
  (fun _ s' ⟨⟨h',q,f,u⟩,d⟩=>by subst q; exact hQ h' f u d) fun _ _ z=>z.1
theorem jj {oe:Obj} {vs:Array Value} (kX:A.frames = some (env :: outer)) (hl:s.heap.FunFrames base (env :: outer)) (hf:env.frame = some L) (he:s.heap.get? e = some oe) (AY:base.StaysIn s.heap) (AZ:base.get? e = none)
  (hd:oe.data = .fields vs) (h1:vs[1]? = some .none) (h0:vs[0]? = some a0) (hQ:∀ h',Heap.FlyingW base outer e oe.cls a0 h'→s.heap.UpToSlots h'→Kd.Dc e oe.dict h'→Q () { s with heap:=h' }):wpAny M A (leaving env (.ref e)) Q E s:=
 wpAny_mono (Kd.fq (Kd.fo _ _) (Kd.Dc.of he rfl) (wpAny_leaving_firstW (Q:=fun _ s'=>∃ h',s' = { s with heap:=h' }∧Heap.LeftW base (env :: outer) e oe.cls a0 s.heap h') kX hl hf he AY AZ hd h1 h0 fun h' l=>⟨h',rfl,l⟩))
  (fun _ s' ⟨⟨h',q,k1,⟨_,_,k2⟩,k3,k4⟩,d⟩=>by subst q; exact hQ h' ⟨k1,AZ,k2,k3⟩ k4 d) fun _ _ z=>z.1
end
section
variable {X:Cx} {pins:List (Addr×Obj)} {σ : St} {H:Hp} {s:Shared}
structure Body (X:Cx):Prop where
 ex:X.ex = []
 pn:X.pn = []
 j6:X.stack = X.env :: X.outer
 fr:X.env.frame = some X.env.locals
theorem kP {CX:js} {P:Program} {w:World} {K:Frag} {mg:Str→Option Value} {base:Heap} {N:List Str} {qual:Str} {scope:Scope} {f:Addr} {cd:Value} {A:Around} {outer:List Env} {s:Shared} {H:Hp} {E:XK} :
  Body (eI CX P w K mg base N qual scope f cd A outer s H E):=⟨rfl,rfl,rfl,rfl⟩
theorem Inv.nC (I:Inv X pins σ H s) (hex:X.ex = []) {a:Addr} (e:s.heap.get? a = none):X.s₀.heap.get? a = none:=by
 cases q:X.s₀.heap.get? a with
 | none=>rfl
 | some o=>
  obtain ⟨o',z⟩:=I.base.there a o q (by rw [hex]; simp)
  rw [e] at z; cases z
theorem qr.inv {a:Addr} {cls:Value} {D:Option Addr} {H':Hp} {s':Shared} (I:Inv X pins σ H s) (F:qr X.prog X.w X.stack H s a cls D H' s'):Inv X pins σ H' s':=
 I.oM (ch:=[]) F.os F.un F.bb F.bare fun b z=>by cases z
theorem nu {E:XK} {E':Value→Shared→Prop} {a:Addr} {cls:Value} {D:Option Addr} {H':Hp} {s':Shared} (I:Inv X pins σ H s) (hb:Body X) (F:qr X.prog X.w X.stack H s a cls D H' s') (q:E cls D H') :
  wpAny (model X.prog X.w) X.A (leaving X.env (.ref a)) (fun _ o6=>bP X.prog X.w X.outer X.H₀ X.s₀ E (.ref a) o6) E' s':=by
 obtain ⟨B,a0,kH,vT,ct⟩:=F.kH
 have kX:X.A.frames = some (X.env :: X.outer):=by rw [← hb.j6]; exact I.ok.frames
 have I':=F.inv I
 have sN:=kH
 rw [hb.j6] at sN
 refine nr kX hb.fr sN F.DM fun h2 zN up dc=>?_
 have c0:i6 B (dy X.stack) X.s₀.heap:=fun b o e n=>by
  obtain ⟨o',z⟩:=I.base.there b o e (by rw [hb.ex]; simp)
  exact vT b o' z n
 have J:Inv X [] σ H' { s' with heap:=h2,toks:=s'.toks }:=Inv.iM (I'.fJ fun p hp=>by cases hp) hb.ex kH.1 zN.1 c0 ct (fun p hp=>by rw [hb.pn] at hp; cases hp) up
 refine ⟨a,cls,D,H',rfl,⟨J.os,J.bare,?_,J.bb,⟨_,_,zN,?_,ct⟩,F.new,I.nC hb.ex F.fresh,dc⟩,q⟩
 ·have:=J.base
  rw [hb.ex] at this
  exact this
 ·intro b o e' n
  refine c0 b o e' fun m=>?_
  rw [hb.j6] at m
  unfold dy at m
  rw [List.filterMap_cons,hb.fr] at m
  rcases List.mem_cons.mp m with z | z
  ·exact absurd (Nat.lt_of_lt_of_le (Heap.lt_size e') I.ok.above) (by rw [z]; exact Nat.lt_irrefl _)
  ·exact n z
end
theorem yY {P:Program} {w:World} {K:Frag} {mg:Str→Option Value} {base:Heap} {N:List Str} {qual:Str} {scope:Scope} {f:Addr} {cd:Value} {A:Around} {outer:List Env} {s:Shared} {H:Hp} {E:XK} :
  Passes (bP P w) (eI (bP P w) P w K mg base N qual scope f cd A outer s H E) E:=by
 rintro pins σ H1 s1 e s' I ⟨a,cls,D,H',rfl,F,q⟩
 exact nu I kP F q
theorem bq {P:Program} {w:World} {X:Cx}:Passes (bP P w) X E0:=by
 rintro pins σ H1 s1 e s' I ⟨a,cls,D,H',rfl,F,q⟩
 exact q.elim
end L2
end
section
namespace L2
open PySem PySem.Spec PySem.W PySem.Calls PyProof.Rows
theorem uO {K:Frag} {h:Heap} {C:Addr} {jm:List Value} {newId:String} (X:K.In h) (q:excIn K C jm newId = true) :
  ∃ bm N nm qn bs hdct sn sub ab col dd k0 k1 k2 k3 k5 mN,h.get? C = some (excClassObj nm qn C N bs bm hdct sn sub ab col dd k0 k1 k2 k3 k5 newId)∧h.Ns N mN∧mN "__init__" = none∧OwnTail h jm bm:=by
 unfold excIn at q
 split at q
 ·rename_i dd cd sl ho
  split at q
  ·rename_i C' bm k0 k1 k2 k3 n k5 hm hs
   simp only [Bool.and_eq_true,beq_iff_eq,Bool.not_eq_true'] at q
   obtain ⟨⟨⟨⟨⟨q1,q2⟩,zG⟩,ht⟩,bb⟩,AW⟩:=q
   subst q1 q2
   obtain ⟨nm,bs,mro,ns,qn,hd,sn,sub,ab,col,del⟩:=cd
   dsimp only at hm zG bb AW
   subst hm zG
   obtain ⟨l⟩:=sl
   have hl:l = [k0,k1,k2,k3,some (.builtin n),k5]:=hs
   subst hl
   exact ⟨bm,ns,nm,qn,bs,hd,sn,sub,ab,col,dd,k0,k1,k2,k3,k5,_,X _ _ ho,.of_isNs (isNs_of_in X bb),nsMap_none_of_in X bb AW,tail_of_in X ht⟩
  ·cases q
 ·cases q
def Bq (Ex:XK) (C:Addr) (ta:TA):TS:=fun _ σ H=>ta σ H fun vs H1=>vs.length≤sizeLine∧Ex (.ref C) none H1
section
variable {X:Cx} {pins:List (Addr×Obj)} {σ : St} {H:Hp} {s:Shared}
theorem Inv.vj {a:Addr} {o:HO} (I:Inv X pins σ H s) (hn:H a = none) (new:bu X.prog X.w (upd H a o) s.heap a o) (fr:X.s₀.heap.get? a = none) (nL:a≠X.env.locals) (nc:∀ x c,X.env.cells.lookup x = some c→c≠a) (np:∀ p∈X.pn ++ pins,p.1≠a) :
  Inv X pins σ (upd H a o) s:=by
 refine ⟨I.ok,I.os,I.bare,⟨I.base.keep,I.base.slot,fun b u e n hx=>?_,I.base.there,fun b xs e=>?_,fun b u v e=>?_,fun b ps e=>?_⟩,I.loc,I.cell,?_,fun x c e=>?_,fun p hp=>?_,fun b u e=>?_,I.len⟩
 ·have hb:b≠a:=fun z=>by rw [z,fr] at e; cases e
  rw [aq hb]; exact I.base.free b u e n hx
 ·have z:=I.base.gF b xs e
  rw [aq (aB z hn)]; exact z
 ·have z:=I.base.gs b u v e
  rw [aq (aB z hn)]; exact z
 ·obtain ⟨m,z⟩:=I.base.gH b ps e
  exact ⟨m,by rw [aq (aB z hn)]; exact z⟩
 ·rw [aq (Ne.symm nL)]; exact I.free
 ·rw [aq (nc x c e)]; exact I.cK x c e
 ·obtain ⟨e,n,r⟩:=I.pin p hp
  exact ⟨e,by rw [aq (np p hp)]; exact n,r⟩
 ·by_cases hb:b = a
  ·subst hb; rw [ak] at e; cases e; exact new
  ·rw [aq hb] at e
   exact (I.bb b u e).d8 (fun c v _ q=>q) (fun c q=>by rw [aq (aB q hn)]; exact q) fun c xs q=>by rw [aq (aB q hn)]; exact q
theorem g7 {M:Model} {A:Around} {E:Value→Shared→Prop} {i:Nat} {x:Str} {pos:Pos} {Q:Unit→Shared→Prop} (I:Inv X pins σ H s) (hN:X.N.Nodup) (hi:X.N[i]? = some x) (hk:X.env.scope.names.lookup x = some .local)
  (h:∀ s',Inv X pins (σ.set i none) H s'→Q () s'):wpAny M A (do bindName X.env x .none; unbindBehindTheSuite X.env x pos) Q E s:=by
 obtain ⟨m,hn,hl⟩:=id I.loc
 have xB:(X.env.scope.kind == .class || (X.env.scope.kind == .module && X.env.locals != X.env.globals)) = false:=by rw [I.ok.kind]; rfl
 have hiσ : i < σ.length:=by rw [I.len]; exact (List.getElem?_eq_some_iff.mp hi).1
 refine wpAny_nameGoes_keeps hk hn xB fun h' v x9 hs=>h _ ?_
 obtain ⟨oL,_,_,FF,_⟩:=id hn
 have lt:∀ b o,X.s₀.heap.get? b = some o→b≠X.env.locals:=fun b o e=>Nat.ne_of_lt (Nat.lt_of_lt_of_le (Heap.lt_size e) I.ok.above)
 refine ⟨I.ok,I.os,I.bare,⟨fun b o e n hb hx=>(hs.2 b (lt b o e)).trans (I.base.keep b o e n hb hx),fun b o e n hb hx=>?_,I.base.free,fun b o e hx=>?_,I.base.gF,I.base.gs,I.base.gH⟩,⟨_,x9,fun j y v' e1 e2 e3=>?_⟩,fun y c e=>?_,I.free,I.cK,fun p hp=>?_,fun b u e=>?_,by simpa using I.len⟩
 ·obtain ⟨sl,e1⟩:=I.base.slot b o e n hb hx
  exact ⟨sl,(hs.2 b (lt b o e)).trans e1⟩
 ·obtain ⟨o',e1⟩:=I.base.there b o e hx
  exact ⟨o',(hs.2 b (lt b o e)).trans e1⟩
 ·by_cases hj:j = i
  ·subst hj
   rw [List.getElem?_set_self hiσ] at e2
   cases e2
  ·rw [List.getElem?_set_ne (Ne.symm hj)] at e2
   obtain ⟨u',r',q⟩:=hl j y v' e1 e2 e3
   refine ⟨u',r',?_⟩
   rcases q with ⟨k,e⟩ | ⟨k,c,e,z⟩
   ·refine .inl ⟨k,?_⟩
    have:y≠x:=fun e=>hj (iE hN e1 (e▸hi))
    simp [this,e]
   ·exact .inr ⟨k,c,e,z.sameBut hs (I.u3 y c e)⟩
 ·obtain ⟨w',z⟩:=I.cell y c e
  exact ⟨w',z.sameBut hs (I.u3 y c e)⟩
 ·obtain ⟨e,n,ne,nf,d⟩:=I.pin p hp
  exact ⟨(hs.2 p.1 ne).trans e,n,ne,nf,d⟩
 ·refine (I.bb b u e).d8 (fun c w' hc q=>(hs.2 c ?_).trans q) (fun _ q=>q) fun _ _ q=>q
  rintro rfl
  rcases hc with rfl | hc
  ·rw [I.free] at e; cases e
  ·rw [I.free] at hc; cases hc
def Cx.marked (X:Cx) (a:Addr):Cx:={ X with A:=X.A.mark (some (.ref a)),calm:=false,xe:=fun _ _=>False }
theorem Inv.mark {a:Addr} (I:Inv X pins σ H s):Inv (X.marked a) pins σ H s:=
 ⟨⟨I.ok.mod,I.ok.kind,I.ok.glob,I.ok.blt,I.ok.above,I.ok.inj,I.ok.has,I.ok.ye,(fun z=>absurd (show false = true from z) Bool.false_ne_true),I.ok.frames,I.ok.j6,I.ok.DI,I.ok.bs,I.ok.u9,I.ok.pA,I.ok.sP,I.ok.fW,I.ok.vS⟩,I.os,I.bare,I.base,I.loc,I.cell,I.free,I.cK,I.pin,I.bb,I.len⟩
theorem Inv.unmark {a:Addr} (J:X.Ok) (I:Inv (X.marked a) pins σ H s):Inv X pins σ H s:=⟨J,I.os,I.bare,I.base,I.loc,I.cell,I.free,I.cK,I.pin,I.bb,I.len⟩
end
def EX (X:Cx) (pins:List (Addr×Obj)) (σ : St) (Ex:XK) (e:Value) (s':Shared):Prop:=
 ∃ a cls D H' s0 H0,e = .ref a∧Inv X pins σ H0 s0∧qr X.prog X.w X.stack H0 s0 a cls D H' s'∧Ex cls D H'
section
variable {X:Cx} {k j:Nat} {ps:List Str} {sp:Sp} {x:Str} {p pos:Pos} {e:Expr} {es:List Expr} {t:TA}
theorem Ag (h:cP X.prog X.w X.K X.mg X.base (bP X.prog X.w) x k ps sp) (hr:cu j X.A) (ha:PA X.r9 (e :: es) t) (hk:k≤j:=by decide) (hg:Gl X x:=by rfl) (kC:(x == ("__debug__" : Str)) = false:=by decide)
  (he:starEach (e :: es) X.env = (false,eval e X.env) :: starEach es X.env:=by rfl) (i7:(backTo pos (starEach es X.env)).any (·.1) = false:=by rfl)
  {pins:List (Addr×Obj)} {s:Shared} {σ : St} {H:Hp} {Q:VK} {Ex:XK} (I:Inv X pins σ H s) (hw:t σ H fun vs H1=>sp (vs ++ []) H1 Q Ex) :
  wpAny (model X.prog X.w) X.A (eval (.Call (.Name x p) (e :: es) [] pos) X.env) (EP X pins σ Q) (EX X pins σ Ex) s:=by
 obtain ⟨f,fd,F,hm,Dl,hb⟩:=h.ex
 refine wpAny_Call_Name_kw (dI I hg hm ?_ kC)
 refine PySem.W.callWith_K (h₀:=X.base) I.ok.mod.xi Dl (wpAny_mono (ha pos pins s σ H _ (I.gh _) hw) (fun us s1 ⟨vs,H1,I1,r,q⟩=>⟨I1.ft,?_⟩) fun _ _ z=>False.elim z) he i7
 have I1:=I1.dv
 dsimp only at q
 rw [List.append_nil] at q
 have hl:us.length = ps.length:=by rw [← r.length]; exact F.len _ _ _ _ q
 have tX:=hb s1 us I1.ft (by rw [List.append_nil]; exact hl)
 rw [List.append_nil] at tX
 refine wpAny_call (codeAny_mono (F.run X.A X.stack s1 H1 ⟨us,[]⟩ us vs Q Ex (hr.mono hk) I1.xM tX r q) fun rr s' hq=>?_)
 cases rr with
 | error ev=>
  obtain ⟨a,cls,D,H',rfl,fl,qe⟩:=hq
  exact ⟨a,cls,D,H',s1,H1,rfl,I1,fl,qe⟩
 | ok fl=>
  cases fl with
  | ret u=>exact I1.after hq
  | next=>exact False.elim hq
  | brk=>exact False.elim hq
  | cont=>exact False.elim hq
end
def DD (K:Frag) (M:Addr) (jn:Nat) (ts:TS) (D:Ends) (σ : St):XK:=fun cls dx H'=>∃ C,cls = .ref C∧exmOne K (.ref C) (.ref M) = some true∧
 ∀ a,H' a = none→ts { nx:=fun σ' H2=>D.nx (σ'.set jn none) H2,rt:=D.rt,bk:=fun σ' H2=>D.bk (σ'.set jn none) H2,ct:=fun σ' H2=>D.ct (σ'.set jn none) H2 } (σ.set jn (some (.ref a))) (upd H' a (uP C dx a))
theorem tE {X:Cx} {x n:Str} {M:Addr} {jn:Nat} {b₀ : Stmt} {kZ:List Stmt} {ts:TS} {np pos:Pos} (hb:Body X) (hm:X.mg x = some (.ref M)) (hN:X.N.Nodup) (hj:X.N[jn]? = some n) (hl:X.env.scope.names.lookup n = some .local)
  (hs:∀ a,my (X.marked a) (b₀ :: kZ) ts) (hg:Gl X x:=by rfl) (kC:(x == ("__debug__" : Str)) = false:=by decide)
  {pins:List (Addr×Obj)} {σ : St} {D:Ends} {e:Value} {s':Shared} (h:EX X pins σ (DD X.K M jn ts D σ) e s') :
  wpAny (model X.prog X.w) X.A (noteFrame e X.env) (fun _ s2=>wpAny (model X.prog X.w) X.A (setFlight e none) (fun _ s3=>
   wpAny (model X.prog X.w) X.A (handleBy e X.env [.ExceptHandler (some (.Name x np)) (some n) (b₀ :: kZ) pos]) (SP X pins D) X.xe s3) X.xe s2) X.xe s':=by
 obtain ⟨a,cls,dx,H',s0,H0,rfl,I0,F,C,rfl,hx,q⟩:=h
 obtain ⟨B,a0,kH,vT,ct⟩:=F.kH
 have I':=F.inv I0
 have kX:X.A.frames = some (X.env :: X.outer):=by rw [← hb.j6]; exact I0.ok.frames
 have c0:i6 B (dy X.stack) X.s₀.heap:=fun b o e n=>by
  obtain ⟨o',z⟩:=I0.base.there b o e (by rw [hb.ex]; simp)
  exact vT b o' z n
 have Ic:∀ p∈X.pn ++ pins,p.1≠a:=fun p hp z=>by
  have:=(I0.pin p hp).1
  rw [z,F.fresh] at this; cases this
 have cp:∀ p∈X.pn ++ pins,∃ ob,B.get? p.1 = some ob:=fun p hp=>by
  obtain ⟨e,nn,ne,nf,d⟩:=I0.pin p hp
  refine vT _ _ e fun z=>?_
  rcases List.mem_cons.mp (I0.d7 _ z) with r | r
  ·exact ne r
  ·exact nf r
 rw [hb.j6] at kH
 refine jG kX hb.fr kH F.DM fun h4 zE Au zS=>?_
 refine xf (s:={ s' with heap:=h4 }) zE zS fun h5 pT As zR=>?_
 have J5:Inv X pins σ H' { s' with heap:=h5,toks:=s'.toks }:=Inv.iM I' hb.ex kH.1 pT.1 c0 ct cp (Au.trans As)
 obtain ⟨ob,zw,Di⟩:=pT.there
 have ty:Looks (model X.prog X.w) h5 (typeOf (.ref a)) (.ref C):=Di▸(Looks.ld zw).andThen .now
 refine wpAny_handleBy_cons (codeAny_handlers_test (dI (X:=X.marked a) J5.mark hg hm ?_ kC)) (by intro z; cases z)
 refine (exm_one J5.ft ty hx).at ?_
 refine codeAny_handlers_suite_as ?_
 refine xU (s:={ s' with heap:=h5 }) pT zR fun h6 zM GA DN=>?_
 have J6:Inv X pins σ H' { s' with heap:=h6,toks:=s'.toks }:=Inv.iM I' hb.ex kH.1 zM.1 c0 ct cp ((Au.trans As).trans GA)
 obtain ⟨oe,ws,zv,zu,uG,IS⟩:=zM.first
 have ex:ExcAt C a h6:=⟨oe,zv,zu,by unfold notCls; rw [uG]⟩
 have nL:a≠X.env.locals:=fun z=>by
  obtain ⟨m,⟨o,es,ep,ho,hd,_⟩,_⟩:=J6.loc
  have pO:h6.get? X.env.locals = some o:=ho
  rw [← z,zv] at pO; cases pO
  rw [uG] at hd; cases hd
 have nc:∀ y c,X.env.cells.lookup y = some c→c≠a:=fun y c e z=>by
  obtain ⟨v,o,ho,hd⟩:=J6.cell y c e
  have pO:h6.get? c = some o:=ho
  rw [z,zv] at pO; cases pO
  rw [uG] at hd; cases hd
 have Jz:∀ {H2:Hp},bu X.prog X.w H2 h6 a (uP C dx a):=by
  intro H2
  unfold uP
  split
  ·exact uQ ex
  ·exact uT ⟨oe,zv,zu,by unfold notCls; rw [uG],DN.at zv⟩
 have J7:Inv X pins σ (upd H' a (uP C dx a)) { s' with heap:=h6,toks:=s'.toks }:=Inv.vj J6 F.new Jz (I0.nC hb.ex F.fresh) nL nc Ic
 refine h7 (X:=X.marked a) (v:=.ref a) J7.mark hN hj (.inl hl) rfl (fun s8 J8=>?_) (.inr hl)
 refine wpAny_mono (hs a pins s8 _ _ _ J8 (q a F.new)) (fun f s9 z=>?_) fun _ _ z=>False.elim z
 cases f with
 | next=>
  obtain ⟨σ',H2,J9,r⟩:=z
  exact g7 (J9.unmark J7.ok) hN hj hl fun wA tR=>⟨_,H2,tR,r⟩
 | brk=>
  obtain ⟨σ',H2,J9,r⟩:=z
  exact g7 (J9.unmark J7.ok) hN hj hl fun wA tR=>⟨_,H2,tR,r⟩
 | cont=>
  obtain ⟨σ',H2,J9,r⟩:=z
  exact g7 (J9.unmark J7.ok) hN hj hl fun wA tR=>⟨_,H2,tR,r⟩
 | ret u=>
  obtain ⟨v,σ',H2,J9,rv,r⟩:=z
  exact g7 (J9.unmark J7.ok) hN hj hl fun wA tR=>⟨v,_,H2,tR,rv,r⟩
def qB (K:Frag) (sp:Sp) (ta:TA) (M:Addr) (jn:Nat) (ts:TS):TS:=fun D σ H=>ta σ H fun vs H1=>sp (vs ++ []) H1 (fun _ H2=>D.nx σ H2) (DD K M jn ts D σ)
theorem rL {X:Cx} {k j:Nat} {ps:List Str} {sp:Sp} {f x n:Str} {p1 p2 p3:Pos} {e:Expr} {es:List Expr} {ta:TA} {M:Addr} {jn:Nat} {b₀ : Stmt} {kZ:List Stmt} {ts:TS} {np lR pos:Pos}
  (h:cP X.prog X.w X.K X.mg X.base (bP X.prog X.w) f k ps sp) (hr:cu j X.A) (ha:PA X.r9 (e :: es) ta) (hb:Body X) (hm:X.mg x = some (.ref M)) (hN:X.N.Nodup) (hj:X.N[jn]? = some n) (hl:X.env.scope.names.lookup n = some .local)
  (hs:∀ a,my (X.marked a) (b₀ :: kZ) ts) (hk:k≤j:=by decide) (Jc:Gl X f:=by rfl) (xA:(f == ("__debug__" : Str)) = false:=by decide)
  (he:starEach (e :: es) X.env = (false,eval e X.env) :: starEach es X.env:=by rfl) (i7:(backTo p2 (starEach es X.env)).any (·.1) = false:=by rfl)
  (hg:Gl X x:=by rfl) (kC:(x == ("__debug__" : Str)) = false:=by decide) (zk:swapsWith (.Call (.Name f p1) (e :: es) [] p2) none p3.line X.env = pure false:=by rfl) :
  PS X (.Try [.Expr (.Call (.Name f p1) (e :: es) [] p2) p3] [.ExceptHandler (some (.Name x np)) (some n) (b₀ :: kZ) lR] [] [] pos) (qB X.K sp ta M jn ts):=by
 intro pins s σ H D I hw
 refine wpAny_Try_except ?_
 refine wpAny_execs_cons (wpAny_Expr_any (wpAny_mono (Ag h hr ha hk Jc xA he i7 I hw) (fun v s1 z=>?_) fun ev s1 z=>?_) I.quiet zk)
 ·obtain ⟨y,H1,I1,r1,q1⟩:=z
  exact wpAny_execs_nil (wpAny_execs_nil ⟨σ,H1,I1,q1⟩)
 ·exact tE hb hm hN hj hl hs hg kC z
end L2
end
section
namespace L2
open PySem PySem.Spec PySem.W PySem.Calls PyProof.Rows
section
variable {P:Program} {w:World} {K:PySem.W.Frag} {mg:Str→Option Value} {base:Heap}
theorem Def.fe {x:Str} {st:Stmt} {N ps:List Str} {k:Nat} {sp:Sp} (D:Def K mg x st ps) (S:aG N ps (ah st)) (len:∀ vs H Q E,sp vs H Q E→vs.length = ps.length)
  (fV:∀ (f:Addr) (ck:Value) (A:Around) (outer:List Env) (s:Shared) (H:Hp) (vs:List V) (Q:VK) (E:XK),cu k (A.deeper (envOfC x (ah st) s.heap.objs.size f ck))→sp vs H Q E→
   ∃ t,my (eI (bP P w) P w K mg base N x (ah st) f ck A outer s H E).r9 (aD st) t∧t { nx:=fun _ H'=>Q .bS H',rt:=Q } (start N vs) H):cP P w K mg base (bP P w) x (k + 1) ps sp:=by
 obtain ⟨f,fd,F,hm,hb⟩:=D.ex
 have kp:=F.kp
 obtain ⟨oc,od,kV,doc,pm,an,ck,ct,oq,rfl,lk,lT⟩:=F.ex
 refine ⟨⟨f,_,oC lk lT S len fun A outer s H vs Q E hr jJ=>?_,hm,kp,hb⟩⟩
 obtain ⟨t,h,q⟩:=fV f ck A outer s H vs Q E hr jJ
 exact ⟨t,h.r9,q⟩
theorem Def.xD {x:Str} {st:Stmt} {N ps:List Str} {k:Nat} {sp:Sp} (D:Def K mg x st ps) (S:aG N ps (ah st)) (len:∀ vs H Q E,sp vs H Q E→vs.length = ps.length)
  (fV:∀ (f:Addr) (ck:Value) (A:Around) (outer:List Env) (s:Shared) (H:Hp) (vs:List V) (Q:VK) (E:XK),cu k (A.deeper (envOfC x (ah st) s.heap.objs.size f ck))→sp vs H Q E→
   ∃ t,my (eI (bP P w) P w K mg base N x (ah st) f ck A outer s H E) (aD st) t∧t { nx:=fun _ H'=>Q .bS H',rt:=Q } (start N vs) H):cP P w K mg base (bP P w) x (k + 1) ps sp:=by
 obtain ⟨f,fd,F,hm,hb⟩:=D.ex
 have kp:=F.kp
 obtain ⟨oc,od,kV,doc,pm,an,ck,ct,oq,rfl,lk,lT⟩:=F.ex
 exact ⟨⟨f,_,oC lk lT S len fun A outer s H vs Q E hr jJ=>fV f ck A outer s H vs Q E hr jJ,hm,kp,hb⟩⟩
theorem tV.okN {x:Str} {st:Stmt} {f:Addr} {fd:FuncData} {N ps:List Str} {k:Nat} {sp:Sp} (F:tV K x x st f fd) (S:aG N ps (ah st)) (len:∀ vs H Q E,sp vs H Q E→vs.length = ps.length)
  (fV:∀ (ck:Value) (A:Around) (outer:List Env) (s:Shared) (H:Hp) (vs:List V) (Q:VK) (E:XK),cu k (A.deeper (envOfC x (ah st) s.heap.objs.size f ck))→sp vs H Q E→
   ∃ t,my (eI (bP P w) P w K mg base N x (ah st) f ck A outer s H E).r9 (aD st) t∧t { nx:=fun _ H'=>Q .bS H',rt:=Q } (start N vs) H):fA P w K mg base (bP P w) (k + 1) f fd ps sp:=by
 obtain ⟨oc,od,kV,doc,pm,an,ck,ct,oq,rfl,lk,lT⟩:=F.ex
 refine oC lk lT S len fun A outer s H vs Q E hr jJ=>?_
 obtain ⟨t,h,q⟩:=fV ck A outer s H vs Q E hr jJ
 exact ⟨t,h.r9,q⟩
end
theorem pY {P:Program} {w:World} {o:List Env} {H:Hp} {s:Shared} {e:Value} {s':Shared} (h:bP P w o H s (fun _ _ _=>False) e s'):False:=by
 obtain ⟨_,_,_,_,_,_,z⟩:=h
 exact z
theorem tM {CX:js} {P:Program} {w:World} {K:Frag} {mg:Str→Option Value} {base:Heap} {N:List Str} {qual:Str} {scope:Scope} {f:Addr} {cd:Value} {A:Around} {outer:List Env} {s:Shared} {H:Hp} {E:XK} :
  Body (eI CX P w K mg base N qual scope f cd A outer s H E).r9:=⟨rfl,rfl,rfl,rfl⟩
inductive vd (K:Frag) (H:Hp):V→Value→Prop where
 | bS:vd K H .bS (.type "NoneType")
 | exc {a C:Addr} (e:H a = some (uS C a)) (c:dq K C):vd K H (.ref a) (.ref C)
 | dM {a C:Addr} {D:Option Addr} (e:H a = some (dM C D a)) (c:dq K C):vd K H (.ref a) (.ref C)
theorem vd.Fw {X:Cx} {pins:List (Addr×Obj)} {σ : St} {H:Hp} {s:Shared} {x:V} {t u:Value} (y:vd X.K H x t) (I:Inv X pins σ H s) (r:RelV x u):∃ Hh,KitX X.K u t Hh∧Hh s.heap∧u≠.builtin "__main__.__loader__#opaque":=by
 cases y with
 | bS=>cases (show u = Value.none from r); exact ⟨_,kitx_none,trivial,fun z=>nomatch z⟩
 | exc e c=>cases (show u = Value.ref _ from r); exact ⟨_,lQ c,uR I.bb e,fun z=>nomatch z⟩
 | dM e c=>cases (show u = Value.ref _ from r); exact ⟨_,lQ c,(oF I.bb e).at,fun z=>nomatch z⟩
def rG (K:Frag):List V→Hp→VK→Prop:=fun xs H Q=>∃ x c t u b,xs = [x,c]∧vd K H x t∧kU c u∧kitOne K t u = some b∧Q (.bl b) H
theorem cD {X:Cx}:dB X (.builtin "isinstance") (rG X.K):=by
 intro pins s σ H xs us Q I r h
 obtain ⟨x,c,t,u,b,rfl,ty,rc,e,q⟩:=h
 obtain ⟨u1,u2,rfl,r1,r2⟩:=vals2 r
 have e2:u2 = u:=by
  cases rc <;> (cases r2; rfl)
 subst e2
 obtain ⟨Hh,Z,p,ne⟩:=ty.Fw I r1
 exact kia_one Z I.ft p e ne fun tk=>⟨.bl b,H,I.tok _,rfl,q⟩
def rH (K:Frag):List V→Hp→VK→Prop:=fun xs H Q=>∃ x tp cs t us b,xs = [x,.ref tp]∧vd K H x t∧H tp = some (.tup cs)∧Paired kU cs us∧kitAny K t us = some b∧Q (.bl b) H
theorem mh:∀ {cs:List V} {us ws:List Value},Paired kU cs us→Vals cs ws→ws = us
 | _,_,_,.nil,.nil=>rfl
 | _,_,_,.cons r t,.cons q z=>by
  have e:=mh t z
  subst e
  cases r <;> (cases q; rfl)
theorem iQ {X:Cx}:dB X (.builtin "isinstance") (rH X.K):=by
 intro pins s σ H xs us Q I r h
 obtain ⟨x,tp,cs,t,ws,b,rfl,ty,zj,pc,e,q⟩:=h
 obtain ⟨u1,u2,rfl,r1,r2⟩:=vals2 r
 cases (show u2 = Value.ref tp from r2)
 obtain ⟨Hh,Z,p,ne⟩:=ty.Fw I r1
 obtain ⟨_,aQ,rv,ob,zw,hc,n,hd⟩:=(show bu X.prog X.w H s.heap tp (.tup cs) from I.bb tp _ zj)
 have ei:=mh pc rv
 subst ei
 obtain ⟨oc,od,Fm,oq⟩:=ob
 dsimp only at hc hd
 subst hc hd
 exact kia_tup Z I.ft p zw e ne fun tk=>⟨.bl b,H,I.tok _,rfl,q⟩
section
variable {H:Hp} {Q:VK} {K:Frag}
theorem eP {x c:V} {t u:Value} {b:Bool} (ty:vd K H x t) (hc:kU c u) (e:kitOne K t u = some b) (q:Q (.bl b) H):rG K [x,c] H Q:=⟨x,c,t,u,b,rfl,ty,hc,e,q⟩
theorem n4 {x:V} {tp:Addr} {cs:List V} {t:Value} {us:List Value} {b:Bool} (ty:vd K H x t) (h:H tp = some (.tup cs)) (hc:Paired kU cs us) (e:kitAny K t us = some b) (q:Q (.bl b) H):rH K [x,.ref tp] H Q:=⟨x,tp,cs,t,us,b,rfl,ty,h,hc,e,q⟩
theorem kg {sp:Sp} {ta:TA} {M:Addr} {jn:Nat} {ts:TS} {D:Ends} {σ : St} (h:ta σ H fun vs H1=>sp (vs ++ []) H1 (fun _ H2=>D.nx σ H2) (DD K M jn ts D σ)):qB K sp ta M jn ts D σ H:=h
end
end L2
end
section
namespace L2
open PySem PySem.Spec PySem.W PySem.Calls PyProof.Rows
def He (K:Frag):R2:=fun x y H Q=>∃ p q a b c d,x = .ref p∧y = .ref q∧SqT K H p [.int a,.int b]∧SqT K H q [.int c,.int d]∧Q (.bl (!decide (a = c∧b = d))) H
theorem rz {σ : St} {H:Hp} {Q:VK} {ta:TE} (h:ta σ H fun x H1=>Q (.bl (decide (x = .bS))) H1):yB ta σ H Q:=h
theorem mY {σ : St} {H:Hp} {Q:VK} {ta:TE} (h:ta σ H fun x H1=>Q (.bl (!decide (x = .bS))) H1):vp ta σ H Q:=h
end L2
end
section
namespace L2
open PySem PySem.Spec PySem.W PySem.Calls PyProof.Rows
def AllIn (cells:List (Str×Addr)):List (Str×Addr)→Prop
 | []=>True
 | p :: r=>cells.lookup p.1 = some p.2∧AllIn cells r
theorem AllIn.get {cells:List (Str×Addr)}:∀ {cl:List (Str×Addr)},AllIn cells cl→∀ {x c},cl.lookup x = some c→cells.lookup x = some c
 | [],_,x,c,e=>by cases e
 | (n,d) :: r,h,x,c,e=>by
  rw [List.lookup_cons] at e
  cases q:x == n with
  | true=>
   rw [q] at e; cases e
   have z:x = n:=by simpa using q
   subst z
   exact h.1
  | false=>rw [q] at e; exact AllIn.get h.2 e
def qp (X:Cx) (ifs:List Expr) (t:TT):Prop:=
 ∀ (pins:List (Addr×Obj)) (s:Shared) (σ : St) (H:Hp) (Q:Bool→Hp→Prop),Inv X pins σ H s→t σ H Q→
  wpAny (model X.prog X.w) X.A (forIn ifs true fun c r=>if r = true then do let ok ← isTrue c X.env (eval c X.env); pure (ForInStep.yield ok) else pure (ForInStep.yield r)) (TP X pins σ Q) X.xe s
def vm:TT:=fun _ H Q=>Q true H
theorem cW {X:Cx}:qp X [] vm:=fun _ _ _ H _ I h=>wpAny_tests_nil ⟨H,I,h⟩
section
variable {prog:Program} {w:World} {A:Around} {R:Result→Shared→Prop} {s:Shared}
theorem p0 {elt target iter:Expr} {ifs:List Expr} {scope:Scope} {pos:Pos} {it acc:Value} {env:Env} (I:Nat→Shared→Prop)
  (turn:∀ n s,I n s→wpAny (model prog w) A (pyNext it) (fun r s₁=>match r with
   | none=>R (.ok .next) s₁
   | some v=>wpAny (model prog w) A (letOwnedTupleGo target it v) (fun _ s1=>wpAny (model prog w) A (assign target env v) (fun _ s₂=>
     wpAny (model prog w) A (forIn ifs true fun c r=>if r = true then do let ok ← isTrue c env (eval c env); pure (ForInStep.yield ok) else pure (ForInStep.yield r)) (fun ok s₃=>
      if ok = true then wpAny (model prog w) A (eval elt env) (fun x s₄=>wpAny (model prog w) A (call (.builtin "list.append") [acc,x]) (fun _ s₅=>∃ m,m < n∧I m s₅) (fun _ _=>False) s₄) (fun _ _=>False) s₃
      else ∃ m,m < n∧I m s₃) (fun _ _=>False) s₂) (fun _ _=>False) s1) (fun _ _=>False) s₁) (fun _ _=>False) s)
  (n:Nat) (h:I n s):codeAny (model prog w) A (.compLoop (.ListComp elt [⟨target,iter,ifs,0⟩] scope pos) 0 it acc env) R s:=by
 refine codeAny_loop rfl I (fun n s hI=>?_) n h
 show wpAny _ A ((compTurn (.ListComp elt [⟨target,iter,ifs,0⟩] scope pos) 0 it acc env).onRaise (fun x=>do noteFrame x env; theTreesLotGoes x)) _ _ s
 refine wpAny_noted ?_
 rw [compTurn_list]
 refine wpAny_bind (wpAny_standAt (wpAny_bind (wpAny_mono (turn n s hI) (fun r s₁ h₁=>?_) fun _ _ z=>False.elim z)))
 cases r with
 | none=>exact wpAny_pure h₁
 | some v=>
  refine wpAny_bind (wpAny_mono h₁ (fun _ s1 h1=>wpAny_bind (wpAny_mono h1 (fun _ s₂ h₂=>wpAny_bind (wpAny_mono h₂ (fun ok s₃ h₃=>?_) fun _ _ z=>False.elim z)) fun _ _ z=>False.elim z)) fun _ _ z=>False.elim z)
  cases ok with
  | false=>exact wpAny_pure ⟨rfl,h₃⟩
  | true=>
   exact wpAny_bind (wpAny_bind (wpAny_mono h₃ (fun x s₄ h₄=>wpAny_bind (wpAny_mono h₄ (fun _ s₅ h₅=>wpAny_pure (wpAny_pure ⟨rfl,h₅⟩)) fun _ _ z=>False.elim z)) fun _ _ z=>False.elim z))
end
def Cx.block (X:Cx) (scope:Scope) (cl:List (Str×Addr)) (C:Addr) (N:List Str) (fp:List Addr) (pins:List (Addr×Obj)) (s:Shared) (H:Hp):Cx:=
 { X with N:=N,s₀:=s,H₀:=H,env:=compEnvC scope cl C X.env,outer:=X.stack,ex:=fp,fn:=fun _=>false,pn:=X.pn ++ pins,xe:=fun _ _=>False }
def eX (n:Nat) (fr:List Nat) (σ : St):St:=List.replicate n none ++ fr.map fun i=>(σ[i]?).join
structure fc (X:Cx) (scope:Scope) (cl:List (Str×Addr)) (tg:List Str) (fr:List (Str×Nat)):Prop where
 kind:scope.kind = .function
 sd:∀ y∈scope.names,y.2≠.cell
 names:∀ y∈scope.names,y.2 = .local→scope.names.lookup y.1 = some .local
 xO:closureFor scope X.env = pure cl
 tO:AllIn X.env.cells cl
 has:((relabel scope X.env).names.all fun p=>!(p.2 == .cell || p.2 == .free) || (cl.lookup p.1).isSome) = true
 Ju:∀ p∈fr,X.N[p.2]? = some p.1∧Be X.env.scope p.1∧(cl.lookup p.1).isSome = true∧(relabel scope X.env).names.lookup p.1 = some .cell
 Jv:∀ p∈fr,X.env.kindOf p.1 = some .cell
section
variable {X:Cx} {pins:List (Addr×Obj)} {σ : St} {H:Hp} {s:Shared} {scope:Scope} {cl:List (Str×Addr)} {tg:List Str} {fr:List (Str×Nat)}
theorem lookup_mem {κ α : Type} [BEq κ] [LawfulBEq κ]:∀ {l:List (κ×α)} {x : κ} {v : α},l.lookup x = some v→(x,v)∈l
 | [],_,_,e=>by cases e
 | (k,u) :: r,x,v,e=>by
  rw [List.lookup_cons] at e
  cases q:x == k with
  | true=>
   rw [q] at e; cases e
   have z:x = k:=by simpa using q
   subst z
   exact List.mem_cons_self
  | false=>rw [q] at e; exact List.mem_cons_of_mem _ (lookup_mem e)
theorem gE {C:Addr} {fp:List Addr} {h':Heap} {t':Nat} {m:Str→Option Value} (B:fc X scope cl tg fr) (I:Inv X pins σ H s) (hf:∀ b∈fp,gR X pins H b∧b < s.heap.objs.size) (hC:s.heap.objs.size≤C) (hn:h'.Ns C m) (k:∀ b o,s.heap.get? b = some o→h'.get? b = some o)
  {H2:Hp} (hu:Un (dy X.stack) fp H H2 s.heap h') (bb:fz X.prog X.w H2 h') (iI:H2 C = none) :
  Inv (X.block scope cl C (tg ++ fr.map (·.1)) fp pins s H) [] (eX tg.length (fr.map (·.2)) σ) H2 { s with heap:=h',toks:=t' }:=by
 have cells:∀ {x c},cl.lookup x = some c→X.env.cells.lookup x = some c:=fun e=>B.tO.get e
 have cC:∀ x c,X.env.cells.lookup x = some c→c≠C:=fun x c e z=>by
  obtain ⟨v,o,ho,_⟩:=I.cell x c e
  exact absurd (Nat.lt_of_lt_of_le (Heap.lt_size ho) hC) (by rw [z]; exact Nat.lt_irrefl _)
 have cellK:∀ {c v},s.heap.IsCell c v→h'.IsCell c v:=fun {c v} ⟨o,e,d⟩=>⟨o,k c o e,d⟩
 have vV:∀ x c,X.env.cells.lookup x = some c→c∉fp∧H2 c = none:=fun x c e=>by
  have nf:c∉fp:=fun z=>(hf c z).1.2.2.2.2.1 x c e rfl
  obtain ⟨v,o,ho,_⟩:=I.cell x c e
  exact ⟨nf,hu.free c o ho (I.cK x c e) nf⟩
 have Cn:∀ p∈X.pn ++ pins,p.1∉fp∧H2 p.1 = none:=fun p hp=>by
  have nf:p.1∉fp:=fun z=>(hf p.1 z).1.2.2.2.2.2 p hp rfl
  obtain ⟨e,n,_⟩:=I.pin p hp
  exact ⟨nf,hu.free p.1 _ e n nf⟩
 have yH:∀ b∈dy X.stack,b < s.heap.objs.size:=fun b hb=>by
  obtain ⟨_,o,ho,_⟩:=I.stack.mem hb
  exact Heap.lt_size ho
 refine ⟨⟨I.ok.mod,B.kind,I.ok.glob,I.ok.blt,hC,fun x y c h1 h2=>I.ok.inj x y c (cells h1) (cells h2),fun x hx=>?_,fun x c z=>absurd (show false = true from z) Bool.false_ne_true,I.ok.hd,I.ok.frames,.inl rfl,fun b hb=>?_,fun b o e=>⟨?_,?_⟩,?_,fun b o e z=>?_,fun b hb z=>?_,I.stack,I.j5⟩,
  rfl,I.bare,hu,⟨m,hn,fun i x v h1 h2 h3=>?_⟩,fun x c e=>?_,iI,fun x c e=>(vV x c (cells e)).2,fun p hp=>?_,bb,?_⟩
 ·have e:(relabel scope X.env).names.lookup x = some .cell∨(relabel scope X.env).names.lookup x = some .free:=hx
  have mem:∃ kk,(x,kk)∈(relabel scope X.env).names∧(kk == NameKind.cell || kk == NameKind.free) = true:=by
   rcases e with e | e
   ·exact ⟨_,lookup_mem e,rfl⟩
   ·exact ⟨_,lookup_mem e,rfl⟩
  obtain ⟨kk,mm,hk⟩:=mem
  have z:=List.all_eq_true.mp B.has _ mm
  simp only [hk,Bool.not_true,Bool.false_or] at z
  exact Option.isSome_iff_exists.mp z
 ·exact ⟨fun z=>absurd (Nat.lt_of_lt_of_le (hf b hb).2 hC) (by rw [z]; exact Nat.lt_irrefl _),fun x c e z=>(vV x c (cells e)).1 (z▸hb)⟩
 ·exact (I.bs b o e).1
 ·exact (I.bs b o e).2
 ·exact Nat.le_trans I.ok.u9 I.sz
 ·rcases (hf b z).1.2.2.2.1 with q | q
  ·exact I.ok.pA b o e q
  ·exact absurd (Nat.lt_of_lt_of_le (Heap.lt_size (I.ok.bs b o e).1) q) (Nat.lt_irrefl _)
 ·have z':b∈dy X.stack:=z
  rcases List.mem_cons.mp (I.d7 b z') with q | q
  ·exact (hf b hb).1.2.1 q
  ·exact (hf b hb).1.2.2.1 q
 ·have hi:tg.length≤i:=by
   refine Nat.le_of_not_lt fun z=>?_
   unfold eX at h2
   rw [List.getElem?_append_left (by simpa using z),List.getElem?_replicate,if_pos z] at h2
   cases h2
  have zJ:(fr.map (·.1))[i - tg.length]? = some x:=by
   have z:(tg ++ fr.map (·.1))[i]? = some x:=h1
   rw [List.getElem?_append_right hi] at z
   exact z
  have DE:((fr.map (·.2)).map fun i=>(σ[i]?).join)[i - tg.length]? = some (some v):=by
   unfold eX at h2
   rw [List.getElem?_append_right (by simpa using hi)] at h2
   simpa using h2
  rw [List.getElem?_map] at zJ
  rw [List.getElem?_map,List.getElem?_map] at DE
  cases q:fr[i - tg.length]? with
  | none=>rw [q] at zJ; cases zJ
  | some p=>
   rw [q] at zJ DE
   have ex:p.1 = x:=Option.some.inj zJ
   have ev:(σ[p.2]?).join = some v:=Option.some.inj DE
   subst ex
   obtain ⟨f1,f2,f3,f4⟩:=B.Ju p (List.mem_of_getElem? q)
   have eσ : σ[p.2]? = some (some v):=by
    cases z : σ[p.2]? with
    | none=>rw [z] at ev; cases ev
    | some w'=>rw [z] at ev; exact congrArg some ev
   obtain ⟨m0,zx,I9⟩:=I.loc
   obtain ⟨u,r,l⟩:=I9 p.2 p.1 v f1 eσ f2
   refine ⟨u,r,?_⟩
   obtain ⟨c,hc⟩:=Option.isSome_iff_exists.mp f3
   have hk:=B.Jv p (List.mem_of_getElem? q)
   rcases l with ⟨kl,_⟩ | ⟨_,c',A1,z⟩
   ·rw [hk] at kl; cases kl
   ·have e':=cells hc
    rw [A1] at e'
    cases e'
    exact .inr ⟨.inl f4,c,hc,cellK z⟩
 ·obtain ⟨v,z⟩:=I.cell x c (cells e)
  exact ⟨v,cellK z⟩
 ·rw [List.append_nil] at hp
  obtain ⟨e,n,ne,nf,d⟩:=I.pin p hp
  refine ⟨k _ _ e,(Cn p hp).2,fun z=>absurd (Nat.lt_of_lt_of_le (Heap.lt_size e) hC) (by rw [z]; exact Nat.lt_irrefl _),fun z=>?_,d⟩
  rcases List.mem_cons.mp (I.d7 _ z) with q | q
  ·exact ne q
  ·exact nf q
 ·unfold eX
  show _ = (tg ++ fr.map (·.1)).length
  simp
end
end L2
end
section
namespace L2
open PySem PySem.Spec PySem.W PySem.Calls PyProof.Rows
def jv (wi:TI) (g:TG) (tt:TT) (te:TE) (n:Nat) (fr:List Nat):TE:=fun σ H Q=>wi σ H fun J H1=>∀ acc,H1 acc = none→∃ W:Nat→Nat→St→List V→Hp→Prop,(∃ m,W 0 m (eX n fr σ) [] (upd H1 acc (.lst [])))∧
 ∀ i m σ' ys H2,W i m σ' ys H2→((J.stop i H2∧Q (.ref acc) H2)∨(J.go i H2∧∀ x H3,J.oR i H2 x H3→g x σ' H3 fun σ2 H4=>tt σ2 H4 fun b H5=>
  if b = true then te σ2 H5 fun y H6=>H6 acc = some (.lst ys)∧ys.length < sizeLine∧∃ m',m' < m∧W (i + 1) m' σ2 (ys ++ [y]) (upd H6 acc (.lst (ys ++ [y]))) else ∃ m',m' < m∧W (i + 1) m' σ2 ys H5))
section
variable {X:Cx} {scope:Scope} {cl:List (Str×Addr)} {tg:List Str} {fr:List (Str×Nat)} {elt target iter:Expr} {ifs:List Expr} {wi:TI} {g:TG} {tt:TT} {te:TE} {pos:Pos}
theorem jL (B:fc X scope cl tg fr) (hc:X.calm = true) (hi:PI X target iter wi)
  (hg:∀ C fp pins s H,PG (X.block scope cl C (tg ++ fr.map (·.1)) fp pins s H) target g) (ht:∀ C fp pins s H,qp (X.block scope cl C (tg ++ fr.map (·.1)) fp pins s H) ifs tt) (he:∀ C fp pins s H,PE (X.block scope cl C (tg ++ fr.map (·.1)) fp pins s H) elt te)
  {pins:List (Addr×Obj)} {σ : St} {H:Hp} {s:Shared} {Q:VK} (I:Inv X pins σ H s) (hw:jv wi g tt te tg.length (fr.map (·.2)) σ H Q) {RR:Value→Addr→Result→Shared→Prop}
  (Dz:∀ D C s1 H5 m,Inv X pins σ H5 s1→s1.heap.Ns C m→H5 C = none→C≠X.env.locals→X.s₀.heap.objs.size≤C→(∀ x c,X.env.cells.lookup x = some c→c≠C)→(∀ p∈X.pn ++ pins,p.1≠C)→Q (.ref D) H5→RR (.ref D) C (.ok .next) s1) :
  wpAny (model X.prog X.w) X.A (eval iter X.env) (fun xv s1=>wpAny (model X.prog X.w) X.A (pyIter xv) (fun it s2=>wpAny (model X.prog X.w) X.A (newList []) (fun acc s3=>
   wpAny (model X.prog X.w) X.A (newFunctionEnv scope X.env.globals cl [] X.env.qual none .none (some X.env)) (fun gv s4=>
    codeAny (model X.prog X.w) X.A (.compStart (.ListComp elt [⟨target,iter,ifs,0⟩] scope pos) 0 it acc { gv with scope:=relabel scope X.env }) (RR acc gv.locals) s4) X.xe s3) X.xe s2) X.xe s1) X.xe s:=by
 refine wpAny_mono (hi pins s σ H _ I hw) (fun xv s1 h1=>wpAny_mono h1 (fun AO s2 h2=>?_) fun _ _ z=>z) fun _ _ z=>z
 obtain ⟨it,fp,tn,J,H1,rfl,I2,T,wm,f2,C9⟩:=h2
 have mD:∀ b∈fp,b < s2.heap.objs.size:=fun b hb=>by
  obtain ⟨o,e,_⟩:=T.obj _ _ wm b hb
  exact Heap.lt_size e
 refine wpAny_newObj_type (wpAny_newFunctionEnv B.sd (by intro y hy; simp at hy) (fun h3 tW uD=>?_) B.kind)
 dsimp only at tW uD ⊢
 generalize hP:s2.heap.push { cls:=.type "list",dict:=none,data:=.seq ([]:List Value).toArray } = hp at tW uD ⊢
 have hC:hp.objs.size = s2.heap.objs.size + 1:=by rw [← hP,Heap.size_push]
 have cx:s2.heap.objs.size < hp.objs.size:=by rw [hC]; exact Nat.lt_succ_self _
 have k3:∀ b o,s2.heap.get? b = some o→h3.get? b = some o:=fun b o e=>by
  have l:=Heap.lt_size e
  refine uD.extBut b o (Nat.ne_of_lt (Nat.lt_trans l cx)) (Heap.get?_push_of_some _ (hP▸Heap.get?_push_of_some _ e))
 have hD:H1 s2.heap.objs.size = none:=I2.bb.fresh (Nat.le_refl _)
 have cB:h3.get? s2.heap.objs.size = some { cls:=.type "list",dict:=none,data:=.seq ([]:List Value).toArray }:=uD.extBut _ _ (Nat.ne_of_lt cx) (Heap.get?_push_of_some _ (hP▸Heap.get?_push_size _ rfl))
 obtain ⟨W,⟨m0,w0⟩,turn⟩:=C9 _ hD
 have Bj:Un (dy X.stack) fp H1 (upd H1 s2.heap.objs.size (.lst [])) s2.heap h3:=Un.laid k3 (Nat.le_refl _) hD
 have Cp:fz X.prog X.w (upd H1 s2.heap.objs.size (.lst [])) h3:=I2.bb.laid k3 (Nat.le_refl _) ⟨Nat.zero_le _,[],0,.nil,cB⟩
 have fC:upd H1 s2.heap.objs.size (.lst []) hp.objs.size = none:=by rw [aq (Nat.ne_of_gt cx)]; exact I2.bb.fresh (Nat.le_of_lt cx)
 have za:=I2.lt
 have nL:hp.objs.size≠X.env.locals:=Nat.ne_of_gt (Nat.lt_trans za cx)
 have BS:X.s₀.heap.objs.size≤hp.objs.size:=Nat.le_trans I2.sz (Nat.le_of_lt cx)
 have cC:∀ x c,X.env.cells.lookup x = some c→c≠hp.objs.size:=fun x c e z=>by
  obtain ⟨v,o,ho,_⟩:=I2.cell x c e
  exact absurd (Nat.lt_trans (Heap.lt_size ho) cx) (by rw [z]; exact Nat.lt_irrefl _)
 have pC:∀ p∈X.pn ++ pins,p.1≠hp.objs.size:=fun p xw z=>by
  exact absurd (Nat.lt_trans (Heap.lt_size (I2.pin p xw).1) cx) (by rw [z]; exact Nat.lt_irrefl _)
 have J0:=gE (t':=s2.toks + ([]:List (Str×Value)).length) B I2 (fun b hb=>⟨f2 b hb,mD b hb⟩) (Nat.le_of_lt cx) tW k3 Bj Cp fC
 have xH:∀ {H':Hp} {pl:List (Addr×Obj)},(∀ b∈fp,H' b = none)→(∀ p∈pl,p.1∉fp)→∀ b∈fp,gR (X.block scope cl hp.objs.size (tg ++ fr.map (·.1)) fp pins s2 H1) pl H' b:=fun hn i7 b hb=>by
  obtain ⟨g0,g1,g2,g3,g4,g5⟩:=f2 b hb
  refine ⟨hn b hb,fun z=>?_,fun z=>?_,.inl hb,fun x c e=>g4 x c (B.tO.get e),fun p xw z=>?_⟩
  ·have z':b = hp.objs.size:=z
   exact absurd (Nat.lt_trans (mD b hb) cx) (by rw [z']; exact Nat.lt_irrefl _)
  ·rcases List.mem_cons.mp (I2.d7 b z) with q | q
   ·exact g1 q
   ·exact g2 q
  ·rcases List.mem_append.mp xw with q | q
   ·exact g5 p q z
   ·exact i7 p q (z▸hb)
 have loop:∀ s3:Shared,s3 = { s2 with heap:=h3,toks:=s2.toks + ([]:List (Str×Value)).length }→
   codeAny (model X.prog X.w) X.A (.compLoop (.ListComp elt [⟨target,iter,ifs,0⟩] scope pos) 0 (.ref it) (.ref s2.heap.objs.size) (compEnvC scope cl hp.objs.size X.env)) (RR (.ref s2.heap.objs.size) hp.objs.size) s3:=by
  rintro s3 rfl
  refine p0 (fun n s'=>∃ i σ' ys H5,Inv (X.block scope cl hp.objs.size (tg ++ fr.map (·.1)) fp pins s2 H1) [] σ' H5 s'∧tn i s'.heap∧(∀ b∈fp,H5 b = none)∧W i n σ' ys H5) ?_ m0
   ⟨0,_,[],_,J0,T.keep _ _ _ wm fun b hb o e=>k3 b o e,fun b hb=>?_,w0⟩
  ·rintro n s' ⟨i,σ',ys,H5,J5,t5,f5,w5⟩
   rcases turn i n σ' ys H5 w5 with ⟨stop,q⟩ | ⟨go,step⟩
   ·refine wpAny_mono (T.done (X.block scope cl hp.objs.size (tg ++ fr.map (·.1)) fp pins s2 H1) rfl rfl rfl hc i [] s' σ' H5 (fun _ _=>False) J5 (xH f5 (by simp)) t5 stop) (fun r s6 ⟨hr,J6⟩=>?_) fun _ _ z=>z
    subst hr
    obtain ⟨m6,Dj,_⟩:=J6.loc
    exact Dz _ _ _ H5 m6 (I2.oM (ch:=fp) J6.os J6.base J6.bb J6.bare fun b hb=>by obtain ⟨g0,g1,g2,g3,g4,g5⟩:=f2 b hb; exact ⟨g3,g1,g4,g5⟩) Dj J6.free nL BS cC pC q
   ·refine wpAny_mono (T.item (X.block scope cl hp.objs.size (tg ++ fr.map (·.1)) fp pins s2 H1) rfl rfl rfl hc i [] s' σ' H5 (fun _ _=>False) J5 (xH f5 (by simp)) t5 go) (fun r s6 ⟨u,hr,h6⟩=>?_) fun _ _ z=>z
    subst hr
    refine wpAny_mono h6 (fun _ s7 ⟨x,H7,J7,r7,y7,t7,f7⟩=>?_) fun _ _ z=>z
    have EF:=J7.pinned (xH f7 (by simp)) (T.obj _ _ t7)
    have again:∀ {σ8:St} {H8:Hp} {s8:Shared} {v9:List V},Inv (X.block scope cl hp.objs.size (tg ++ fr.map (·.1)) fp pins s2 H1) ([] ++ gk fp s7.heap) σ8 H8 s8→(∃ m',m' < n∧W (i + 1) m' σ8 v9 H8)→
      ∃ m',m' < n∧∃ i σ' ys H5,Inv (X.block scope cl hp.objs.size (tg ++ fr.map (·.1)) fp pins s2 H1) [] σ' H5 s8∧tn i s8.heap∧(∀ b∈fp,H5 b = none)∧W i m' σ' ys H5:=fun {σ8 H8 s8 v9} J8 ⟨m',hm,w8⟩=>by
     refine ⟨m',hm,i + 1,σ8,v9,H8,J8.d5,T.keep _ _ _ t7 fun b hb o e=>(J8.pin (b,o) (List.mem_append_right _ (List.mem_append_right _ (cA hb e)))).1,fun b hb=>?_,w8⟩
     obtain ⟨o,e,d⟩:=T.obj _ _ t7 b hb
     exact (J8.pin (b,o) (List.mem_append_right _ (List.mem_append_right _ (cA hb e)))).2.1
    refine wpAny_mono (hg _ _ _ _ _ _ s7 σ' H7 x u _ EF r7 (step x H7 y7)) (fun _ s8 ⟨σ8,H8,J8,q8⟩=>?_) fun _ _ z=>z
    refine wpAny_mono (ht _ _ _ _ _ _ s8 σ8 H8 _ J8 q8) (fun b s9 ⟨H9,J9,q9⟩=>?_) fun _ _ z=>z
    cases b with
    | false=>
     rw [if_neg Bool.false_ne_true] at q9 ⊢
     exact again J9 q9
    | true=>
     rw [if_pos rfl] at q9 ⊢
     refine wpAny_mono (he _ _ _ _ _ _ s9 σ8 H9 _ J9 q9) (fun y wA ⟨v,x6,tR,AJ,xE,xy,Ca⟩=>?_) fun _ _ z=>z
     refine wpAny_mono (eS (X:=X.block scope cl hp.objs.size (tg ++ fr.map (·.1)) fp pins s2 H1) _ wA σ8 x6 (.ref s2.heap.objs.size) [v] (.ref s2.heap.objs.size) [y] (fun _ x5=>∃ m',m' < n∧W (i + 1) m' σ8 (ys ++ [v]) x5) tR rfl (.cons AJ .nil) ⟨_,ys,v,rfl,rfl,xE,xy,Ca⟩) (fun _ G8 ⟨_,x5,EG,_,B9⟩=>?_) fun _ _ z=>z
     exact again EG B9
  ·have l:=mD b hb
   rw [aq (Nat.ne_of_lt l)]; exact (f2 b hb).1
 exact codeAny_compStart_list (loop _ rfl) (T.self X.A 0 _ _ _ (T.keep _ _ _ wm fun b hb o e=>k3 b o e) (loop _ rfl))
theorem gX (B:fc X scope cl tg fr) (hc:X.calm = true) (hi:PI X target iter wi)
  (hg:∀ C fp pins s H,PG (X.block scope cl C (tg ++ fr.map (·.1)) fp pins s H) target g) (ht:∀ C fp pins s H,qp (X.block scope cl C (tg ++ fr.map (·.1)) fp pins s H) ifs tt) (he:∀ C fp pins s H,PE (X.block scope cl C (tg ++ fr.map (·.1)) fp pins s H) elt te)
  (hs:∀ x,foldedSetIterable iter X.env x = pure x:=by intro _; rfl):PE X (.ListComp elt [⟨target,iter,ifs,0⟩] scope pos) (jv wi g tt te tg.length (fr.map (·.2))):=by
 intro pins s σ H Q I hw
 rw [eval_ListComp]
 refine wpAny_comprehension_free (use:=none) rfl hs B.xO B.kind B.names (jL B hc hi hg ht he I hw (RR:=fun acc C=>compPost (model X.prog X.w) X.A X.xe none (EP X pins σ Q) acc C) fun D C s1 H5 m J hn f0 f1 f2 f3 f4 q=>?_)
 refine ⟨m,hn,fun h' sb=>⟨.ref D,H5,?_,rfl,q⟩⟩
 exact J.turned (t':=s1.toks) (fun b o hb e=>(sb.2 b hb).trans e) f0 f1 (.inr f2) f3 f4
theorem oh {i:Nat} {y:Str} {py qI:Pos} (hN:X.N.Nodup) (hy:X.N[i]? = some y) (hl:Loc X.env.scope y) (B:fc X scope cl tg fr) (hc:X.calm = true) (hi:PI X target iter wi)
  (hg:∀ C fp pins s H,PG (X.block scope cl C (tg ++ fr.map (·.1)) fp pins s H) target g) (ht:∀ C fp pins s H,qp (X.block scope cl C (tg ++ fr.map (·.1)) fp pins s H) ifs tt) (he:∀ C fp pins s H,PE (X.block scope cl C (tg ++ fr.map (·.1)) fp pins s H) elt te)
  (hs:∀ x,foldedSetIterable iter X.env x = pure x:=by intro _; rfl) (zk:swapsWith (.ListComp elt [⟨target,iter,ifs,0⟩] scope pos) (some (.Name y py)) qI.line X.env = pure true:=by rfl)
  (hf:X.fn y = true∨X.env.scope.names.lookup y = some .local:=by first | exact .inl rfl | exact .inr rfl | assumption) :
  PS X (.Assign [.Name y py] (.ListComp elt [⟨target,iter,ifs,0⟩] scope pos) qI) (ue (jv wi g tt te tg.length (fr.map (·.2))) (lW i)):=by
 intro pins s σ H D I hw
 rw [exec_Assign_Name_used _ _ _ _ zk]
 refine wpAny_bind (wpAny_standAt (wpAny_bind ?_))
 show wpAny _ _ (do let _ ← comprehension (.ListComp elt [⟨target,iter,ifs,0⟩] scope pos) scope X.env _ (newList []) false (eval iter X.env) (some (assign (.Name y py) X.env))) _ _ s
 refine wpAny_bind (wpAny_mono (wpAny_comprehension_free (use:=some (assign (.Name y py) X.env)) (Q:=fun _ s'=>SP X pins D .next s') rfl hs B.xO B.kind B.names
  (jL B hc hi hg ht he I hw (RR:=fun acc C=>compPost (model X.prog X.w) X.A X.xe (some (assign (.Name y py) X.env)) (fun _ s'=>SP X pins D .next s') acc C) fun R C s1 H5 m J hn f0 f1 f2 f3 f4 q=>?_)) (fun _ s' hq=>wpAny_pure (wpAny_pure hq)) fun _ _ z=>z)
 show wpAny _ _ (assign (.Name y py) X.env (.ref R)) _ _ _
 refine wpAny_assign_Name (gi (v:=.ref R) J hN hy hl rfl (fun s2 J2 ⟨a,sb,ha⟩=>?_) hf)
 have na:C≠a:=by
  rcases ha with z | z
  ·rw [z]; exact f1
  ·exact Ne.symm (f3 y a z)
 refine ⟨m,hn.sameBut sb na,fun h' BR=>⟨_,H5,?_,q⟩⟩
 exact J2.turned (t':=s2.toks) (fun b o hb e=>(BR.2 b hb).trans e) f0 f1 (.inr f2) f3 f4
end
end L2
end
section
namespace L2
open PySem PySem.Spec PySem.W PySem.Calls PyProof.Rows
section
variable {X:Cx}
def n8:V→List V→Hp→VK→Prop:=fun x vs H Q=>∃ l xs y,∃ k:Nat,x = .ref l∧vs = [.int k,y]∧H l = some (.lst xs)∧k≤xs.length∧xs.length < sizeLine∧Q .bS (upd H l (.lst (xs.take k ++ y :: xs.drop k)))
theorem jF:Bh X "list.insert" n8:=by
 intro pins s σ H x vs v us Q I rx rv h
 obtain ⟨l,xs,y,k,rfl,rfl,hH,hk,hz,q⟩:=h
 cases rx
 obtain ⟨u1,u2,rfl,⟨t,rfl⟩,ru⟩:=vals2 rv
 obtain ⟨z,aQ,n,r,hl,e⟩:=I.zb hH
 have LA:=iF
 have fit:¬ (!Builtin.List.listFitsIndex (k:Int)) = true:=by
  have:Builtin.List.listFitsIndex (k:Int) = true:=by
   unfold Builtin.List.listFitsIndex
   simp only [Bool.and_eq_true,decide_eq_true_eq]
   constructor <;> omega
  rw [this]; decide
 have ek:(if (k:Int) < 0 then ((k:Int) + (aQ.toArray.size:Int)).toNat else min (k:Int).toNat aQ.toArray.size) = k:=by
  rw [if_neg (by omega),Int.toNat_natCast,List.size_toArray]
  omega
 have ee:(aQ.toArray.extract 0 k).push u2 ++ aQ.toArray.extract k = (aQ.take k ++ u2 :: aQ.drop k).toArray:=by
  apply Array.ext'
  simp
  rw [List.take_of_length_le (by rw [List.length_drop]; omega)]
 have rr:Vals (xs.take k ++ y :: xs.drop k) (aQ.take k ++ u2 :: aQ.drop k):=Vals.append (Vals.take k r) (.cons ru (Vals.drop k r))
 have Fz:(xs.take k ++ y :: xs.drop k).length≤sizeLine:=by
  rw [List.length_append,List.length_cons,List.length_take,List.length_drop]
  omega
 have sz:aQ.toArray.size≤sizeLine:=by rw [List.size_toArray]; omega
 have fin:∀ f:Array Value→Array Value,f aQ.toArray = (aQ.take k ++ u2 :: aQ.drop k).toArray→EP X pins σ Q Value.none { s with heap:=s.heap.update l (Obj.mapSeq f),toks:=s.toks }:=fun f hf=>
  ⟨.bS,_,I.zc (its':=aQ.take k ++ u2 :: aQ.drop k) (ys:=xs.take k ++ y :: xs.drop k) hH e hf rr Fz,rfl,q⟩
 have fin2:EP X pins σ Q Value.none { s with heap:=s.heap.update l (Obj.mapSeq fun xs=>have kk:=if (k:Int) < 0 then ((k:Int) + (xs.size:Int)).toNat else min (k:Int).toNat xs.size; (xs.extract 0 kk).push u2 ++ xs.extract kk),toks:=s.toks }:=by
  refine fin _ ?_
  dsimp only
  rw [ek]
  exact ee
 clear fin ek ee rr Fz q
 generalize (k:Int) = x at fit fin2 ⊢
 generalize aQ.toArray = items at e sz
 exact call_meets F.slot_list_insert ⟨_,e,rfl⟩ F.entry_list_insert (F.args_list_insert_3 _ _ _) (AutoSeq1.list_insert_list_int_val_1 l items n x t u2 fit sz) ⟨e,fin2⟩
def AE (K:Frag):List V→Hp→VK→Prop:=fun vs H Q=>∃ (a:Addr) (ns:List Int),vs = [.ref a]∧aO K H a (ns.map V.int)∧ns.length < 64∧∀ (w9:List Int) p,w9.Perm ns→w9.Pairwise (·≤·)→H p = none→Q (.ref p) (upd H p (.lst (w9.map V.int)))
end
mutual
inductive qo (H:Hp):V→PyData→Prop where
 | int (i:Int):qo H (.int i) (.int i)
 | lst {a:Addr} {vs:List V} {ds:List PyData}:H a = some (.lst vs)→cJ H vs ds→qo H (.ref a) (.list ds)
 | tup {a:Addr} {vs:List V} {ds:List PyData}:H a = some (.tup vs)→cJ H vs ds→qo H (.ref a) (.tuple ds)
inductive cJ (H:Hp):List V→List PyData→Prop where
 | nil:cJ H [] []
 | cons {v:V} {vs:List V} {d:PyData} {ds:List PyData}:qo H v d→cJ H vs ds→cJ H (v :: vs) (d :: ds)
end
section
variable {X:Cx} {pins:List (Addr×Obj)} {σ : St} {H:Hp} {s:Shared}
mutual
theorem qo.reads (I:Inv X pins σ H s):∀ {v:V} {d:PyData} {u:Value},qo H v d→RelV v u→∃ as,Reads s.heap u d as
 | _,_,u,.int i,r=>by
  obtain ⟨t,rfl⟩:=r
  exact ⟨_,.int i t⟩
 | _,_,u,.lst (a:=a) (vs:=vs) e h,r=>by
  cases (show u = Value.ref a from r)
  obtain ⟨_,aQ,n,rv,g⟩:=(show bu X.prog X.w H s.heap a (.lst vs) from I.bb a _ e)
  obtain ⟨as,ra⟩:=cJ.reads I h rv
  exact ⟨_,.list g rfl rfl (by simpa using ra)⟩
 | _,_,u,.tup (a:=a) (vs:=vs) e h,r=>by
  cases (show u = Value.ref a from r)
  obtain ⟨_,aQ,rv,o,g,hc,n,hd⟩:=(show bu X.prog X.w H s.heap a (.tup vs) from I.bb a _ e)
  obtain ⟨as,ra⟩:=cJ.reads I h rv
  exact ⟨_,.tuple g hc hd (by simpa using ra)⟩
theorem cJ.reads (I:Inv X pins σ H s):∀ {vs:List V} {ds:List PyData} {us:List Value},cJ H vs ds→Vals vs us→∃ as,ReadsAll s.heap us ds as
 | _,_,_,.nil,.nil=>⟨_,.nil⟩
 | _,_,_,.cons h t,.cons r q=>by
  obtain ⟨as,ra⟩:=qo.reads I h r
  obtain ⟨bs,rb⟩:=cJ.reads I t q
  exact ⟨_,.cons ra rb⟩
end
end
def B4 (neg:Bool):R2:=fun x y H Q=>∃ da db,qo H x da∧qo H y db∧SeqAt.shaped da = true∧SeqAt.shaped db = true∧Q (.bl (if neg then !PyData.eqv da db else PyData.eqv da db)) H
theorem wX {X:Cx} (hu:X.A.units + 64 < cLine):iU X (compareOp .Eq) (B4 false):=by
 intro pins s σ H x y v u Q I rx ry h
 obtain ⟨da,db,ra,rb,ha,hb,q⟩:=h
 obtain ⟨as,r1⟩:=qo.reads I ra rx
 obtain ⟨bs,r2⟩:=qo.reads I rb ry
 exact SeqAt.compareEq_shaped r1 r2 ha hb hu (aJ I q rfl)
def d4 (l:List Int):PyData:=.list (l.map .int)
def eG (L:List (List Int)):PyData:=.list (L.map d4)
def zU (p:Int×Int):PyData:=.tuple [.int p.1,.int p.2]
def DZ (L:List (Int×Int)):PyData:=.list (L.map zU)
theorem lay_ints:∀ l:List Int,PyData.canLayAll0 (l.map .int) = true∧PyData.depthAll (l.map .int) = 0
 | []=>⟨by simp [PyData.canLayAll0],by simp [PyData.depthAll]⟩
 | i :: l=>by
  obtain ⟨h1,h2⟩:=lay_ints l
  simp [PyData.canLayAll0,PyData.depthAll,PyData.canLay0,PyData.depth,h1,h2]
theorem lN:∀ L:List (List Int),PyData.canLayAll0 (L.map d4) = true∧PyData.depthAll (L.map d4)≤1
 | []=>⟨by simp [PyData.canLayAll0],by simp [PyData.depthAll]⟩
 | l :: L=>by
  obtain ⟨h1,h2⟩:=lN L
  obtain ⟨h3,h4⟩:=lay_ints l
  simp [PyData.canLayAll0,PyData.depthAll,PyData.canLay0,PyData.depth,d4,h1,h3,h4]
  omega
theorem gB (L:List (List Int)):SeqAt.shaped (eG L) = true:=by
 obtain ⟨h1,h2⟩:=lN L
 unfold SeqAt.shaped eG
 simp [PyData.canLay0,PyData.depth,h1]
 omega
theorem md:∀ l m:List Int,PyData.eqvAll (l.map .int) (m.map .int) = decide (l = m)
 | [],[]=>by simp [PyData.eqvAll]
 | [],_ :: _=>by simp [PyData.eqvAll]
 | _ :: _,[]=>by simp [PyData.eqvAll]
 | i :: l,j :: m=>by
  simp only [List.map_cons,PyData.eqvAll,PyData.eqv,md l m]
  by_cases h1:i = j <;> by_cases h2:l = m <;> simp [h1,h2]
theorem jK:∀ L M:List (List Int),PyData.eqvAll (L.map d4) (M.map d4) = decide (L = M)
 | [],[]=>by simp [PyData.eqvAll]
 | [],_ :: _=>by simp [PyData.eqvAll]
 | _ :: _,[]=>by simp [PyData.eqvAll]
 | i :: l,j :: m=>by
  rw [List.map_cons,List.map_cons,PyData.eqvAll,jK l m]
  have e:PyData.eqv (d4 i) (d4 j) = decide (i = j):=by unfold d4; rw [PyData.eqv]; exact md i j
  rw [e]
  by_cases h1:i = j <;> by_cases h2:l = m <;> simp [h1,h2]
theorem sT (L M:List (List Int)):PyData.eqv (eG L) (eG M) = decide (L = M):=by
 unfold eG; rw [PyData.eqv]; exact jK L M
end L2
end
section
namespace L2
open PySem PySem.Spec PySem.W PySem.Calls PyProof.Rows
theorem xR:bootBuiltins "min" = some (.builtin "min"):=by decide +kernel
theorem kL {i j:Int} (h1:0 < j) (h2:j < 2 ^ 250):EK i j:=⟨h1,Sz.mono (m:=250) (by unfold Sz; omega) (by decide)⟩
theorem ko {ns:List Int} {k:Int} (h0:0≤k) (h1:k < ns.length):∃ n,qx (ns.map V.int) k = some (V.int n):=by
 obtain ⟨j,rfl⟩:=Int.eq_ofNat_of_zero_le h0
 have hj:j < ns.length:=by omega
 exact ⟨ns[j],dk (by simp [hj])⟩
end L2
end
section
namespace L2
open PySem PySem.Spec PySem.W PySem.Calls PyProof.Rows
theorem au {α : Type} {p : α→Prop}:∀ x∈([]:List α),p x:=fun _ h=>by cases h
end L2
namespace L2
open PySem PySem.Spec PySem.W PySem.Calls PyProof.Rows
section
variable {σ : St} {H:Hp} {Q:VK} {D:Ends} {K:Frag}
theorem uj {T:String} {r:V→List V→Hp→VK→Prop} {to:TE} {t:TA} (h:to σ H fun x H1=>Av K T x H1∧t σ H1 fun xs H2=>r x xs H2 Q):E5 K T r to t σ H Q:=h
theorem mT {R:Bool→Hp→Prop} (h:R true H):vm σ H R:=h
theorem lB {l:Addr} {xs:List V} {y:V} (h:H l = some (.lst xs)) (hl:xs.length < sizeLine) (q:Q .bS (upd H l (.lst (xs ++ [y])))):n9 (.ref l) [y] H Q:=⟨l,xs,y,rfl,rfl,h,hl,q⟩
theorem lz {l:Addr} {xs:List V} {y:V} {i:Int} {k:Nat} (hi:i = k) (h:H l = some (.lst xs)) (hk:k≤xs.length) (hl:xs.length < sizeLine) (q:Q .bS (upd H l (.lst (xs.take k ++ y :: xs.drop k)))):n8 (.ref l) [.int i,y] H Q:=⟨l,xs,y,k,rfl,by rw [hi],h,hk,hl,q⟩
theorem ui {p:Addr} {x:Int} {ns:List Int} {neg:Bool} (h:aO K H p (ns.map V.int)) (q:Q (.bl (if neg then !decide (x∈ns) else decide (x∈ns))) H):B3 K neg (.int x) (.ref p) H Q:=by
 have e:AQ (.int x) (ns.map V.int) = decide (x∈ns):=by
  unfold AQ
  rw [List.any_map]
  have:(fun y=>uX y (V.int x)) ∘ V.int = fun y=>y == x:=by funext y; rfl
  rw [this]
  clear this q h
  induction ns with
  | nil=>simp
  | cons a l ih=>
   rw [List.any_cons,ih]
   by_cases h1:a = x
   ·subst h1; simp
   ·have h2:¬ x = a:=fun z=>h1 z.symm
    simp [h1,h2]
 refine ⟨p,_,rfl,.inl h,rfl,?_,by rw [e]; exact q⟩
 rw [List.all_map]
 simp [fX]
theorem gD {n i:Nat} {A:Prop} (hi:i < n) (h:A):∃ m',m' < n - i∧(m' = n - (i + 1)∧i + 1≤n∧A):=⟨_,by omega,rfl,hi,h⟩
theorem nH {R:Hp→Prop} {acc:Addr} {lo:Int} {n:Nat} {g:TG} {tt:TT} {te:TE} (Pv:Nat→St→List V→Hp→Prop) (h0:Pv 0 σ [] H)
  (hs:∀ i σ ys H,i < n→Pv i σ ys H→g (.int (lo + i)) σ H fun σ2 H4=>tt σ2 H4 fun b H5=>if b = true then te σ2 H5 fun y H6=>H6 acc = some (.lst ys)∧ys.length < sizeLine∧∃ m',m' < n - i∧(m' = n - (i + 1)∧i + 1≤n∧Pv (i + 1) σ2 (ys ++ [y]) (upd H6 acc (.lst (ys ++ [y])))) else ∃ m',m' < n - i∧(m' = n - (i + 1)∧i + 1≤n∧Pv (i + 1) σ2 ys H5))
  (hd:∀ σ ys H,Pv n σ ys H→R H) :
  ∃ W:Nat→Nat→St→List V→Hp→Prop,(∃ m,W 0 m σ [] H)∧∀ i m σ' ys H2,W i m σ' ys H2→(((tZ lo n).stop i H2∧R H2)∨((tZ lo n).go i H2∧∀ x H3,(tZ lo n).oR i H2 x H3→g x σ' H3 fun σ2 H4=>tt σ2 H4 fun b H5=>
   if b = true then te σ2 H5 fun y H6=>H6 acc = some (.lst ys)∧ys.length < sizeLine∧∃ m',m' < m∧W (i + 1) m' σ2 (ys ++ [y]) (upd H6 acc (.lst (ys ++ [y]))) else ∃ m',m' < m∧W (i + 1) m' σ2 ys H5)):=by
 refine ⟨fun i m σ ys H=>m = n - i∧i≤n∧Pv i σ ys H,⟨n,by simp,Nat.zero_le _,h0⟩,?_⟩
 rintro i m σ ys H ⟨rfl,hi,p⟩
 by_cases cx:i < n
 ·refine .inr ⟨cx,fun x H' y=>?_⟩
  obtain ⟨e,y⟩:=y
  subst e y
  exact hs i σ ys _ cx p
 ·have e:i = n:=by omega
  subst e
  exact .inl ⟨Nat.le_refl _,hd σ ys H p⟩
theorem eT {R:Hp→Prop} {acc a:Addr} {xs:List V} {g:TG} {tt:TT} {te:TE} (Pv:Nat→St→List V→Hp→Prop) (h0:Pv 0 σ [] H) (hl:∀ i σ ys H,i≤xs.length→Pv i σ ys H→aO K H a xs)
  (hs:∀ i x σ ys H,xs[i]? = some x→i < xs.length→Pv i σ ys H→g x σ H fun σ2 H4=>tt σ2 H4 fun b H5=>if b = true then te σ2 H5 fun y H6=>H6 acc = some (.lst ys)∧ys.length < sizeLine∧∃ m',m' < xs.length - i∧(m' = xs.length - (i + 1)∧i + 1≤xs.length∧Pv (i + 1) σ2 (ys ++ [y]) (upd H6 acc (.lst (ys ++ [y])))) else ∃ m',m' < xs.length - i∧(m' = xs.length - (i + 1)∧i + 1≤xs.length∧Pv (i + 1) σ2 ys H5))
  (hd:∀ σ ys H,Pv xs.length σ ys H→R H) :
  ∃ W:Nat→Nat→St→List V→Hp→Prop,(∃ m,W 0 m σ [] H)∧∀ i m σ' ys H2,W i m σ' ys H2→(((vg K a).stop i H2∧R H2)∨((vg K a).go i H2∧∀ x H3,(vg K a).oR i H2 x H3→g x σ' H3 fun σ2 H4=>tt σ2 H4 fun b H5=>
   if b = true then te σ2 H5 fun y H6=>H6 acc = some (.lst ys)∧ys.length < sizeLine∧∃ m',m' < m∧W (i + 1) m' σ2 (ys ++ [y]) (upd H6 acc (.lst (ys ++ [y]))) else ∃ m',m' < m∧W (i + 1) m' σ2 ys H5)):=by
 refine ⟨fun i m σ ys H=>m = xs.length - i∧i≤xs.length∧Pv i σ ys H,⟨xs.length,by simp,Nat.zero_le _,h0⟩,?_⟩
 rintro i m σ ys H ⟨rfl,hi,p⟩
 have q:=hl i σ ys H hi p
 by_cases cx:i < xs.length
 ·refine .inr ⟨⟨xs,xs[i],q,by simp [cx]⟩,fun x H' y=>?_⟩
  obtain ⟨e,y⟩:=y
  subst e
  exact hs i x σ ys _ (y xs q) cx p
 ·have e:i = xs.length:=by omega
  subst e
  exact .inl ⟨⟨xs,q,Nat.le_refl _⟩,hd σ ys H p⟩
theorem fj {wi:TI} {g:TG} {tt:TT} {te:TE} {n:Nat} {fr:List Nat} (h:wi σ H fun J H1=>∀ acc,H1 acc = none→∃ W:Nat→Nat→St→List V→Hp→Prop,(∃ m,W 0 m (eX n fr σ) [] (upd H1 acc (.lst [])))∧
 ∀ i m σ' ys H2,W i m σ' ys H2→((J.stop i H2∧Q (.ref acc) H2)∨(J.go i H2∧∀ x H3,J.oR i H2 x H3→g x σ' H3 fun σ2 H4=>tt σ2 H4 fun b H5=>
  if b = true then te σ2 H5 fun y H6=>H6 acc = some (.lst ys)∧ys.length < sizeLine∧∃ m',m' < m∧W (i + 1) m' σ2 (ys ++ [y]) (upd H6 acc (.lst (ys ++ [y]))) else ∃ m',m' < m∧W (i + 1) m' σ2 ys H5))):jv wi g tt te n fr σ H Q:=h
end
end L2
end
section
namespace Gm
open PySem L2
def put (l:List Int) (k:Nat) (x:Int):List Int:=l.take k ++ x :: l.drop k
theorem lC (l:List Int) (k:Nat) (x:Int):(put l k x).Perm (x :: l):=by
 unfold put
 refine List.perm_middle.trans ?_
 rw [List.take_append_drop]
theorem b6 {l:List Int} {k:Nat} {x y:Int}:y∈put l k x↔y = x∨y∈l:=by rw [(lC l k x).mem_iff,List.mem_cons]
theorem jE {l:List Int} {k:Nat} {x:Int} (h:x∉l) (n:l.Nodup):(put l k x).Nodup:=(lC l k x).nodup_iff.mpr (List.nodup_cons.mpr ⟨h,n⟩)
theorem map_put {l:List Int} {k:Nat} {x:Int}:(l.map V.int).take k ++ V.int x :: (l.map V.int).drop k = (put l k x).map V.int:=by simp [put,List.map_take,List.map_drop]
structure iW (L:List (List Int)):Prop where
 nd:∀ (i:Nat) (l:List Int),L[i]? = some l→l.Nodup
 rg:∀ (i:Nat) (l:List Int),L[i]? = some l→∀ x∈l,0≤x∧x < L.length∧x≠i
 sy:∀ (i:Nat) (l:List Int),L[i]? = some l→∀ x∈l,∀ j:Nat,x = j→∀ m,L[j]? = some m→(i:Int)∈m
structure Made (n one other:Nat) (L:List (List Int)):Prop where
 len:L.length = n
 map:iW L
 bd:∀ (i:Nat) (l:List Int),L[i]? = some l→∀ x∈l,(i < one∧x < one)∨(i = one∧x < other)∨(x = one∧i < other)
theorem Made.skip {n one other:Nat} {L:List (List Int)} (h:Made n one other L):Made n one (other + 1) L:=
 ⟨h.len,h.map,fun i l e x hx=>by have:=h.bd i l e x hx; omega⟩
theorem Made.next {n one:Nat} {L:List (List Int)} (h:Made n one one L):Made n (one + 1) 0 L:=
 ⟨h.len,h.map,fun i l e x hx=>by have:=h.bd i l e x hx; omega⟩
theorem Made.start {n:Nat} {L:List (List Int)} (h:L.length = n) (e:∀ (i:Nat) (l:List Int),L[i]? = some l→l = []):Made n 0 0 L:=by
 refine ⟨h,⟨fun i l q=>by rw [e i l q]; exact List.nodup_nil,fun i l q x hx=>?_,fun i l q x hx=>?_⟩,fun i l q x hx=>?_⟩ <;> (rw [e i l q] at hx; cases hx)
theorem mP {L:List (List Int)} {a b i:Nat} {x y l:List Int} (h:((L.set a x).set b y)[i]? = some l):(i = b∧l = y)∨(i≠b∧i = a∧l = x)∨(i≠b∧i≠a∧L[i]? = some l):=by
 by_cases hb:i = b
 ·subst hb
  rw [List.getElem?_set] at h
  rw [if_pos rfl] at h
  split at h
  ·exact .inl ⟨rfl,(Option.some.inj h).symm⟩
  ·cases h
 ·rw [List.getElem?_set_ne (fun z=>hb z.symm)] at h
  by_cases ha:i = a
  ·subst ha
   rw [List.getElem?_set,if_pos rfl] at h
   split at h
   ·exact .inr (.inl ⟨hb,rfl,(Option.some.inj h).symm⟩)
   ·cases h
  ·rw [List.getElem?_set_ne (fun z=>ha z.symm)] at h
   exact .inr (.inr ⟨hb,ha,h⟩)
theorem Made.step {n one other k1 k2:Nat} {L:List (List Int)} {l1 l2:List Int} (h:Made n one other L) (ho:other < one) (hn:one < n) (e1:L[one]? = some l1) (e2:L[other]? = some l2) :
  Made n one (other + 1) ((L.set one (put l1 k1 other)).set other (put l2 k2 one)):=by
 have n1:(other:Int)∉l1:=fun z=>by have:=h.bd _ _ e1 _ z; omega
 have n2:(one:Int)∉l2:=fun z=>by have:=h.bd _ _ e2 _ z; omega
 have hl:=h.len
 refine ⟨by rw [List.length_set,List.length_set]; exact hl,⟨fun i l e=>?_,fun i l e x hx=>?_,fun i l e x hx j hj m em=>?_⟩,fun i l e x hx=>?_⟩
 ·rcases mP e with ⟨_,rfl⟩ | ⟨_,_,rfl⟩ | ⟨_,_,q⟩
  ·exact jE n2 (h.map.nd _ _ e2)
  ·exact jE n1 (h.map.nd _ _ e1)
  ·exact h.map.nd _ _ q
 ·rw [List.length_set,List.length_set]
  rcases mP e with ⟨rfl,rfl⟩ | ⟨_,rfl,rfl⟩ | ⟨_,_,q⟩
  ·rcases b6.mp hx with z | z
   ·omega
   ·exact h.map.rg _ _ e2 _ z
  ·rcases b6.mp hx with z | z
   ·omega
   ·exact h.map.rg _ _ e1 _ z
  ·exact h.map.rg _ _ q _ hx
 ·rcases mP e with ⟨rfl,rfl⟩ | ⟨hb,rfl,rfl⟩ | ⟨hb,ha,q⟩
  ·rcases mP em with ⟨rfl,rfl⟩ | ⟨jb,rfl,rfl⟩ | ⟨jb,ja,qm⟩
   ·rcases b6.mp hx with z | z
    ·omega
    ·have:=h.map.rg _ _ e2 _ z; omega
   ·exact b6.mpr (.inl rfl)
   ·rcases b6.mp hx with z | z
    ·omega
    ·exact h.map.sy _ _ e2 _ z _ hj _ qm
  ·rcases mP em with ⟨rfl,rfl⟩ | ⟨jb,rfl,rfl⟩ | ⟨jb,ja,qm⟩
   ·exact b6.mpr (.inl rfl)
   ·rcases b6.mp hx with z | z
    ·omega
    ·have:=h.map.rg _ _ e1 _ z; omega
   ·rcases b6.mp hx with z | z
    ·omega
    ·exact h.map.sy _ _ e1 _ z _ hj _ qm
  ·rcases mP em with ⟨rfl,rfl⟩ | ⟨jb,rfl,rfl⟩ | ⟨jb,ja,qm⟩
   ·exact b6.mpr (.inr (h.map.sy _ _ q _ hx _ hj _ e2))
   ·exact b6.mpr (.inr (h.map.sy _ _ q _ hx _ hj _ e1))
   ·exact h.map.sy _ _ q _ hx _ hj _ qm
 ·rcases mP e with ⟨rfl,rfl⟩ | ⟨_,rfl,rfl⟩ | ⟨_,_,q⟩
  ·rcases b6.mp hx with z | z
   ·omega
   ·have:=h.bd _ _ e2 _ z; omega
  ·rcases b6.mp hx with z | z
   ·omega
   ·have:=h.bd _ _ e1 _ z; omega
  ·have:=h.bd _ _ q _ hx; omega
structure cE (H:Hp) (p:Addr) (as:List Addr) (L:List (List Int)):Prop where
 top:H p = some (.lst (as.map V.ref))
 len:as.length = L.length
 row:∀ (i:Nat) (a:Addr) (l:List Int),as[i]? = some a→L[i]? = some l→H a = some (.lst (l.map V.int))
section
variable {H H':Hp} {p:Addr} {as:List Addr} {L:List (List Int)}
theorem cE.at (g:cE H p as L) {i:Nat} (hi:i < L.length):∃ a l,as[i]? = some a∧L[i]? = some l∧H a = some (.lst (l.map V.int)):=by
 have h2:i < as.length:=by rw [g.len]; exact hi
 exact ⟨as[i],L[i],by simp [h2],by simp [hi],g.row i _ _ (by simp [h2]) (by simp [hi])⟩
theorem cE.same (g:cE H p as L) (e:ao H H'):cE H' p as L:=⟨e _ _ g.top,g.len,fun i a l h1 h2=>e _ _ (g.row i a l h1 h2)⟩
theorem cE.set (g:cE H p as L) (nd:(p :: as).Nodup) {i:Nat} {a:Addr} {l':List Int} (hi:as[i]? = some a):cE (upd H a (.lst (l'.map V.int))) p as (L.set i l'):=by
 have hp:p≠a:=fun z=>(List.nodup_cons.mp nd).1 (z▸List.mem_of_getElem? hi)
 refine ⟨by rw [aq hp]; exact g.top,by rw [List.length_set]; exact g.len,fun j b l h1 h2=>?_⟩
 by_cases hj:j = i
 ·subst hj
  rw [hi] at h1
  cases h1
  rw [List.getElem?_set,if_pos rfl] at h2
  split at h2
  ·cases h2; exact ak
  ·cases h2
 ·rw [List.getElem?_set_ne (fun z=>hj z.symm)] at h2
  have hb:b≠a:=fun z=>by
   subst z
   obtain ⟨q1,w1⟩:=List.getElem?_eq_some_iff.mp h1
   obtain ⟨q2,w2⟩:=List.getElem?_eq_some_iff.mp hi
   exact hj ((List.getElem_inj (List.nodup_cons.mp nd).2).mp (w1.trans w2.symm))
  rw [aq hb]
  exact g.row j b l h1 h2
theorem cE.ix (g:cE H p as L) {i:Nat} {a:Addr} (hi:as[i]? = some a):qx (as.map V.ref) (i:Int) = some (V.ref a):=dk (by rw [List.getElem?_map,hi]; rfl)
theorem ly {H:Hp}:∀ l:List Int,cJ H (l.map V.int) (l.map PyData.int)
 | []=>.nil
 | i :: l=>.cons (.int i) (ly l)
theorem uh {a:Addr} {l:List Int} (h:H a = some (.lst (l.map V.int))):qo H (.ref a) (d4 l):=.lst h (ly l)
theorem lu:∀ {as:List Addr} {L:List (List Int)},as.length = L.length→(∀ (i:Nat) (a:Addr) (l:List Int),as[i]? = some a→L[i]? = some l→H a = some (.lst (l.map V.int)))→cJ H (as.map V.ref) (L.map d4)
 | [],[],_,_=>.nil
 | [],_ :: _,h,_=>by simp at h
 | _ :: _,[],h,_=>by simp at h
 | a :: as,l :: L,h,r=>.cons (uh (r 0 a l rfl rfl)) (lu (by simpa using h) fun i b m h1 h2=>r (i + 1) b m (by simpa using h1) (by simpa using h2))
theorem cE.Fc (g:cE H p as L):qo H (.ref p) (eG L):=.lst g.top (lu g.len g.row)
end
theorem ao.fresh {H H':Hp} {a:Addr} {o:HO} (e:ao H H') (h:H a = none):ao H (upd H' a o):=fun b u q=>by rw [aq (fun z=>by rw [z,h] at q; cases q)]; exact e b u q
inductive Reach (L:List (List Int)) (s:Int):Int→Prop where
 | here:Reach L s s
 | step {i:Nat} {l:List Int} {x:Int}:Reach L s i→L[i]? = some l→x∈l→Reach L s x
theorem si {α : Type} [BEq α] [LawfulBEq α]:∀ {l r:List α},l.Nodup→(∀ x∈l,x∈r)→l.length≤r.length
 | [],_,_,_=>Nat.zero_le _
 | x :: l,r,n,h=>by
  have hx:x∈r:=h x List.mem_cons_self
  have n2:=List.nodup_cons.mp n
  have ih:=si (r:=r.erase x) n2.2 fun y hy=>by
   have ne:y≠x:=fun z=>n2.1 (z▸hy)
   exact (List.mem_erase_of_ne ne).mpr (h y (List.mem_cons_of_mem _ hy))
  rw [List.length_erase_of_mem hx] at ih
  have:=List.length_pos_of_mem hx
  rw [List.length_cons]; omega
theorem gp {n:Nat} {l:List Int} (h:l.Nodup) (r:∀ x∈l,0≤x∧x < n):l.length≤n:=by
 have:=si (r:=(List.range n).map fun i:Nat=>(i:Int)) h fun x hx=>by
  have:=r x hx
  exact List.mem_map.mpr ⟨x.toNat,List.mem_range.mpr (by omega),by omega⟩
 simpa using this
end Gm
namespace Gm
open PySem L2
theorem Made.small {n i j:Nat} {L:List (List Int)} (m:Made n i j L) {k:Nat} {l:List Int} (h:L[k]? = some l):l.length≤n:=
 gp (m.map.nd _ _ h) fun x hx=>by have:=m.map.rg _ _ h _ hx; have:=m.len; omega
theorem aX {n:Nat} (h:n≤1000):n < sizeLine:=by rw [PySem.sizeLine_eq]; omega
end Gm
end
section
namespace Gm
open PySem L2
def yM (i:Nat) (l:List Int):Nat→List Int
 | 0=>[]
 | j + 1=>yM i l j ++ (if ((i + 1 + j:Nat):Int)∈l then [((i + 1 + j:Nat):Int)] else [])
def zQ (L:List (List Int)):Nat→List (Int×Int)
 | 0=>[]
 | k + 1=>zQ L k ++ (yM k (L.getD k []) (L.length - (k + 1))).map fun x=>((k:Int),x)
abbrev PR (H:Hp):List Addr→List (Int×Int)→Prop:=Paired fun a x=>H a = some (.tup [.int x.1,.int x.2])
end Gm
end
section
namespace Gm
open PySem L2
structure Fl (L:List (List Int)) (s:Int) (ks ws:List Int):Prop where
 nd:ks.Nodup
 nw:ws.Nodup
 st:s∈ks
 re:∀ x∈ks,Reach L s x
 sub:∀ x∈ws,x∈ks
 cl:∀ (i:Nat) (l:List Int),(i:Int)∈ks→(i:Int)∉ws→L[i]? = some l→∀ x∈l,x∈ks
structure Fi (L:List (List Int)) (s:Int) (ks ws:List Int) (pl:Nat) (l:List Int) (k:Nat):Prop where
 nd:ks.Nodup
 nw:ws.Nodup
 st:s∈ks
 re:∀ x∈ks,Reach L s x
 sub:∀ x∈ws,x∈ks
 pk:(pl:Int)∈ks
 cl:∀ (i:Nat) (m:List Int),(i:Int)∈ks→(i:Int)∉ws→i≠pl→L[i]? = some m→∀ x∈m,x∈ks
 tk:∀ x∈l.take k,x∈ks
def Gs (L:List (List Int)) (fs:List Int):Prop:=∀ (i:Nat) (l:List Int),L[i]? = some l→(∃ x,x∈l∧x∈fs)→(i:Int)∈fs
structure Pa (L:List (List Int)) (fs:List Int) (k:Nat):Prop where
 nd:fs.Nodup
 st:(0:Int)∈fs
 re:∀ x∈fs,Reach L 0 x
 gr:Gs L fs∨k + 1≤fs.length
structure Pi (L:List (List Int)) (uM fs:List Int) (j:Nat):Prop where
 nd:fs.Nodup
 st:(0:Int)∈fs
 re:∀ x∈fs,Reach L 0 x
 kp:Gs L uM→fs = uM
 gr:uM.length < fs.length∨(fs = uM∧∀ (i:Nat) (l:List Int),i < j→L[i]? = some l→(∃ x,x∈l∧x∈fs)→(i:Int)∈fs)
end Gm
namespace Gm
open PySem L2
end Gm
end
section
namespace L2
open PySem PySem.Spec PySem.W PySem.Calls PyProof.Rows
end L2
end
section
namespace L2
open PySem PySem.Spec PySem.W PySem.Calls PyProof.Rows HT
end L2
end
section
namespace L2
open PySem PySem.Spec PySem.W PySem.Calls PyProof.Rows HT
def Hg (K:Frag):R2:=fun x y H Q=>∃ (a b:Addr) (ns ms:List Int),x = .ref a∧y = .ref b∧aO K H a (ns.map V.int)∧aO K H b (ms.map V.int)∧Q (.bl (lexLt ns ms)) H
def Le (a b:List Int):Prop:=lexLt b a = false
end L2
end
section
namespace L2
open PySem PySem.Spec PySem.W PySem.Calls PyProof.Rows
section
variable {cmp:Nat→Nat→(Bool→Shared→Prop)→Shared→Prop} {n:Nat} {f:Nat→List Int} {s:Shared}
def KZ (cmp:Nat→Nat→(Bool→Shared→Prop)→Shared→Prop) (n:Nat) (f:Nat→List Int) (s:Shared):Prop:=∀ i j C,i < n→j < n→C (HT.lexLt (f i) (f j)) s→cmp i j C s
structure Arr (n:Nat) (p:Array Nat):Prop where
 size:p.size = n
 perm:p.Perm (List.toArray (List.range n))
def kf (f:Nat→List Int) (p:Array Nat) (i:Nat):List Int:=f (p.getD i 0)
def Up (f:Nat→List Int) (p:Array Nat) (m:Nat):Prop:=∀ i,i + 1 < m→Le (kf f p i) (kf f p (i + 1))
def Dn (f:Nat→List Int) (p:Array Nat) (m:Nat):Prop:=∀ i,i + 1 < m→Le (kf f p (i + 1)) (kf f p i)
def Flt (f:Nat→List Int) (p:Array Nat) (m q:Nat):Prop:=∀ i,m - (q + 1)≤i→i < m→kf f p i = kf f p (m - 1)
end
end L2
end
section
namespace L2
open PySem PySem.Spec PySem.W PySem.Calls PyProof.Rows
def EA (h:Heap) (vs:List Value) (f:Nat→List Int):Prop:=∀ i,i < vs.length→∃ b us,vs[i]? = some (.ref b)∧h.IsList b us∧IntsAre us.toList (f i)
def Fh (vs:List Value) (p:Array Nat):Array Value:=List.toArray (p.toList.map fun i=>vs.getD i Value.none)
def Ii (h:Heap) (a:Addr) (vs:List Value):Heap:=((h.update a (Obj.mapSeq fun _=>#[])).push (seqObj "tuple" vs.toArray 0)).push (seqObj "list" #[] 0)
end L2
end
section
namespace L2
open PySem PySem.Spec PySem.W PySem.Calls PyProof.Rows
section
variable {prog:Program} {w:World} {A:Around} {R:Result→Shared→Prop} {I:Addr} {fp wr:List Addr} {n:Nat} {P:Nat→Value→Prop} {St:Nat→Heap→Prop} {Kp:Heap→Prop} {bt:Nat→Nat→Bool} {S:Addr}
def Gr (prog:Program) (w:World) (A:Around) (P:Nat→Value→Prop) (Kp:Heap→Prop) (bt:Nat→Nat→Bool):Prop:=
 ∀ (i j:Nat) (x y:Value) (t:Shared) (Q E:Value→Shared→Prop),P i x→P j y→Kp t.heap→Q (.bool (bt i j)) t→wpAny (model prog w) A (richCompare .Lt x y) Q E t
end
section
variable {X:Cx}
def pick {α : Type} (d : α) (L:List α) (p:Array Nat):List α:=p.toList.map fun i=>L.getD i d
def yN (K:Frag):List V→Hp→VK→Prop:=fun vs H Q=>∃ (a:Addr) (as:List Addr) (L:List (List Int)),vs = [.ref a]∧aO K H a (as.map V.ref)∧as.length = L.length∧(∀ (i:Nat) (b:Addr) (l:List Int),as[i]? = some b→L[i]? = some l→aO K H b (l.map V.int))∧as.length < 64∧
 ∀ (p:Array Nat) (q:Addr),Arr L.length p→Up (fun i=>L.getD i []) p L.length→H q = none→Q (.ref q) (upd H q (.lst ((pick 0 as p).map V.ref)))
def Fe (K:Frag):List V→Hp→VK→Prop:=fun vs H Q=>∃ (a:Addr) (as:List Addr) (L:List (List Int)),vs = [.ref a]∧aO K H a (as.map V.ref)∧as.length = L.length∧(∀ (i:Nat) (b:Addr) (l:List Int),as[i]? = some b→L[i]? = some l→aO K H b (l.map V.int))∧0 < as.length∧
 ∀ (i:Nat) (b:Addr) (l:List Int),as[i]? = some b→L[i]? = some l→(∀ m∈L,Le l m)→Q (.ref b) H
def Ff (K:Frag):List V→Hp→VK→Prop:=fun vs H Q=>∃ (a:Addr) (ns:List Int),vs = [.ref a]∧aO K H a (ns.map V.int)∧ns≠[]∧∀ m,m∈ns→(∀ x∈ns,m≤x)→Q (.int m) H
def G9 (K:Frag):List V→Hp→VK→Prop:=fun vs H Q=>∃ (a:Addr) (ns:List Int),vs = [.ref a]∧aO K H a (ns.map V.int)∧ns.length≤1000∧(∀ x∈ns,0≤x∧x≤100000)∧Q (.int ns.sum) H
def B2 (K:Frag):V→List V→Hp→VK→Prop:=fun x vs H Q=>∃ (l:Addr) (ns:List Int) (y:Int),x = .ref l∧vs = [.int y]∧H l = some (.lst (ns.map V.int))∧y∈ns∧Q (.int (ns.idxOf y:Nat)) H
end
end L2
end
section
namespace Gm
open PySem L2
def cy (r:List Int) (j:Nat):Int:=r.getD (j % r.length) 0
def AB (r:List Int) (k:Nat):List Int:=r.drop k ++ r.take k
abbrev bp:=Int×Int
def rowOf (L:List (List Int)) (a:Int):List Int:=L.getD a.toNat []
def pre (l:List Int) (x:Int):Int:=cy l (l.idxOf x + l.length - 1)
structure Dt (L:List (List Int)) (d:bp):Prop where
 lo:0≤d.1
 hi:d.1 < L.length
 mem:d.2∈rowOf L d.1
def nx (L:List (List Int)) (d:bp):bp:=(d.2,pre (rowOf L d.2) d.1)
theorem lq {L:List (List Int)} {a:Int} (h0:0≤a) (h1:a < L.length):L[a.toNat]? = some (rowOf L a):=by
 unfold rowOf
 have:a.toNat < L.length:=by omega
 simp [this]
section
variable {L:List (List Int)} {d e:bp}
def F5 (L:List (List Int)):Nat→List bp
 | 0=>[]
 | k + 1=>F5 L k ++ (rowOf L k).map fun x=>((k:Int),x)
def it (L:List (List Int)) (d:bp):Nat→bp
 | 0=>d
 | k + 1=>Gm.nx L (it L d k)
def Gn (L:List (List Int)) (d:bp) (k:Nat):Prop:=∀ i,0 < i→i < k→it L d i≠d
def tr (L:List (List Int)) (d:bp) (k:Nat):List bp:=(List.range k).map (it L d)
def dj (r:List Int) (j:Nat):bp:=(cy r j,cy r (j + 1))
structure Good (L:List (List Int)) (r:List Int):Prop where
 two:2≤r.length
 dt:∀ j,Dt L (dj r j)
 st:∀ j,Gm.nx L (dj r j) = dj r (j + 1)
def sh (s:Nat) (r:List Int):List bp:=(List.range r.length).map fun j=>dj r (j + s)
def BV (L:List (List Int)) (d:bp) (k:Nat):List Int:=(List.range k).map fun i=>(it L d i).1
def tQ (r:List Int):Prop:=∀ k,k < r.length→Le r (AB r k)
structure Gq (L R:List (List Int)):Prop where
 good:∀ r∈R,Good L r
 least:∀ r∈R,tQ r
 sorted:R.Pairwise (fun a b=>HT.lexLt a b = true)
 nd:(R.flatMap (sh 0)).Nodup
 all:∀ d,Dt L d→d∈R.flatMap (sh 0)
structure Lp (L R:List (List Int)) (ks:List bp):Prop where
 good:∀ r∈R,Good L r
 least:∀ r∈R,tQ r
 nd:ks.Nodup
 pm:ks.Perm (R.flatMap (sh 0))
 two:2 * R.length≤ks.length
end
end Gm
end
section
namespace Gm
open PySem L2
theorem range_getD {α : Type} {d : α} (L:List α):((List.range L.length).map fun i=>L.getD i d) = L:=by
 apply List.ext_getElem?
 intro i
 rw [List.getElem?_map]
 by_cases h:i < L.length
 ·simp [h]
 ·simp [h]
def zf (d:bp):List Key:=[.inl d.1,.inl d.2]
def kD (ks:List bp):List (List Key×V):=ks.map fun d=>(zf d,V.bl true)
theorem cE.snoc {H:Hp} {t b:Addr} {bs:List Addr} {R:List (List Int)} {l:List Int} (g:cE H t bs R) (nt:t∉bs) (nb:b≠t) (hb:H b = some (.lst (l.map V.int))):cE (upd H t (.lst (bs.map V.ref ++ [.ref b]))) t (bs ++ [b]) (R ++ [l]):=by
 refine ⟨by rw [List.map_append]; exact ak,by rw [List.length_append,List.length_append,g.len]; rfl,fun i a m h1 h2=>?_⟩
 rcases Nat.lt_or_ge i bs.length with hi | hi
 ·rw [List.getElem?_append_left hi] at h1
  rw [List.getElem?_append_left (by rw [← g.len]; exact hi)] at h2
  have am:=List.mem_of_getElem? h1
  have ne:a≠t:=fun z=>nt (by rw [← z]; exact am)
  rw [aq ne]
  exact g.row i a m h1 h2
 ·rw [List.getElem?_append_right hi] at h1
  rw [List.getElem?_append_right (by rw [← g.len]; exact hi),← g.len] at h2
  have:i - bs.length = 0:=by
   have:=(List.getElem?_eq_some_iff.mp h1).1
   rw [List.length_singleton] at this
   omega
  rw [this] at h1 h2
  simp at h1 h2
  subst h1 h2
  rw [aq nb]
  exact hb
theorem take_snoc {α : Type} {l:List α} {j:Nat} {x : α} (h:l[j]? = some x):l.take (j + 1) = l.take j ++ [x]:=by rw [List.take_succ,h]; rfl
def L4 (g:Addr) (H H':Hp):Prop:=∀ b o,b≠g→H b = some o→H' b = some o
def fl (R:List (List Int)) (k:Nat):List bp:=(R.take k).flatMap fun r=>sh (r.length - 2) r
end Gm
end
section
namespace Gm
open PySem L2
def HB:Int→List Int→Int→Int
 | p,[],_=>p
 | p,h :: t,x=>if h = x then p else HB h t x
def lst (l:List Int):Int:=l.getD (l.length - 1) 0
def rem (L:List (List Int)) (a b:Int):List (List Int):=(L.set a.toNat ((rowOf L a).erase b)).set b.toNat ((rowOf L b).erase a)
end Gm
end
section
namespace Gm
open PySem L2
inductive Wk (f:bp→bp):bp→List bp→bp→Prop where
 | nil (x:bp):Wk f x [] x
 | cons {x y:bp} {l:List bp}:Wk f (f x) l y→Wk f x (x :: l) y
def Bi (f:bp→bp) (c:List bp):Prop:=∃ x l,c = x :: l∧Wk f x c x
structure Dec (L:List (List Int)) (R:List (List bp)):Prop where
 JH:∀ c∈R,Bi (nx L) c
 nd:R.flatten.Nodup
 mem:∀ d,d∈R.flatten↔Dt L d
end Gm
end
section
namespace Gm
open PySem L2
def iso (L:List (List Int)):Nat:=L.countP (·.isEmpty)
def vX (L:List (List Int)) (S:List Int):Prop:=∀ x:Int,0≤x→x < L.length→∃ s∈S,Reach L s x
end Gm
end
section
namespace Gm
open PySem L2
def Dv (c:List bp):bp:=c.headD (0,0)
def rep (R:List (List bp)) (d:bp):bp:=((R.find? fun c=>decide (d∈c)).map Dv).getD (0,0)
structure Dp (L:List (List Int)) (R:List (List bp)):Prop where
 JH:∀ c∈R,Bi (nx L) c
 nd:R.flatten.Nodup
 dt:∀ d∈R.flatten,Dt L d
end Gm
end
section
namespace L2
open PySem PySem.Spec PySem.W PySem.Calls PyProof.Rows
section
variable {X:Cx}
def gu (ns:List Int):List Int:=ns.foldl step_dedup []
theorem nD (ns:List Int):firstMet (fun i=>ns.getD i 0) ns.length = gu ns:=by
 unfold firstMet gu
 rw [show ((List.range ns.length).map fun i=>ns.getD i 0) = ns from Gm.range_getD ns]
theorem oI:∀ (ns σ : List Int),σ.Nodup→((ns.foldl step_dedup σ).length = σ.length + ns.length↔(σ ++ ns).Nodup)
 | [],σ,h=>by simp [h]
 | x :: ns,σ,h=>by
  rw [List.foldl_cons]
  by_cases e:x∈σ
  ·have e1:step_dedup σ x = σ:=by unfold step_dedup; rw [if_pos (by simpa using e)]
   rw [e1]
   constructor
   ·intro z
    have:=foldl_step_dedup_length_le σ ns
    rw [List.length_cons] at z
    omega
   ·intro z
    exact absurd rfl ((List.nodup_append.mp z).2.2 x e x List.mem_cons_self)
  ·have e1:step_dedup σ x = σ ++ [x]:=by unfold step_dedup; rw [if_neg (by simpa using e)]
   rw [e1]
   have n1:(σ ++ [x]).Nodup:=(List.perm_append_singleton x σ).nodup_iff.mpr (List.nodup_cons.mpr ⟨e,h⟩)
   have:=oI ns (σ ++ [x]) n1
   rw [List.length_append,List.length_singleton,List.append_assoc,List.singleton_append] at this
   rw [← this,List.length_cons]
   omega
theorem me (ns:List Int):(gu ns).length = ns.length↔ns.Nodup:=by
 have:=oI ns [] .nil
 rw [List.length_nil,Nat.zero_add,List.nil_append] at this
 exact this
def yQ (K:Frag):List V→Hp→VK→Prop:=fun vs H Q=>∃ (a:Addr) (ns:List Int),vs = [.ref a]∧aO K H a (ns.map V.int)∧ns.length≤1000∧∀ (p:Addr) (S:Int→Bool),H p = none→Q (.ref p) (upd H p (.set S (gu ns).length))
theorem jN (hc:X.calm = true):dB X (.type "set") (yQ X.K):=by
 intro pins s σ H xs us Q I r h
 obtain ⟨a,ns,rfl,ha,hl,q⟩:=h
 obtain ⟨u,rfl,ru⟩:=vals1 r
 cases ru
 obtain ⟨aQ,rv,pl,hz⟩:=I.list ha
 have hi:IntsAre aQ ns:=intsAre_of rv
 have zl:=hi.length
 refine call_set_list (I.ok.hd hc) pl.isList (by simpa using hi) (by rw [List.size_toArray,zl]; exact Nat.lt_of_le_of_lt (Nat.succ_le_succ hl) (by decide)) fun h' tk hS kk=>?_
 have ez:aQ.toArray.size = ns.length:=by rw [List.size_toArray]; exact zl
 rw [ez,nD] at hS
 exact ⟨.ref s.heap.objs.size,_,I.laid (t':=tk) (fun b o e=>kk b o (Heap.lt_size e) e) (Nat.le_refl _) (show bu X.prog X.w _ h' s.heap.objs.size (.set _ (gu ns).length) from hS),rfl,q _ _ (I.bb.fresh (Nat.le_refl _))⟩
theorem jO:dB X (.builtin "len") (fun xs H Q=>∃ a S n,xs = [V.ref a]∧H a = some (.set S n)∧Q (.int (n:Nat)) H):=by
 intro pins s σ H xs us Q I r h
 obtain ⟨a,S,n,rfl,ha,q⟩:=h
 obtain ⟨u,rfl,ru⟩:=vals1 r
 cases ru
 obtain ⟨o,es,ep,tt,ho,hex,hd,_,_,cx,hf,hn⟩:=(show s.heap.SetOf (intKind X.prog X.w) a S n from I.bb a _ ha)
 have lt:es.size < 4096:=cx
 refine call_len_set ho hex hd hf (by omega) ⟨.int (n:Nat),H,I.tok _,⟨_,by rw [hn]⟩,q⟩
def Hj:R2:=fun x y H Q=>∃ a b:Bool,x = .bl a∧y = .bl b∧Q (.bl (a == b)) H
def Hl (K:Frag):R2:=fun x y H Q=>∃ (p l:Addr) (d:Int×Int) (ps:List Addr) (T:List (Int×Int)),x = .ref p∧y = .ref l∧H p = some (.tup [.int d.1,.int d.2])∧H l = some (.lst (ps.map V.ref))∧Gm.PR H ps T∧Q (.bl (decide (d∈T))) H
def AF:V→List V→Hp→VK→Prop:=fun x vs H Q=>∃ (l:Addr) (ns:List Int) (y:Int),x = .ref l∧vs = [.int y]∧H l = some (.lst (ns.map V.int))∧y∈ns∧Q .bS (upd H l (.lst ((ns.erase y).map V.int)))
end
end L2
end
section
namespace Gm
open PySem L2
structure Ai (L:List (List Int)):Prop where
 map:iW L
 two:2≤L.length
 span:vX L [0]
 JS:∃ R,Dec L R∧(L.length:Int) + R.length + iso L = (zQ L L.length).length + 2
def both (L:List (List Int)) (a b:Int) (A B:List Int):List (List Int):=(L.set a.toNat A).set b.toNat B
structure EI (L:List (List Int)) (a b:Int) (A B:List Int):Prop where
 map:iW L
 a0:0≤a
 a1:a < L.length
 b0:0≤b
 b1:b < L.length
 ne:a≠b
 no:b∉rowOf L a
 pa:A.Perm (b :: rowOf L a)
 pb:B.Perm (a :: rowOf L b)
 ea:A.erase b = rowOf L a
 eb:B.erase a = rowOf L b
end Gm
end
section
namespace Gm
open PySem L2
def Ij (L:List (List Int)):List (List Int):=L ++ [[]]
structure Pl (L:List (List Int)) (r:List Int) (c1 cj:Nat) (dn:List Nat) (M:List (List Int)):Prop where
 sh:Ai M
 len:M.length = L.length + 1
 new:rowOf M (L.length:Int) = dn.map (cy r)
 hd:∃ rest,dn = c1 :: rest
 keep:∀ x:Int,0≤x→x < L.length→(∀ c∈dn,cy r c≠x)→rowOf M x = rowOf L x
 sub:∀ d,Dt L d→Dt M d
 le:c1≤cj
 top:cj < r.length
 i1:∀ i,cj≤i→i + 1 < c1 + r.length→nx M (dj r i) = dj r (i + 1)
 i2:nx M (dj r (c1 + (r.length - 1))) = (cy r c1,(L.length:Int))
 i3:nx M (cy r c1,(L.length:Int)) = ((L.length:Int),cy r cj)
 i4:nx M ((L.length:Int),cy r cj) = dj r cj
end Gm
end
section
namespace L2
open PySem PySem.Spec PySem.W PySem.Calls PyProof.Rows
theorem tJ:bootBuiltins "set" = some (.type "set"):=by decide +kernel
end L2
namespace Gm
open PySem L2
end Gm
end
section
namespace L2
open PySem PySem.Spec PySem.W PySem.Calls PyProof.Rows
def Ku (K:Frag) (a b:Addr):It:=
 ⟨fun i H=>∃ xs ys x y,aO K H a xs∧aO K H b ys∧xs[i]? = some x∧ys[i]? = some y,
  fun i H v H'=>∃ p x y,H p = none∧v = .ref p∧(∀ xs,aO K H a xs→xs[i]? = some x)∧(∀ ys,aO K H b ys→ys[i]? = some y)∧H' = upd H p (.tup [x,y]),
  fun i H=>∃ xs ys,aO K H a xs∧aO K H b ys∧(xs.length≤i∨ys.length≤i)⟩
def IB (K:Frag) (ta:TA):TI:=fun σ H R=>ta σ H fun vs H1=>∃ a b,vs = [.ref a,.ref b]∧(∃ xs,aO K H1 a xs)∧(∃ ys,aO K H1 b ys)∧R (Ku K a b) H1
end L2
end
section
namespace Gm
open PySem L2
def oQ (a b:List Int):Prop:=a = b∨∃ c,c < b.length∧a = AB b c
end Gm
namespace L2
open PySem PySem.Spec PySem.W PySem.Calls PyProof.Rows
end L2
namespace Gm
open PySem L2
def EB (L M:List (List Int)):Prop:=L.length = M.length∧∀ (i:Nat) (l m:List Int),L[i]? = some l→M[i]? = some m→oQ l m
end Gm
end
section
namespace Gm
open PySem L2
end Gm
end
section
namespace PySem
abbrev Ew (h:Heap) (z TI TO a:Addr) (f:Bool):Prop:=
 h.get? z = some { cls:=.type "zip",dict:=none,data:=.fields #[rawInt a,.bool f,.bool false,.ref TI,.ref TO],slots:=#[] }
structure Gj (h:Heap) (z TI TO i1 i2 l1 l2 S:Addr) (i:Nat):Prop where
 own:(i = 0∧IsZip h z TI TO .none∧∃ a b,IsPair h TO a b)∨∃ a f oa,Ew h z TI TO a f∧h.get? a = some oa∧a∉[z,i1,i2,S]
 it:IsPair h TI (.ref i1) (.ref i2)
 one:h.IsListIter i1 l1 i
 two:h.IsListIter i2 l2 i
structure Ki (xs ys:Array Value) (lo:Addr) (h:Heap) (as:List Addr):Prop where
 rise:as.Pairwise (· < ·)
 above:∀ a∈as,lo≤a
 pairs:∀ (j:Nat) (a:Addr),as[j]? = some a→∃ x y,xs[j]? = some x∧ys[j]? = some y∧IsPair h a x y
namespace F
end F
end PySem
end
section
namespace L2
open PySem PySem.Spec PySem.W PySem.Calls PyProof.Rows
def CT:List Addr→List (V×V)→Hp→Hp
 | a :: as,p :: ps,H=>upd (CT as ps H) a (.tup [p.1,p.2])
 | _,_,H=>H
def yy (K:Frag) (ta:TA):TE:=fun σ H Q=>ta σ H fun vs H1=>∃ a b xs ys,vs = [.ref a,.ref b]∧aO K H1 a xs∧aO K H1 b ys∧xs.length = ys.length∧
 ∀ (l:Addr) (as:List Addr) (H2:Hp),ao H1 H2→H1 l = none→H2 l = some (.lst (as.map V.ref))→as.length = xs.length→
  (∀ (j:Nat) (a:Addr),as[j]? = some a→H1 a = none∧a≠l∧∃ x y,xs[j]? = some x∧ys[j]? = some y∧H2 a = some (.tup [x,y]))→Q (.ref l) H2
end L2
end
section
namespace Gm
open PySem L2
end Gm
end
section
namespace L2
open PySem PySem.Spec PySem.W PySem.Calls PyProof.Rows
section
variable {X:Cx}
def AG (K:Frag):R2:=fun x y H Q=>∃ (p l:Addr) (d:Int×Int) (ps:List Addr) (T:List (Int×Int)),x = .ref p∧y = .ref l∧H p = some (.tup [.int d.1,.int d.2])∧H l = some (.lst (ps.map V.ref))∧Gm.PR H ps T∧Q (.bl (!decide (d∈T))) H
end
end L2
namespace Gm
open PySem L2
end Gm
end
section
namespace Gm
open PySem L2
end Gm
end
section
namespace L2
open PySem PySem.Spec PySem.W PySem.Calls PyProof.Rows
section
variable {X:Cx}
def B7 (K:Frag):List V→Hp→VK→Prop:=fun vs H Q=>∃ (a:Addr) (bs:List Bool),vs = [.ref a]∧aO K H a (bs.map V.bl)∧Q (.bl (bs.all id)) H
theorem jQ:∀ {bs:List Bool} {aQ:List Value},Vals (bs.map V.bl) aQ→aQ = bs.map Value.bool
 | [],_,h=>by cases h; rfl
 | b :: bs,_,h=>by
  cases h with
  | @cons _ u _ us ru rv=>
   cases ru
   rw [jQ rv]
   rfl
theorem all_range (bs:List Bool):((List.range bs.length).all fun i=>bs.getD i false) = bs.all id:=by
 induction bs with
 | nil=>rfl
 | cons b bs ih=>
  rw [List.length_cons,List.range_succ_eq_map,List.all_cons,List.all_map,List.all_cons]
  congr 1
theorem mj (hc:X.calm = true):dB X (.builtin "all") (B7 X.K):=by
 intro pins s σ H xs us Q I r h
 obtain ⟨a,bs,rfl,ha,q⟩:=h
 obtain ⟨u,rfl,ru⟩:=vals1 r
 cases ru
 obtain ⟨aQ,rv,pl,hz⟩:=I.list ha
 obtain rfl:=jQ rv
 have ll:a < s.heap.objs.size:=by obtain ⟨_,e,_⟩:=pl.isList; exact Heap.lt_size e
 refine call_all_walk (wpAny_pyIter_list pl.isList ?_)
 refine ⟨s.heap.objs.size,_,_,_,_,_,fun i=>bs.getD i false,rfl,Walks.list (A:=X.A.in1) (I.ok.hd hc) s.heap.objs.size a (Nat.ne_of_lt ll) (bs.map Value.bool).toArray,⟨⟨_,Heap.get?_push_size _ rfl,rfl,rfl⟩,pl.isList.at fun o e=>Heap.get?_push_of_some _ e⟩,fun i v s' Q' E' hv hq=>?_,fun h' tk hk=>?_⟩
 ·have zi:(bs.map Value.bool)[i]? = some v:=by simpa using hv
  rw [List.getElem?_map] at zi
  cases e:bs[i]? with
  | none=>rw [e] at zi; cases zi
  | some b=>
   rw [e] at zi
   cases zi
   have:bs.getD i false = b:=by rw [List.getD_eq_getElem?_getD,e]; rfl
   have IM:Q' b s':=by rw [← this]; exact hq
   exact wpAny_truthy_bool IM
 ·have ez:(bs.map Value.bool).toArray.size = bs.length:=by simp
  rw [ez,all_range]
  exact ⟨.bl (bs.all id),H,I.kept (t':=tk) fun b o e=>hk b o (fun z=>by
   have:b = s.heap.objs.size:=by simpa using z
   exact absurd (Heap.lt_size e) (by rw [this]; exact Nat.lt_irrefl _)) (Heap.get?_push_of_some _ e),rfl,q⟩
end
end L2
end
section
namespace PySem
namespace F
end F
end PySem
namespace L2
open PySem PySem.Spec PySem.W PySem.Calls PyProof.Rows
section
variable {X:Cx} {e st:Expr} {te ES:TE} {p2 pos:Pos}
def GJ (K:Frag) (te ES:TE):TE:=fun σ H Q=>te σ H fun x H1=>ES σ H1 fun y H2=>y = .int (-1)∧∃ a xs,x = .ref a∧aO K H2 a xs∧∀ p,H2 p = none→Q (.ref p) (upd H2 p (.lst xs.reverse))
end
section
variable {X:Cx} {l:Expr} {tl:TE} {p p2 pos Cb:Pos}
def yA (K:Frag) (tl:TE):TE:=fun σ H Q=>tl σ H fun x H1=>∃ a xs,x = .ref a∧aO K H1 a xs∧∀ p,H1 p = none→Q (.ref p) (upd H1 p (.lst xs.reverse))
end
end L2
end
section
namespace Gm
open PySem L2
def kN (ks:List (bp×Int)):List (List Key×V):=ks.map fun p=>(zf p.1,V.int p.2)
def lk (s:List Int→Nat) (R:List (List Int)):Nat→List (bp×Int)
 | 0=>[]
 | k + 1=>lk s R k ++ (sh (s (R.getD k [])) (R.getD k [])).map fun d=>(d,(k:Int))
def lo (R:List (List Int)) (d:bp):Int:=(R.findIdx fun r=>decide (d∈sh 0 r):Nat)
def Lb (R:List (List Int)) (s:Nat) (r:List Int):List Int:=(sh s r).map fun d=>lo R (d.2,d.1)
def KG (D:List (List Int)):Prop:=∀ (k:Nat) (l:List Int),D[k]? = some l→(k:Int)∉l∧l.Nodup
end Gm
namespace Gm
open PySem L2
end Gm
namespace L2
open PySem PySem.Spec PySem.W PySem.Calls PyProof.Rows in
theorem u0 (l:List Int):(gu l).length≤l.length:=by
 have:=foldl_step_dedup_length_le [] l
 unfold gu
 simpa using this
end L2
namespace Gm
open PySem L2
end Gm
namespace Gm
end Gm
namespace L2
open PySem
theorem uk {X:Cx} {K:PySem.W.Frag} (hK:X.K = K) {pos:Pos} {es:List Expr} {k:Nat} {t:tY} {n:Nat} (hc:X.calm = true) (h:Ak X es t)
  (hn:(assignEach es X.env).length = n:=by rfl) (zm:(assignEach es X.env).findIdx? (·.1) = none:=by rfl):PG X (.Tuple es k pos) (xG K n t):=by
 subst hK
 exact rP hc h hn zm
end L2
namespace L2
end L2
end
section
namespace Gm
open PySem L2
inductive ve (L:List (List Int)) (S:List Int) (s:Int):Int→Prop where
 | here:ve L S s s
 | step {i:Nat} {l:List Int} {x:Int}:ve L S s i→L[i]? = some l→x∈l→x∉S→ve L S s x
structure LZ (L:List (List Int)) (S:List Int) (s:Int) (ks ws:List Int):Prop where
 nd:ks.Nodup
 nw:ws.Nodup
 st:s∈ks
 re:∀ x∈ks,ve L S s x
 sub:∀ x∈ws,x∈ks
 cl:∀ (i:Nat) (l:List Int),(i:Int)∈ks→(i:Int)∉ws→L[i]? = some l→∀ x∈l,x∉S→x∈ks
structure L0 (L:List (List Int)) (S:List Int) (s:Int) (ks ws:List Int) (pl:Nat) (l:List Int) (k:Nat):Prop where
 nd:ks.Nodup
 nw:ws.Nodup
 st:s∈ks
 re:∀ x∈ks,ve L S s x
 sub:∀ x∈ws,x∈ks
 pk:(pl:Int)∈ks
 cl:∀ (i:Nat) (m:List Int),(i:Int)∈ks→(i:Int)∉ws→i≠pl→L[i]? = some m→∀ x∈m,x∉S→x∈ks
 tk:∀ x∈l.take k,x∉S→x∈ks
def An (L:List (List Int)) (S fs:List Int):Prop:=∀ (i:Nat) (l:List Int),L[i]? = some l→(i:Int)∉S→(∃ x,x∈l∧x∈fs)→(i:Int)∈fs
structure LQ (L:List (List Int)) (S:List Int) (s:Int) (fs:List Int) (k:Nat):Prop where
 nd:fs.Nodup
 st:s∈fs
 re:∀ x∈fs,ve L S s x
 gr:An L S fs∨k + 1≤fs.length
structure LP (L:List (List Int)) (S:List Int) (s:Int) (uM fs:List Int) (j:Nat):Prop where
 nd:fs.Nodup
 st:s∈fs
 re:∀ x∈fs,ve L S s x
 kp:An L S uM→fs = uM
 gr:uM.length < fs.length∨(fs = uM∧∀ (i:Nat) (l:List Int),i < j→L[i]? = some l→(i:Int)∉S→(∃ x,x∈l∧x∈fs)→(i:Int)∈fs)
def mH (n:Nat):List Int:=(List.range n).map fun i:Nat=>(i:Int)
def left (n:Nat) (S:List Int):List Int:=(mH n).filter fun x=>!decide (x∈S)
open Classical in
noncomputable def rn (L:List (List Int)) (S:List Int) (s:Int):Nat:=((mH L.length).filter fun x=>decide (ve L S s x)).length
noncomputable def La (L:List (List Int)) (S:List Int):Bool:=match left L.length S with | []=>false | s :: r=>decide (rn L S s < (s :: r).length)
def twos (n one:Nat):List (List Int):=(List.range (n - (one + 1))).map fun j:Nat=>[(one:Int),(one:Int) + 1 + (j:Int)]
def wy (n:Nat):Nat→List (List Int)
 | 0=>[] :: (mH n).map fun i=>[i]
 | k + 1=>wy n k ++ twos n k
end Gm
end
section
namespace Gm
open PySem L2
def sw (d:bp):bp:=(d.2,d.1)
def Lg (L:List (List Int)):List (List Int):=L.map List.reverse
def Ao (r s:List Int):Prop:=∃ c,c < r.length∧s = AB r.reverse c∧tQ s
abbrev Gv:List (List Int)→List (List Int)→Prop:=Paired Ao
end Gm
end
section
namespace Gm
open PySem L2
end Gm
end
section
namespace Gm
open PySem L2
structure Lay (A B:List (List Int)) (f:Int→Int):Prop where
 len:A.length = B.length
 rg:∀ i:Int,0≤i→i < A.length→0≤f i∧f i < B.length
 row:∀ i:Int,0≤i→i < A.length→oQ ((rowOf A i).map f) (rowOf B (f i))
end Gm
end
section
namespace Gm
open PySem L2
def nm (ks:List (Int×Int)) (p:Int):Int:=(ks.lookup p).getD 0
structure vW (A B:List (List Int)) (first x0 second:Int) (f:Int→Int):Prop where
 lay:Lay A B f
 e0:f 0 = first
 e1:f x0 = second
abbrev Wait:=Int×Int×Int
structure Nf (A B:List (List Int)) (first x0 second:Int) (ks:List (Int×Int)) (ws:List Wait):Prop where
 nd:(ks.map (·.1)).Nodup
 rg:∀ p∈ks,(0≤p.1∧p.1 < A.length)∧0≤p.2∧p.2 < B.length
 st:(0,first)∈ks
 wn:(ws.map (·.1)).Nodup
 wk:∀ w∈ws,∃ v,(w.1,v)∈ks∧w.2.1∈rowOf A w.1∧w.2.2∈rowOf B v
 cl:∀ p v,(p,v)∈ks→p∉ws.map (·.1)→(∀ y∈rowOf A p,∃ u,(y,u)∈ks)∧oQ ((rowOf A p).map (nm ks)) (rowOf B v)
 un:∀ f,vW A B first x0 second f→(∀ p∈ks,f p.1 = p.2)∧∀ w∈ws,f w.2.1 = w.2.2
 IA:(0,x0,second)∈ws∨(x0,second)∈ks
structure Ni (A B:List (List Int)) (first x0 second:Int) (ks:List (Int×Int)) (ws:List Wait) (p v:Int) (od gl:List Int) (k:Nat):Prop where
 nd:(ks.map (·.1)).Nodup
 rg:∀ p∈ks,(0≤p.1∧p.1 < A.length)∧0≤p.2∧p.2 < B.length
 st:(0,first)∈ks
 wn:(ws.map (·.1)).Nodup
 pn:p∉ws.map (·.1)
 pk:(p,v)∈ks
 wk:∀ w∈ws,∃ v,(w.1,v)∈ks∧w.2.1∈rowOf A w.1∧w.2.2∈rowOf B v
 cl:∀ q u,(q,u)∈ks→q∉ws.map (·.1)→q≠p→(∀ y∈rowOf A q,∃ u,(y,u)∈ks)∧oQ ((rowOf A q).map (nm ks)) (rowOf B u)
 un:∀ f,vW A B first x0 second f→(∀ p∈ks,f p.1 = p.2)∧∀ w∈ws,f w.2.1 = w.2.2
 tk:∀ (t:Nat) (y u:Int),t < k→od[t]? = some y→gl[t]? = some u→(y,u)∈ks
 IA:(0,x0,second)∈ws∨(x0,second)∈ks∨(od[0]? = some x0∧gl[0]? = some second)
end Gm
end
section
namespace Gm
open PySem L2
def kI (ks:List (Int×Int)):List (Key×V):=ks.map fun p=>((Sum.inl p.1:Key),V.int p.2)
abbrev WR (H:Hp):List Addr→List Wait→Prop:=Paired fun a w=>H a = some (.tup [.int w.1,.int w.2.1,.int w.2.2])
end Gm
end
section
namespace L2
open PySem PySem.Spec PySem.W PySem.Calls PyProof.Rows Gm
section
variable {X:Cx} {l:Expr} {tl:TE} {p p2 pos Cb:Pos}
def yz (tl:TE):TE:=fun σ H Q=>tl σ H fun x H1=>∃ n:Nat,x = .int (n:Int)∧n≤1000∧∀ p,H1 p = none→Q (.ref p) (upd H1 p (.lst ((mH n).map V.int)))
end
end L2
end
section
namespace Gm
open PySem L2
def Ik (n:Nat) (l:List Int):List (List Int):=((mH n).filter fun x=>!decide (x∈l)).map fun x=>l ++ [x]
def Et (n:Nat):Nat→List (List Int)
 | 0=>[[]]
 | k + 1=>(Et n k).flatMap (Ik n)
def AM (l:List Int) (i:Int):Int:=l.getD i.toNat 0
structure LU (n:Nat) (l:List Int):Prop where
 len:l.length = n
 nd:l.Nodup
 rg:∀ x∈l,0≤x∧x < n
structure LM (A:List (List Int)) (l:List Int) (R:List (List Int)):Prop where
 len:R.length = A.length
 row:∀ j:Int,0≤j→j < A.length→R[(AM l j).toNat]? = some ((rowOf A j).map (AM l))
def KD (L:List (List Int)):Prop:=∀ x:Int,0≤x→x < L.length→Reach L 0 x
def uq (n:Nat) (k:Nat):List Int:=[(k:Int) - 1,(k:Int) + 1].filter fun x=>decide (0≤x) && decide (x < n)
def path (n:Nat):List (List Int):=(List.range n).map (uq n)
theorem wG {a b:TS} {D:Ends} {σ : St} {H:Hp} (Pv:St→Hp→Prop) (hb:∀ σ' H',Pv σ' H'→b D σ' H') (ha:∀ T:St→Hp→Prop,(∀ σ' H',Pv σ' H'→T σ' H')→a { D with nx:=T } σ H):wq a b D σ H:=ha _ hb
theorem gW {K:PySem.W.Frag} {t:TE} {σ : St} {H:Hp} {R:It→Hp→Prop} (h:t σ H fun x H1=>∃ a,x = .ref a∧(∃ xs,aO K H1 a xs)∧R (vg K a) H1):vN K t σ H R:=h
def JG (A B:List (List Int)):PyData:=.list [eG A,eG B]
end Gm
end
section
namespace L2
open PySem PySem.Spec PySem.W PySem.Calls PyProof.Rows HT
def Hm (K:Frag):R2:=fun x y H Q=>∃ (a b:Addr) (ns ms:List Int),x = .ref a∧y = .ref b∧aO K H a (ns.map V.int)∧aO K H b (ms.map V.int)∧Q (.bl (lexLt ms ns)) H
end L2
end
section
namespace L2
open PySem PySem.Spec PySem.W PySem.Calls PyProof.Rows Gm
section
variable {X:Cx}
theorem nV:∀ {ts:List Str} {aQ:List Value},Vals (ts.map V.str) aQ→∃ l:List (Str×Tok),aQ = strValues l∧l.map (·.1) = ts
 | [],_,.nil=>⟨[],rfl,rfl⟩
 | x :: ts,_,.cons r t=>by
  obtain ⟨l,rfl,e⟩:=nV (ts:=ts) t
  obtain ⟨u,rfl⟩:=r
  exact ⟨(x,u) :: l,rfl,by rw [List.map_cons,e]⟩
theorem jt:∀ (l:List (Str×Tok)),Vals ((l.map (·.1)).map V.str) (strValues l)
 | []=>.nil
 | p :: l=>.cons ⟨p.2,rfl⟩ (jt l)
def rJoin (K:Frag):V→List V→Hp→VK→Prop:=fun x vs H Q=>∃ (sep:Str) (a:Addr) (ts:List Str),x = .str sep∧vs = [.ref a]∧aO K H a (ts.map V.str)∧JoinOk sep ts = true∧Q (.str (Str.join sep ts)) H
theorem ox:Bh X "str.join" (rJoin X.K):=by
 intro pins s σ H x vs v us Q I rx rv h
 obtain ⟨sep,a,ts,rfl,rfl,hq,ok,q⟩:=h
 obtain ⟨t,rfl⟩:=rx
 obtain ⟨u,rfl,ru⟩:=vals1 rv
 cases ru
 obtain ⟨aQ,r,p,hz⟩:=I.list hq
 obtain ⟨l,rfl,e⟩:=nV r
 refine SC.join p.isList e ok fun t' k=>⟨.str (Str.join sep ts),H,I.tok _,⟨t',?_⟩,q⟩
 show Value.str (Builtin.Str.glued sep ts) t' = _
 rw [StrLaws.glued_eq_join]
def wL:V→List V→Hp→VK→Prop:=fun x vs H Q=>∃ (z y:Str),x = .str z∧vs = [.str y]∧(y.length == 0) = false∧z.length≤1000000∧(Builtin.Str.partsBetween z (Builtin.Str.occurrences z y 0 z.length (z.length + 1)) y.length).length≤sizeLine∧
 ∀ p,H p = none→Q (.ref p) (upd H p (.lst ((Txt.split z y).map V.str)))
theorem fS:Bh X "str.split" wL:=by
 intro pins s σ H x vs v us Q I rx rv h
 obtain ⟨z,y,rfl,rfl,hy,hz,hp,q⟩:=h
 obtain ⟨t,rfl⟩:=rx
 obtain ⟨u,rfl,w,rfl⟩:=vals1 rv
 have lay:∀ (l:List (Str×Tok)) (h':Heap) (tk:Nat),h' = s.heap.push { cls:=.type "list",data:=.seq (strValues l).toArray }→l.map (·.1) = Txt.split z y→(Txt.split z y).length≤sizeLine→EP X pins σ Q (.ref s.heap.objs.size) { s with heap:=h',toks:=tk }:=fun l h' tk eh e hl=>by
  subst eh
  refine ⟨.ref s.heap.objs.size,_,I.laid (t':=tk) (a:=s.heap.objs.size) (o:=.lst ((Txt.split z y).map V.str)) (fun _ _ q=>Heap.get?_push_of_some _ q) (Nat.le_refl _) ?_,rfl,q _ (I.bb.fresh (Nat.le_refl _))⟩
  exact ⟨by rw [List.length_map]; exact hl,strValues l,_,by rw [← e]; exact jt l,Heap.get?_push_size _ rfl⟩
 have hx:z.length≤sizeLine:=by rw [PySem.sizeLine_eq]; omega
 cases h1:(decide (z.length < y.length) || decide (Builtin.Str.strKind z < Builtin.Str.strKind y))
 ·cases hf:(Builtin.Str.occurrences z y 0 z.length (z.length + 1)).isEmpty
  ·have es:Txt.split z y = Builtin.Str.partsBetween z (Builtin.Str.occurrences z y 0 z.length (z.length + 1)) y.length:=(if_neg (ne_true_of_eq_false h1)).trans (if_neg (ne_true_of_eq_false hf))
   refine call_meets F.slot_str_split (typeIs_str _ _ _) F.entry_str_split (F.args_str_split_2 _ _) (meets_str_split_sep z y t w h1 hy hf hx hp) ?_
   rw [strsFrom_eq]
   exact lay (numbered s.toks _) _ _ rfl ((numbered_texts _ _).trans es.symm) (by rw [es]; exact hp)
  ·have es:Txt.split z y = [z]:=(if_neg (ne_true_of_eq_false h1)).trans (if_pos hf)
   exact call_meets F.slot_str_split (typeIs_str _ _ _) F.entry_str_split (F.args_str_split_2 _ _) (meets_str_split_not_found z y t w h1 hy hf) (lay [(z,t)] _ _ rfl es.symm (by rw [es,PySem.sizeLine_eq]; simp))
 ·have es:Txt.split z y = [z]:=if_pos h1
  exact call_meets F.slot_str_split (typeIs_str _ _ _) F.entry_str_split (F.args_str_split_2 _ _) (meets_str_split_cannot_occur z y t w h1) (lay [(z,t)] _ _ rfl es.symm (by rw [es,PySem.sizeLine_eq]; simp))
def yD (te:TE) (y:Str):TE:=fun σ H Q=>te σ H fun x H1=>∃ n:Int,x = .int n∧n.natAbs.log2 < 1920∧((toString n:String):Str).length + y.length≤1000000∧Q (.str (((toString n:String):Str) ++ y)) H1
theorem wV {e:Expr} {te:TE} {y:Str} {k:Nat} {p1 p2 pos:Pos} (he:PE X e te):PE X (.JoinedStr [.FormattedValue e (-1) none p1,.Constant (.str y) k p2] pos) (yD te y):=by
 intro pins s σ H Q I h
 refine JoinedStr_many (joinParts_cons ?_)
 refine FormattedValue_plain (cm (he pins s σ H _ I h) fun v s1 ⟨x,H1,I1,r1,n,ex,hn,hl,q⟩=>?_)
 subst ex
 obtain ⟨t,rfl⟩:=r1
 have e0:Str.empty ++ ((toString n:String):Str) = ((toString n:String):Str):=by
  apply Str.ext'
  apply Array.toList_inj.mp
  simp [Str.empty,Str.cps_append]
 refine wpAny_formatField_int hn ⟨?_,?_⟩
 ·rw [e0,PySem.sizeLine_eq]; omega
 ·rw [e0]
  refine joinParts_consE (joinParts_cons ?_)
  refine Calls.Constant_str ⟨?_,?_⟩
  ·rw [Str.length_append,PySem.sizeLine_eq]; omega
  ·exact joinParts_nilE (joinParts_nil ⟨.str _,H1,((I1.tok _).tok _).tok _,⟨_,rfl⟩,q⟩ (by rw [Str.length_append,PySem.sizeLine_eq]; omega))
end
def vY (x:Str):It:=⟨fun i _=>i < x.cps.size,fun i H v H'=>H' = H∧∃ c,x.cps[i]? = some c∧v = .str ⟨#[c]⟩,fun i _=>x.cps.size≤i⟩
theorem qz {P:Program} {w:World} {K:Frag} {tg:Expr} {it:Addr} {x:Str} {t:Tok}:Turn P w K tg (vY x) [it] it (fun i h=>h.IsStrIter it "str_ascii_iterator" x t i) where
 mem:=by simp
 obj:=fun i h st b hb=>by
  have e:b = it:=by simpa using hb
  subst e
  obtain ⟨o,e,c,d⟩:=st
  exact ⟨o,e,fun v z=>by rw [d] at z; cases z⟩
 keep:=fun i h h' st k=>let ⟨o,e,r⟩:=st; ⟨o,k it (by simp) o e,r⟩
 item:=by
  intro X hP hw hK hc i pins s σ H E I hf st hg
  subst hP hw hK
  have hg:i < x.cps.size:=hg
  obtain ⟨f0,f1,f2,f3,f4,f5⟩:=hf it (by simp)
  have hx:x.cps[i]? = some x.cps[i]:=by simp [hg]
  refine wpAny_pyNext_ascii_item st hx fun h' vx sb=>?_
  have I1:Inv X pins σ H { s with heap:=h',toks:=s.toks + 1 }:=I.turned (fun b o hb e=>(sb.2 b hb).trans e) f0 f1 f3 f4 f5
  obtain ⟨o',e',c',d'⟩:=id vx
  exact ⟨_,rfl,sJ (s:={ s with heap:=h',toks:=s.toks + 1 }) e' c' d' (by decide) ⟨.str ⟨#[x.cps[i]]⟩,H,I1,⟨_,rfl⟩,⟨rfl,_,hx,rfl⟩,vx,fun b hb=>(hf b hb).1⟩⟩
 done:=by
  intro X hP hw hK hc i pins s σ H E I hf st hg
  subst hP hw hK
  have hg:x.cps.size≤i:=hg
  obtain ⟨f0,f1,f2,f3,f4,f5⟩:=hf it (by simp)
  exact wpAny_pyNext_ascii_end (I.ok.hd hc) st (by simp; omega) fun h' eb=>⟨rfl,I.turned (t':=s.toks) (fun b o hb e=>eb b o hb e) f0 f1 f3 f4 f5⟩
 self:=fun _ _ _ _ _ st h=>wpAny_pyIter_striter_ascii st h
section
variable {X:Cx} {tg:Expr}
def C6 (tl:TE):TI:=fun σ H R=>tl σ H fun x H1=>∃ z:Str,x = .str z∧z.cps.all (· < 128) = true∧R (vY z) H1
theorem rO {l:Expr} {tl:TE} (hl:PE X l tl):PI X tg l (C6 tl):=by
 intro pins s σ H R I h
 refine cm (hl pins s σ H _ I h) fun v s1 ⟨x,H1,I1,r1,z,e,hz,q⟩=>?_
 subst e
 obtain ⟨t,rfl⟩:=r1
 refine wpAny_pyIter_ascii hz ?_
 refine ⟨s1.heap.objs.size,[s1.heap.objs.size],_,_,H1,rfl,I1.kept (t':=s1.toks) fun b o e=>Heap.get?_push_of_some _ e,qz (x:=z) (t:=t),⟨_,Heap.get?_push_size _ rfl,rfl,rfl⟩,fun b hb=>?_,q⟩
 have e:b = s1.heap.objs.size:=by simpa using hb
 subst e
 exact I1.sL (Nat.le_refl _) (I1.bb.fresh (Nat.le_refl _))
end
section
variable {σ : St} {H:Hp} {Q:VK} {K:Frag}
theorem tw {R:Hp→Prop} {acc:Addr} {x:Str} {g:TG} {tt:TT} {te:TE} (Pv:Nat→St→List V→Hp→Prop) (h0:Pv 0 σ [] H)
  (hs:∀ i c σ ys H,x.cps[i]? = some c→i < x.cps.size→Pv i σ ys H→g (.str ⟨#[c]⟩) σ H fun σ2 H4=>tt σ2 H4 fun b H5=>if b = true then te σ2 H5 fun y H6=>H6 acc = some (.lst ys)∧ys.length < sizeLine∧∃ m',m' < x.cps.size - i∧(m' = x.cps.size - (i + 1)∧i + 1≤x.cps.size∧Pv (i + 1) σ2 (ys ++ [y]) (upd H6 acc (.lst (ys ++ [y])))) else ∃ m',m' < x.cps.size - i∧(m' = x.cps.size - (i + 1)∧i + 1≤x.cps.size∧Pv (i + 1) σ2 ys H5))
  (hd:∀ σ ys H,Pv x.cps.size σ ys H→R H) :
  ∃ W:Nat→Nat→St→List V→Hp→Prop,(∃ m,W 0 m σ [] H)∧∀ i m σ' ys H2,W i m σ' ys H2→(((vY x).stop i H2∧R H2)∨((vY x).go i H2∧∀ v H3,(vY x).oR i H2 v H3→g v σ' H3 fun σ2 H4=>tt σ2 H4 fun b H5=>
   if b = true then te σ2 H5 fun y H6=>H6 acc = some (.lst ys)∧ys.length < sizeLine∧∃ m',m' < m∧W (i + 1) m' σ2 (ys ++ [y]) (upd H6 acc (.lst (ys ++ [y]))) else ∃ m',m' < m∧W (i + 1) m' σ2 ys H5)):=by
 refine ⟨fun i m σ ys H=>m = x.cps.size - i∧i≤x.cps.size∧Pv i σ ys H,⟨x.cps.size,by simp,Nat.zero_le _,h0⟩,?_⟩
 rintro i m σ ys H ⟨rfl,hi,p⟩
 by_cases cx:i < x.cps.size
 ·refine .inr ⟨cx,fun v H' y=>?_⟩
  obtain ⟨e,c,hc,rfl⟩:=y
  subst e
  exact hs i c σ ys _ hc cx p
 ·have e:i = x.cps.size:=by omega
  subst e
  exact .inl ⟨Nat.le_refl _,hd σ ys H p⟩
theorem p5 {R:Hp→Prop} {acc a:Addr} {xs:List V} {g:TG} {tt:TT} {te:TE} (Pv:Nat→St→List V→Hp→Prop) (h0:Pv 0 σ [] H) (hl:∀ i σ ys H,i≤xs.length→Pv i σ ys H→aO K H a xs)
  (hs:∀ i x p σ ys H,xs[i]? = some x→i < xs.length→Pv i σ ys H→H p = none→g (.ref p) σ (upd H p (.tup [.int i,x])) fun σ2 H4=>tt σ2 H4 fun b H5=>if b = true then te σ2 H5 fun y H6=>H6 acc = some (.lst ys)∧ys.length < sizeLine∧∃ m',m' < xs.length - i∧(m' = xs.length - (i + 1)∧i + 1≤xs.length∧Pv (i + 1) σ2 (ys ++ [y]) (upd H6 acc (.lst (ys ++ [y])))) else ∃ m',m' < xs.length - i∧(m' = xs.length - (i + 1)∧i + 1≤xs.length∧Pv (i + 1) σ2 ys H5))
  (hd:∀ σ ys H,Pv xs.length σ ys H→R H) :
  ∃ W:Nat→Nat→St→List V→Hp→Prop,(∃ m,W 0 m σ [] H)∧∀ i m σ' ys H2,W i m σ' ys H2→(((vh K a).stop i H2∧R H2)∨((vh K a).go i H2∧∀ v H3,(vh K a).oR i H2 v H3→g v σ' H3 fun σ2 H4=>tt σ2 H4 fun b H5=>
   if b = true then te σ2 H5 fun y H6=>H6 acc = some (.lst ys)∧ys.length < sizeLine∧∃ m',m' < m∧W (i + 1) m' σ2 (ys ++ [y]) (upd H6 acc (.lst (ys ++ [y]))) else ∃ m',m' < m∧W (i + 1) m' σ2 ys H5)):=by
 refine ⟨fun i m σ ys H=>m = xs.length - i∧i≤xs.length∧Pv i σ ys H,⟨xs.length,by simp,Nat.zero_le _,h0⟩,?_⟩
 rintro i m σ ys H ⟨rfl,hi,p⟩
 have q:=hl i σ ys H hi p
 by_cases cx:i < xs.length
 ·refine .inr ⟨⟨xs,xs[i],q,by simp [cx]⟩,fun v H' y=>?_⟩
  obtain ⟨r,y,hr,rfl,hy,rfl⟩:=y
  exact hs i y r σ ys H (hy xs q) cx p hr
 ·have e:i = xs.length:=by omega
  subst e
  exact .inl ⟨⟨xs,q,Nat.le_refl _⟩,hd σ ys H p⟩
end
end L2
end
section
namespace Gm
open PySem L2
theorem dh {a b:Str} (h:a.cps.toList = b.cps.toList):a = b:=Str.ext' (Array.toList_inj.mp h)
theorem bK (a b:Str):(a ++ b).cps.toList = a.cps.toList ++ b.cps.toList:=by rw [Str.cps_append,Array.toList_append]
def jl (s:List Nat):List (List Nat)→List Nat
 | []=>[]
 | [a]=>a
 | a :: b :: r=>a ++ s ++ jl s (b :: r)
theorem join_list (s:Str):∀ (ts:List Str),(Str.join s ts).cps.toList = jl s.cps.toList (ts.map fun t=>t.cps.toList)
 | []=>rfl
 | [a]=>rfl
 | a :: b :: r=>by
  show (a ++ s ++ Str.join s (b :: r)).cps.toList = _
  rw [bK,bK,join_list s (b :: r)]
  rfl
theorem lX {c:Nat}:∀ {a b x y:List Nat},c∉a→c∉b→a ++ c :: x = b ++ c :: y→a = b∧x = y
 | [],[],x,y,_,_,h=>⟨rfl,(List.cons.inj h).2⟩
 | [],b :: bs,x,y,_,hb,h=>by
  have:=(List.cons.inj h).1
  exact absurd (by rw [this]; exact List.mem_cons_self) hb
 | a :: as,[],x,y,ha,_,h=>by
  have:=(List.cons.inj h).1
  exact absurd (by rw [← this]; exact List.mem_cons_self) ha
 | a :: as,b :: bs,x,y,ha,hb,h=>by
  obtain ⟨h1,h2⟩:=List.cons.inj h
  obtain ⟨e,e2⟩:=lX (fun z=>ha (List.mem_cons_of_mem _ z)) (fun z=>hb (List.mem_cons_of_mem _ z)) h2
  exact ⟨by rw [h1,e],e2⟩
theorem sE {c:Nat}:∀ {ts us:List (List Nat)},ts≠[]→us≠[]→(∀ t∈ts,c∉t)→(∀ u∈us,c∉u)→jl [c] ts = jl [c] us→ts = us
 | [],_,h,_,_,_,_=>absurd rfl h
 | _,[],_,h,_,_,_=>absurd rfl h
 | [a],[b],_,_,_,_,h=>by rw [show a = b from h]
 | [a],b :: b2 :: r,_,_,ha,_,h=>by
  have h:a = b ++ [c] ++ jl [c] (b2 :: r):=h
  exact absurd (by rw [h]; simp) (ha a List.mem_cons_self)
 | a :: a2 :: r,[b],_,_,_,hb,h=>by
  have h:a ++ [c] ++ jl [c] (a2 :: r) = b:=h
  exact absurd (by rw [← h]; simp) (hb b List.mem_cons_self)
 | a :: a2 :: r,b :: b2 :: q,_,_,ha,hb,h=>by
  have h:a ++ [c] ++ jl [c] (a2 :: r) = b ++ [c] ++ jl [c] (b2 :: q):=h
  rw [List.append_assoc,List.append_assoc,List.singleton_append,List.singleton_append] at h
  obtain ⟨e1,e2⟩:=lX (ha a List.mem_cons_self) (hb b List.mem_cons_self) h
  rw [e1,sE (by simp) (by simp) (fun t ht=>ha t (List.mem_cons_of_mem _ ht)) (fun t ht=>hb t (List.mem_cons_of_mem _ ht)) e2]
theorem qJ (x y:Str):Txt.split x y≠[]:=by
 unfold Txt.split
 split
 ·simp
 ·split
  ·simp
  ·rw [StrLaws.partsBetween_eq]
   obtain ⟨p,r,e⟩:=StrLaws.partsFrom_ne x y.length 0 (Builtin.Str.occurrences x y 0 x.length (x.length + 1))
   rw [e]; simp
theorem mO {c:Nat} {ts:List Str} (h0:ts≠[]) (hf:∀ t∈ts,c∉t.cps.toList):Txt.split (Str.join ⟨#[c]⟩ ts) ⟨#[c]⟩ = ts:=by
 have e:=StrLaws.join_split (Str.join ⟨#[c]⟩ ts) ⟨#[c]⟩
 have e2:=congrArg (fun x:Str=>x.cps.toList) e
 simp only [join_list] at e2
 have:=sE (c:=c) (ts:=(Txt.split (Str.join ⟨#[c]⟩ ts) ⟨#[c]⟩).map fun t=>t.cps.toList) (us:=ts.map fun t=>t.cps.toList) (by simpa using qJ _ _) (by simpa using h0)
  (fun t ht=>by obtain ⟨p,hp,rfl⟩:=List.mem_map.mp ht; exact StrLaws.split_free _ c p hp) (fun t ht=>by obtain ⟨p,hp,rfl⟩:=List.mem_map.mp ht; exact hf p hp) e2
 refine List.map_inj_right (f:=fun t:Str=>t.cps.toList) (fun a b h=>dh h) |>.mp this
theorem eR (z y:Str):(Builtin.Str.partsBetween z (Builtin.Str.occurrences z y 0 z.length (z.length + 1)) y.length).length≤z.length + 2:=by
 have h:=StrLaws.occ_length_le z y 0 z.length (z.length + 1)
 unfold Builtin.Str.partsBetween
 simp
 omega
theorem oA {s:Str} {ts:List Str} (h1:ts.length≤1000) (h2:∀ t∈ts,t.length≤1000) (hs:s.length≤10):JoinOk s ts = true:=by
 have key:∀ (l:List Str) (n:Nat),(∀ t∈l,t.length≤1000)→l.foldl (fun a t=>a + t.length + s.length) n≤n + 1010 * l.length:=fun l=>by
  induction l with
  | nil=>intro n _; simp
  | cons a l ih=>
   intro n h
   rw [List.foldl_cons]
   have:=ih (n + a.length + s.length) fun t ht=>h t (List.mem_cons_of_mem _ ht)
   have:=h a List.mem_cons_self
   rw [List.length_cons]
   omega
 have:=key ts 0 h2
 unfold JoinOk Builtin.Str.tooLong
 rw [PySem.sizeLine_eq]
 simp
 omega
abbrev num (n:Int):Str:=((toString n:String):Str)
structure Num (x:Str):Prop where
 l1:1≤x.length
 l2:x.length≤2
 dg:∀ c∈x.cps.toList,48≤c∧c≤57
 hd:x = ((("0" : String)):Str)∨∃ c,x.cps[0]? = some c∧c≠48
theorem gn {n:Int} (h0:0≤n) (h1:n < 14):Num (num n):=by
 have:n = 0∨n = 1∨n = 2∨n = 3∨n = 4∨n = 5∨n = 6∨n = 7∨n = 8∨n = 9∨n = 10∨n = 11∨n = 12∨n = 13:=by omega
 rcases this with rfl | rfl | rfl | rfl | rfl | rfl | rfl | rfl | rfl | rfl | rfl | rfl | rfl | rfl
 ·exact ⟨by decide +kernel,by decide +kernel,by decide +kernel,.inl (by decide +kernel)⟩
 all_goals first
  | exact ⟨by decide +kernel,by decide +kernel,by decide +kernel,.inr ⟨49,by decide +kernel,by decide⟩⟩
  | exact ⟨by decide +kernel,by decide +kernel,by decide +kernel,.inr ⟨50,by decide +kernel,by decide⟩⟩
  | exact ⟨by decide +kernel,by decide +kernel,by decide +kernel,.inr ⟨51,by decide +kernel,by decide⟩⟩
  | exact ⟨by decide +kernel,by decide +kernel,by decide +kernel,.inr ⟨52,by decide +kernel,by decide⟩⟩
  | exact ⟨by decide +kernel,by decide +kernel,by decide +kernel,.inr ⟨53,by decide +kernel,by decide⟩⟩
  | exact ⟨by decide +kernel,by decide +kernel,by decide +kernel,.inr ⟨54,by decide +kernel,by decide⟩⟩
  | exact ⟨by decide +kernel,by decide +kernel,by decide +kernel,.inr ⟨55,by decide +kernel,by decide⟩⟩
  | exact ⟨by decide +kernel,by decide +kernel,by decide +kernel,.inr ⟨56,by decide +kernel,by decide⟩⟩
  | exact ⟨by decide +kernel,by decide +kernel,by decide +kernel,.inr ⟨57,by decide +kernel,by decide⟩⟩
end Gm
end
section
namespace Gm
open PySem L2
def LL (L:List (List Int)):Prop:=∀ d,Dt L d→∃ c,d∈c∧Bi (nx L) c∧(c.map (·.1)).Nodup
def seg (r:List Int) (s m:Nat):List bp:=(List.range m).map fun t=>dj r (s + t)
end Gm
end
section
namespace Gm
open PySem L2
section
variable {L N:List (List Int)} {r:List Int}
def KY (r:List Int) (n c1 cj:Nat) (d:bp):Prop:=(∃ i,cj≤i∧i < c1 + r.length∧d = dj r i)∨d = (cy r c1,(n:Int))∨d = ((n:Int),cy r cj)
def LO (L:List (List Int)) (r:List Int) (c1 cj:Nat) (M:List (List Int)):Prop:=∀ d,Dt M d→KY r L.length c1 cj d∨∃ c,d∈c∧Bi (nx M) c∧(c.map (·.1)).Nodup
end
end Gm
end
section
namespace Gm
open PySem L2
def tetra:List (List Int):=[[1,3,2],[2,3,0],[0,3,1],[2,0,1]]
def tetraR:List (List bp):=[[(0,1),(1,3),(3,0)],[(0,3),(3,2),(2,0)],[(0,2),(2,1),(1,0)],[(1,2),(2,3),(3,1)]]
end Gm
end
section
namespace Gm
open PySem L2
abbrev mC:Str:=((" " : String):Str)
abbrev mB:Str:=((":" : String):Str)
abbrev qG:Str:=(("\n" : String):Str)
abbrev t0:Str:=(("" : String):Str)
theorem hZ:mC = ⟨#[32]⟩:=by decide +kernel
theorem hW:mB = ⟨#[58]⟩:=by decide +kernel
theorem mL:qG = ⟨#[10]⟩:=by decide +kernel
theorem yF:t0 = ⟨#[]⟩:=by decide +kernel
def gK (k:Int) (l:List Int):Str:=Str.join mC ((num k ++ mB) :: l.map num)
def cU (L:List (List Int)):List Str:=L.mapIdx fun i l=>gK ((i:Nat):Int) l
def ji (L:List (List Int)):Str:=Str.join qG (cU L)
theorem mR (L:List (List Int)) (l:List Int):cU (L ++ [l]) = cU L ++ [gK (L.length:Nat) l]:=by
 unfold cU
 rw [List.mapIdx_append]
 simp
theorem eO (L:List (List Int)):(cU L).length = L.length:=by unfold cU; rw [List.length_mapIdx]
theorem qR (L:List (List Int)) (i:Nat):(cU L)[i]? = L[i]?.map (gK (i:Nat)):=by unfold cU; rw [List.getElem?_mapIdx]
theorem fU (s:Str) (c:Nat):∀ (ts:List Str),(∀ t∈ts,t.length≤c)→(Str.join s ts).length≤ts.length * (c + s.length)
 | [],_=>by show (Str.empty).length≤_; rw [show Str.empty.length = 0 from rfl]; omega
 | [a],h=>by
  have:=h a List.mem_cons_self
  show a.length≤_
  rw [List.length_singleton]
  omega
 | a :: b :: r,h=>by
  have h1:=h a List.mem_cons_self
  have h2:=fU s c (b :: r) fun t ht=>h t (List.mem_cons_of_mem _ ht)
  show (a ++ s ++ Str.join s (b :: r)).length≤_
  rw [Str.length_append,Str.length_append]
  rw [List.length_cons (a:=a),Nat.succ_mul]
  omega
theorem kz {s:List Nat} {c:Nat}:∀ {ts:List (List Nat)},c∈jl s ts→c∈s∨∃ t∈ts,c∈t
 | [],h=>by simp [jl] at h
 | [a],h=>.inr ⟨a,by simp,h⟩
 | a :: b :: r,h=>by
  have h:c∈a ++ s ++ jl s (b :: r):=h
  rcases List.mem_append.mp h with h | h
  ·rcases List.mem_append.mp h with h | h
   ·exact .inr ⟨a,by simp,h⟩
   ·exact .inl h
  ·rcases kz h with h | ⟨t,ht,h⟩
   ·exact .inl h
   ·exact .inr ⟨t,List.mem_cons_of_mem _ ht,h⟩
def t8 (l:List Int):Prop:=l.length≤14∧∀ x∈l,0≤x∧x < 14
theorem t8.num {l:List Int} (h:t8 l) {t:Str} (ht:t∈l.map Gm.num):Num t:=by
 obtain ⟨x,hx,rfl⟩:=List.mem_map.mp ht
 exact gn (h.2 x hx).1 (h.2 x hx).2
theorem pQ {k:Int} (h0:0≤k) (h1:k < 14) {c:Nat} (hc:c < 48):c∉(num k ++ mB).cps.toList:=by
 rw [bK,hW]
 intro z
 rcases List.mem_append.mp z with z | z
 ·have:=(gn h0 h1).dg c z; omega
 ·have:c = 58:=by simpa using z
  omega
theorem lS {k:Int} (h0:0≤k) (h1:k < 14):(num k ++ mB).length≤3:=by
 have:=(gn h0 h1).l2
 rw [Str.length_append,hW]
 show _ + 1≤3
 omega
theorem rW {k:Int} (h0:0≤k) (h1:k < 14) {l:List Int} (h:t8 l) {c:Nat} (hc:c < 48):∀ t∈(num k ++ mB) :: l.map num,c∉t.cps.toList:=by
 intro t ht
 rcases List.mem_cons.mp ht with rfl | ht
 ·exact pQ h0 h1 hc
 ·intro z
  have:=(h.num ht).dg c z
  omega
theorem lF {k:Int} (h0:0≤k) (h1:k < 14) {l:List Int} (h:t8 l):∀ t∈(num k ++ mB) :: l.map num,t.length≤3:=by
 intro t ht
 rcases List.mem_cons.mp ht with rfl | ht
 ·exact lS h0 h1
 ·have:=(h.num ht).l2; omega
theorem ug {k:Int} (h0:0≤k) (h1:k < 14) {l:List Int} (h:t8 l):(gK k l).length≤60:=by
 have q:=fU mC 3 _ (lF h0 h1 h)
 have e:mC.length = 1:=by decide +kernel
 have:=h.1
 rw [e,List.length_cons,List.length_map] at q
 unfold gK
 omega
theorem row_free {k:Int} (h0:0≤k) (h1:k < 14) {l:List Int} (h:t8 l):10∉(gK k l).cps.toList:=by
 unfold gK
 rw [join_list]
 intro z
 rcases kz z with z | ⟨t,ht,z⟩
 ·rw [hZ] at z
  simp at z
 ·obtain ⟨p,hp,rfl⟩:=List.mem_map.mp ht
  exact rW h0 h1 h (c:=10) (by omega) p hp z
structure Sm (L:List (List Int)):Prop where
 len:L.length≤14
 zP:∀ l∈L,t8 l
theorem Sm.row {L:List (List Int)} (s:Sm L) {t:Str} (ht:t∈cU L):∃ (i:Nat) (l:List Int),L[i]? = some l∧i < 14∧t8 l∧t = gK i l:=by
 obtain ⟨i,hi⟩:=List.mem_iff_getElem?.mp ht
 rw [qR] at hi
 cases e:L[i]? with
 | none=>rw [e] at hi; cases hi
 | some l=>
  rw [e] at hi
  have:=(List.getElem?_eq_some_iff.mp e).1
  exact ⟨i,l,e,by have:=s.len; omega,s.zP l (List.mem_of_getElem? e),(Option.some.inj hi).symm⟩
theorem ie {L:List (List Int)} (s:Sm L):∀ t∈cU L,t.length≤60:=by
 intro t ht
 obtain ⟨i,l,_,hi,hf,rfl⟩:=s.row ht
 exact ug (by omega) (by omega) hf
theorem sf {L:List (List Int)} (s:Sm L):JoinOk qG (cU L) = true:=
 oA (by rw [eO]; have:=s.len; omega) (fun t ht=>by have:=ie s t ht; omega) (by decide +kernel)
theorem sD:∀ (ts:List (List Nat)),jl [] ts = ts.flatten
 | []=>rfl
 | [a]=>by simp [jl]
 | a :: b :: r=>by
  show a ++ [] ++ jl [] (b :: r) = _
  rw [sD (b :: r)]
  simp
theorem oB {c:Nat}:∀ (ts:List (List Nat)) (a:List Nat),jl [c] (a :: ts) = a ++ (ts.map fun t=>[c] ++ t).flatten
 | [],a=>by simp [jl]
 | b :: r,a=>by
  show a ++ [c] ++ jl [c] (b :: r) = _
  rw [oB r b]
  simp
theorem wC (k:Int) (l:List Int):gK k l = (num k ++ mB) ++ Str.join t0 (l.map fun x=>mC ++ num x):=by
 refine dh ?_
 unfold gK
 rw [join_list,bK,join_list,hZ,yF,List.map_cons,oB,sD,List.map_map,List.map_map,List.map_map]
 congr 2
 refine List.map_congr_left fun x _=>?_
 show _ = (⟨#[32]⟩ ++ num x:Str).cps.toList
 rw [bK]
 rfl
theorem mF {l:List Int} (h:t8 l):JoinOk t0 (l.map fun x=>mC ++ num x) = true:=
 oA (by rw [List.length_map]; have:=h.1; omega) (fun t ht=>by
  obtain ⟨x,hx,rfl⟩:=List.mem_map.mp ht
  have:=(gn (h.2 x hx).1 (h.2 x hx).2).l2
  have e:mC.length = 1:=by decide +kernel
  rw [Str.length_append,e]
  omega) (by decide +kernel)
theorem oS {l:List Int} (h:t8 l):(Str.join t0 (l.map fun x=>mC ++ num x)).length≤100:=by
 have q:=fU t0 3 (l.map fun x=>mC ++ num x) fun t ht=>by
  obtain ⟨x,hx,rfl⟩:=List.mem_map.mp ht
  have:=(gn (h.2 x hx).1 (h.2 x hx).2).l2
  have e:mC.length = 1:=by decide +kernel
  rw [Str.length_append,e]
  omega
 have e:t0.length = 0:=by decide +kernel
 have:=h.1
 rw [e,List.length_map] at q
 omega
def mn (l:List Int):Int:=l.min?.getD 0
def lb (l:List Int):List Int:=AB l (l.idxOf (mn l))
theorem vy {L:List (List Int)} (m:iW L) (h:L.length≤14):Sm L:=⟨h,fun l hl=>by
 obtain ⟨i,hi⟩:=List.mem_iff_getElem?.mp hl
 have rg:=fun y hy=>m.rg _ _ hi y hy
 have:=gp (m.nd _ _ hi) fun y hy=>⟨(rg y hy).1,(rg y hy).2.1⟩
 exact ⟨by omega,fun x hx=>⟨(rg x hx).1,by have:=(rg x hx).2.1; omega⟩⟩⟩
theorem jI {n:Int} (h0:0≤n) (h1:n < 14):n.natAbs.log2 < 1920:=by
 have:n.natAbs < 2 ^ 4:=by omega
 by_cases z:n.natAbs = 0
 ·rw [z]; decide
 ·have:=(Nat.log2_lt z).mpr this
  omega
end Gm
end
section
namespace L2
open PySem PySem.Spec PySem.W PySem.Calls PyProof.Rows Gm
theorem kO:bootBuiltins "str" = some (.type "str"):=by decide +kernel
theorem tK:bootBuiltins "all" = some (.builtin "all"):=by decide +kernel
section
variable {X:Cx}
theorem rS {x:Str} {z:Str} {pos:Pos} (hg:Gl X x) (hm:∃ t,X.mg x = some (.str z t)) (hd:(x == ("__debug__" : Str)) = false:=by decide):PE X (.Name x pos) (tC (.str z)):=
 let ⟨_,h⟩:=hm; aZ hg h ⟨_,rfl⟩ hd
theorem rT {x:Str} {z:Int} {pos:Pos} (hg:Gl X x) (hm:∃ t,X.mg x = some (.int z t)) (hd:(x == ("__debug__" : Str)) = false:=by decide):PE X (.Name x pos) (tC (.int z)):=
 let ⟨_,h⟩:=hm; aZ hg h ⟨_,rfl⟩ hd
end
theorem C5 {c A B K:Prop} [Decidable c] (key:K) (h1:c→K→A) (h2:¬ c→K→B):if decide c = true then A else B:=if2 (fun z=>h1 z key) fun z=>h2 z key
theorem tq {x:V} {xs:List V}:nG (x :: xs) (some (1:Int)) none = xs:=by
 unfold nG HT.kW
 dsimp only
 rw [if_neg (by omega),show min ((1:Int).toNat) (x :: xs).length = 1 by rw [List.length_cons]; show min 1 _ = 1; omega,List.take_of_length_le (by rw [List.length_drop]; omega)]
 rfl
section
variable {K:Frag} {σ : St} {H:Hp} {Q:VK}
theorem rB {te:TE} {y:Str} (h:te σ H fun x H1=>∃ n:Int,x = .int n∧n.natAbs.log2 < 1920∧((toString n:String):Str).length + y.length≤1000000∧Q (.str (((toString n:String):Str) ++ y)) H1):yD te y σ H Q:=h
theorem rC {i j:Str} (q:Q (.bl (decide (i = j))) H):B5 (.str i) (.str j) H Q:=⟨rfl,by rw [hJ,Bool.beq_eq_decide_eq]; exact q⟩
theorem rk {i j:Str} (q:Q (.bl (!decide (i = j))) H):BZ (.str i) (.str j) H Q:=⟨rfl,by rw [hJ,Bool.beq_eq_decide_eq]; exact q⟩
theorem mV {a:Addr} {i:Nat} {x:V} {xs:List V} (h1 : σ[i]? = some (some (.ref a))) (hs:aO K H a (x :: xs)) (q:∀ p,H p = none→Q (.ref p) (upd H p (.lst xs))):Bp (yP K) (ud i) (qC (tC (.int 1))) j0 σ H Q:=
 ⟨_,h1,⟨_,rfl,⟨a,_,rfl,hs,fun p hp=>by rw [tq]; exact q p hp⟩⟩⟩
theorem n6 {ta:TA} {R:It→Hp→Prop} (h:ta σ H fun vs H1=>∃ a,vs = [.ref a]∧(∃ xs,aO K H1 a xs)∧R (vh K a) H1):vO K ta σ H R:=h
end
end L2
end
section
namespace L2
open PySem PySem.Spec PySem.W PySem.Calls PyProof.Rows
def qs (K:Frag) (C:Addr) (jm:List Value) (newId:String):Prop:=∀ {h:Heap},K.In h→
  ∃ bm N nm qn bs sn sub ab col dd k0 k1 k2 k3 k5,h.get? C = some (excClassObj nm qn C N bs bm true sn sub ab col dd k0 k1 k2 k3 k5 newId)∧OwnTail h jm bm∧clsIn K C = some ⟨nm,bs,.ref C :: bm,N,qn,true,sn,sub,ab,col,false⟩
theorem oE {K:Frag} {C M N:Addr} {nm qn:Str} {bs:List Value} {sn:List Str} {sub:List Value} {ab:Bool} {col:Option Bool} {dd:Option Addr} {k0 k1 k2 k3 k5:Option Value} {jm:List Value} {newId:String}
  (lk:K.lookup C = some (excClassObj nm qn C N bs (.ref M :: jm) true sn sub ab col dd k0 k1 k2 k3 k5 newId)) (lM:excIn K M jm newId = true):qs K C jm newId:=fun {h} X=>by
 obtain ⟨bm,N',Fn,K9,LJ,FQ,K5,yG,LK,JR,LH,Ln,Lm,Lk,Lj,Li,mN,hM,hN,AW,T⟩:=uO X lM
 refine ⟨.ref M :: jm,N,nm,qn,bs,sn,sub,ab,col,dd,k0,k1,k2,k3,k5,X _ _ lk,.own hM hN AW .base,?_⟩
 unfold clsIn
 rw [lk]
theorem Kt.yT {K:Frag} {h:Heap} (X:K.In h) (o o':Obj):K.In ((h.push o).push o'):=fun a ob e=>Heap.get?_push_of_some _ (Heap.get?_push_of_some _ (X a ob e))
abbrev newExc (C:Addr) (t:Addr):Obj:={ cls:=.ref C,data:=.fields #[.ref t,.none,.none,.none,.bool false,.none] }
section
variable {prog:Program} {w:World} {A:Around} {E:Value→Shared→Prop} {K:Frag} {C f:Addr} {Bn newId iH:String} {jm:List Value}
theorem kY {h:Heap} {g:Array GenState} {d:Drawn} {t:Nat} {os:OsState} {us:List Value} {Q:PySem.Fin→Shared→Prop} (FB:ExcBaseFacts Bn newId iH jm) (X:K.In h) (q:qs K C jm newId)
  (hi:findIn K (.ref C) "__init__" = some (some (.ref f))) (hf:typeIn K (.ref f) = some (.type "function")) (hz:us.length≤sizeLine)
  (hq:codeAny (model prog w) A (.call (.ref f) ⟨.ref (h.objs.size + 1) :: us,[]⟩) (fun r s'=>match r with | .ok (.ret v)=>v = .none∧Q (.done (.ret (.ref (h.objs.size + 1)))) s' | .ok _=>False | .error x=>E x s')
   ⟨(h.push { cls:=.type "tuple",data:=.seq us.toArray }).push (newExc C h.objs.size),g,d,t,os⟩) :
  wpAny (model prog w) A (Builtin.«type.__call__» ⟨.ref C :: us,[]⟩) Q E ⟨h,g,d,t,os⟩:=by
 obtain ⟨bm,N,nm,qn,bs,sn,sub,ab,col,dd,k0,k1,k2,k3,k5,hC,T,_⟩:=q X
 repeat (first | with_reducible refine wpAny_loadPart_at hC ?_ | with_reducible refine wpAny_madeBy_exc hC ?_ | wp_step)
 refine codeAny_call_builtin_code (Code.quiet_builtin _ FB.quiet) (wpAny_check_new_subT FB T hC (codeAny_exc_new_subT FB T hC ?_ hz))
 show wpAny _ _ _ _ _ _
 have hg:((h.push { cls:=.type "tuple",data:=.seq us.toArray }).push { cls:=.ref C,data:=.fields #[.ref h.objs.size,.none,.none,.none,.bool false,.none] }).get? (h.objs.size + 1) = some { cls:=.ref C,data:=.fields #[.ref h.objs.size,.none,.none,.none,.bool false,.none] }:=by
  have:=Heap.get?_push_size (h.push { cls:=.type "tuple",data:=.seq us.toArray }) (o:=newExc C h.objs.size) rfl
  rwa [Heap.size_push] at this
 have X1:=Kt.yT X { cls:=.type "tuple",data:=.seq us.toArray } (newExc C h.objs.size)
 have Jq:=Heap.get?_push_of_some { cls:=.ref C,data:=.fields #[.ref h.objs.size,.none,.none,.none,.bool false,.none] } (Heap.get?_push_of_some { cls:=.type "tuple",data:=.seq us.toArray } hC)
 have Jk:(Value.ref C :: bm).contains (.ref C) = true:=by simp
 unfold isInstance
 repeat (first | with_reducible refine wpAny_loadPart_at hg ?_ | (with_reducible refine wpAny_isSubtype_exc Jq ?_; rw [Jk]) | wp_step)
 show wpAny _ _ (typeLookup (.ref C) _) _ _ _
 refine (looks_findIn X1 hi).at ?_
 refine wpAny_holding (wpAny_bind ?_)
 unfold bindSpecial
 refine wpAny_bind ((looks_typeIn X1 hf).at ?_)
 rw [if_pos (by decide)]
 refine wpAny_pure (wpAny_bind (wpAny_call (codeAny_mono hq fun r s' z=>?_)))
 cases r with
 | error e=>exact z
 | ok fl=>
  cases fl with
  | ret v=>
   obtain ⟨rfl,z⟩:=z
   wp_walk
   exact z
  | next=>exact z
  | brk=>exact z
  | cont=>exact z
theorem sg {s:Shared} {us:List Value} {Q:Value→Shared→Prop} (FB:ExcBaseFacts Bn newId iH jm) (X:K.In s.heap) (q:qs K C jm newId) (hi:findIn K (.ref C) "__init__" = some (some (.ref f))) (hf:typeIn K (.ref f) = some (.type "function"))
  (hz:us.length≤sizeLine)
  (hq:codeAny (model prog w) (A.under (.builtin "type.__call__" ⟨.ref C :: us,[]⟩)) (.call (.ref f) ⟨.ref (s.heap.objs.size + 1) :: us,[]⟩) (fun r s'=>match r with | .ok (.ret v)=>v = .none∧Q (.ref (s.heap.objs.size + 1)) s' | .ok _=>False | .error x=>E x s')
   { s with heap:=(s.heap.push { cls:=.type "tuple",data:=.seq us.toArray }).push (newExc C s.heap.objs.size) }) :
  wpAny (model prog w) A (call (.ref C) us) Q E s:=by
 obtain ⟨h,g,d,t,os⟩:=s
 obtain ⟨bm,N,nm,qn,bs,sn,sub,ab,col,dd,k0,k1,k2,k3,k5,hC,T,_⟩:=q X
 have f1:=tc_lookup
 have f2:=tc_bind (.ref C)
 have hT:(⟨h,g,d,t,os⟩:Shared).TypeIs (.ref C) "type":=⟨_,hC,rfl⟩
 refine wpAny_call (codeAny_of_tree ?_)
 show wpAny _ _ (callAny (.ref C) _) _ _ _
 repeat (any_goals (first | assumption | with_reducible refine wpAny_loadPart_at hC ?_ | wp_step))
 refine ⟨rfl,codeAny_call_builtin_at (Code.quiet_builtin _ (by decide +kernel)) entry_typeCall (wpAny_check_type_call_sub hC (kY FB X q hi hf hz ?_))⟩
 exact hq
end
end L2
end
section
namespace L2
open PySem PySem.Spec PySem.W PySem.Calls PyProof.Rows Builtin Builtin.ObjectAttr
def gS (C:Addr) (D:Option Addr) (a:Addr) (h:Heap):Prop:=∃ ob vs,h.get? a = some ob∧ob.cls = .ref C∧ob.data = .fields vs∧vs.size = 6∧vs[1]? = some .none∧ob.dict = D
def cY (C:Addr) (D:Option Addr) (a:Addr):HO:=.ext (gS C D a)
theorem gS.d8 {C a:Addr} {D:Option Addr} {h h':Heap} (x:gS C D a h) (k:∀ o,h.get? a = some o→h'.get? a = some o):gS C D a h':=let ⟨o,vs,e,r⟩:=x; ⟨o,vs,k o e,r⟩
theorem kJ {P:Program} {w:World} {H:Hp} {h:Heap} {C a:Addr} {D:Option Addr} (x:gS C D a h):bu P w H h a (cY C D a):=
 ⟨x,let ⟨o,_,e,_⟩:=x; ⟨o,e⟩,fun _ _ y k=>y.d8 k⟩
theorem g9 {P:Program} {w:World} {H:Hp} {h:Heap} {C a:Addr} {D:Option Addr} (hk:fz P w H h) (e:H a = some (cY C D a)):gS C D a h:=(hk a _ e).1
theorem gS.d {C a:Addr} {D:Option Addr} {h:Heap} (x:gS C D a h):gT C D a h:=let ⟨o,vs,h1,h2,h3,_,_,h4⟩:=x; ⟨o,h1,h2,by unfold notCls; rw [h3],h4⟩
section
variable {prog:Program} {w:World} {A:Around} {E:Value→Shared→Prop} {K:Frag} {C a:Addr} {Bn newId iH:String} {jm:List Value}
theorem qj {s:Shared} {D:Option Addr} {rest:List Value} {Q:Value→Shared→Prop} (FB:ExcBaseFacts Bn newId iH jm) (X:K.In s.heap) (q:qs K C jm newId) (e:gS C D a s.heap) (hz:rest.length≤sizeLine)
  (h:∀ h',gS C D a h'→(∀ b o,b≠a→s.heap.get? b = some o→h'.get? b = some o)→Q .none { s with heap:=h' }):wpAny (model prog w) A (call (.builtin iH) (.ref a :: rest)) Q E s:=by
 obtain ⟨hp,g,d,t,os⟩:=s
 obtain ⟨bm,N,nm,qn,bs,sn,sub,ab,col,dd,k0,k1,k2,k3,k5,hC,T,_⟩:=q X
 obtain ⟨ob,vs,he,hc,hd,hs,h1,hD⟩:=e
 refine wpAny_call (codeAny_call_builtin FB.init.plain FB.initEntry (wpAny_check_init_subT FB T hC he hc ?_))
 unfold Builtin.«BaseException.__init__»
 dsimp only
 rw [if_neg (by simp)]
 unfold newTuple Builtin.BaseException.bexcPut
 have e1:=Heap.get?_push_of_some (h:=hp) { cls:=.type "tuple",data:=.seq rest.toArray } he
 have h0:vs[0]? = some (vs[0]'(by omega)):=Array.getElem?_eq_getElem (by omega)
 refine wpAny_bind (wpAny_newObj_type (wpAny_bind (wpAny_bind (wpAny_field e1 hd h0 (wpAny_bind (wpAny_setField e1 hd (by omega) ?_))))) (by show rest.toArray.size≤sizeLine; rw [List.size_toArray]; exact hz))
 have fin:Q .none ⟨(hp.push { cls:=.type "tuple",data:=.seq rest.toArray }).update a (Obj.mapFields (·.setIfInBounds 0 (Value.ref hp.objs.size))),g,d,t,os⟩:=?_
 ·split
  ·exact wpAny_letGo (wpAny_pure fin)
  ·exact wpAny_pure (wpAny_pure fin)
 refine h _ ?_ fun b o hb eo=>?_
 ·have d2:=Obj.data_mapFields hd (·.setIfInBounds 0 (Value.ref hp.objs.size))
  have e2:=Heap.get?_update_self (Obj.mapFields (·.setIfInBounds 0 (Value.ref hp.objs.size))) e1 (Obj.isFreed_of_fields d2)
  refine ⟨_,_,e2,(Obj.cls_mapFields _ _).trans hc,d2,by rw [Array.size_setIfInBounds]; exact hs,by rw [Array.getElem?_setIfInBounds_ne (by decide)]; exact h1,?_⟩
  rw [← hD]
  cases ob with | mk c d dt sl=>cases dt <;> rfl
 ·rw [Heap.get?_update_other _ _ (Ne.symm hb)]
  exact Heap.get?_push_of_some _ eo
theorem lr {h:Heap} {bm:List Value} {self:Value} (T:OwnTail h jm bm) (hp:refuseLoop self "__setattr__" jm = pure ()):refuseLoop self "__setattr__" bm = pure ():=by
 induction T with
 | base=>exact hp
 | own _ _ _ _ ih=>rw [refuseLoop_ref]; exact ih
theorem uf {s:Shared} {name:Str} {v:Value} {Q:Unit→Shared→Prop} (X:K.In s.heap) (q:qs K C jm newId) (pass:∀ self,refuseLoop self "__setattr__" jm = pure ()) (e:gS C none a s.heap)
  (hs:findIn K (.ref C) "__setattr__" = some (some (.builtin "object.__setattr__"))) (zw:mroIn K C (.type "object") = some true) (ha:findIn K (.ref C) name = some none)
  (h:∀ h' tk,gS C (some s.heap.objs.size) a h'→h'.Ns1 s.heap.objs.size (fun y=>if y = name then some v else none)→(∀ b o,b≠a→s.heap.get? b = some o→h'.get? b = some o)→Q () { s with heap:=h',toks:=tk }) :
  wpAny (model prog w) A (setAttr (.ref a) name v) Q E s:=by
 obtain ⟨bm,N,nm,qn,bs,sn,sub,ab,col,dd,k0,k1,k2,k3,k5,hC,T,FT⟩:=q X
 obtain ⟨ob,vs,he,hc,hd,hz,h1,hD⟩:=e
 have I:InstAt s.heap a ob C none:=⟨he,hc,by unfold notCls; rw [hd],by rw [hD]; trivial⟩
 have SF:=PySem.F.store_object
 refine set_plain X I hs ?_
 have yG:Looks (model prog w) s.heap (isInstance (.ref a) (.type "object")) true:=I.type.andThen (looks_mroIn X zw)
 refine codeAny_call_builtin SF.slot.plain SF.entry (@check_slot (model prog w) _ _ { s with toks:=s.toks + 1 } "object.__setattr__" "object" "__setattr__" (.ref a) [.str name s.toks,v] [] _ SF.kind SF.split yG (SF.args (.ref a) (.str name s.toks) v) ?_)
 have hm:Looks (model prog w) s.heap (mroOf (.ref C)) (.ref C :: bm):=(looks_clsIn X FT).andThen .now
 rw [osa_eq,refuse_eq]
 refine wpAny_bind (wpAny_bind (I.type.here (s:={ s with toks:=s.toks + 1 }) (wpAny_bind (hm.here (s:={ s with toks:=s.toks + 1 }) ?_))))
 rw [refuseLoop_ref,lr T (pass _)]
 refine wpAny_pure (wpAny_bind (I.type.here (s:={ s with toks:=s.toks + 1 }) (wpAny_bind ((looks_findIn X ha).here (s:={ s with toks:=s.toks + 1 }) (wpAny_bind (wpAny_pure ?_))))))
 dsimp only
 unfold storeInOwnDict ownStreamTells
 refine wpAny_bind (wpAny_pure ?_)
 have Fn:¬ (Value.ref C == Value.type "module") = true:=fun z=>by cases beq_iff_eq.mp z
 rw [if_neg Fn]
 unfold ownDictForStores instanceDict
 dsimp only
 refine wpAny_bind (wpAny_bind (wpAny_loadPart he ?_))
 rw [hc]
 dsimp only
 refine wpAny_bind ((looks_clsIn X FT).here (s:={ s with toks:=s.toks + 1 }) ?_)
 dsimp only
 rw [hD]
 dsimp only
 have ty:¬ (!true || !typeHasDict (Value.ref C)) = true:=by simp [typeHasDict]
 rw [if_neg (show ¬ (!true) = true by decide),if_neg ty,hd]
 dsimp only
 refine wpAny_bind (wpAny_alloc' ?_)
 have FO:(s.heap.push { cls:=.type "dict",data:=.dict #[] }).get? a = some ob:=Heap.get?_push_of_some _ he
 have FA:a≠s.heap.objs.size:=Nat.ne_of_lt (Heap.lt_size he)
 refine wpAny_bind (wpAny_update' FO ?_)
 unfold dictMade
 refine wpAny_pure ?_
 have Jd:((s.heap.push { cls:=.type "dict",data:=.dict #[] }).update a fun o=>{ cls:=o.cls,dict:=some s.heap.objs.size,data:=o.data,slots:=o.slots }).get? s.heap.objs.size = some { cls:=.type "dict",data:=.dict #[] }:=
  (Heap.get?_update_ne _ _ _ _ FA.symm).trans (Heap.get?_push_at rfl rfl)
 have IV:((s.heap.push { cls:=.type "dict",data:=.dict #[] }).update a fun o=>{ cls:=o.cls,dict:=some s.heap.objs.size,data:=o.data,slots:=o.slots }).Ns s.heap.objs.size (fun _=>none):=
  ⟨_,#[],_,Jd,rfl,fun e he=>absurd he (by simp),fun _=>rfl⟩
 dsimp only
 unfold storeInDict newKeyGuard
 refine wpAny_bind (wpAny_pure (wpAny_bind (wpAny_nsSet1 (Heap.Ns1.of_empty IV) fun h' x9 FC=>?_)))
 obtain ⟨oD,LF,LG,IU,Dv,uJ⟩:=x9.count (Within.cons name v Within.nil)
 refine wpAny_bind (wpAny_lookBehind IU (by rw [Dv]; exact pastItsLine_dict (Nat.le_trans uJ (by rw [List.length_cons,List.length_nil,sizeLine_eq]; omega))) ?_)
 refine wpAny_pure ?_
 refine h h' _ ⟨{ ob with dict:=some s.heap.objs.size },vs,(FC.2 a FA).trans (Heap.get?_update_self _ FO ?_),hc,hd,hz,h1,rfl⟩ x9 fun b o hb eb=>?_
 ·exact Obj.isFreed_of_fields hd
 ·exact (FC.2 b (Nat.ne_of_lt (Heap.lt_size eb))).trans ((Heap.get?_update_ne _ _ _ _ hb).trans (Heap.get?_push_of_some _ eb))
end
end L2
end
section
namespace L2
open PySem PySem.Spec PySem.W PySem.Calls PyProof.Rows Builtin Builtin.ObjectAttr
section
variable {prog:Program} {w:World} {A:Around} {E:Value→Shared→Prop} {s:Shared} {K:Frag} {x C d:Addr} {name:Str} {v:Value}
theorem uU {h:Heap} {mA:Str→Option Value} (e:gT C (some d) x h) (n:h.Ns1 d mA):∃ ob od,InstAt h x ob C (some od)∧lookIn name od = some (mA name):=by
 obtain ⟨ob,h1,h2,h3,h4⟩:=e
 obtain ⟨od,ho,hl⟩:=jH n
 exact ⟨ob,od,⟨h1,h2,h3,by rw [h4]; exact ho⟩,hl name⟩
theorem sQ {tk:Tok} {ob:Obj} {od:Option Obj} {Q:PySem.Fin→Shared→Prop} (X:K.In s.heap) (I:InstAt s.heap x ob C od) (hf:findObj K C od name = some (.value v)) (hq:Q (.done (.ret v)) s) :
  wpAny (model prog w) A (Builtin.«object.__getattribute__» ⟨[.ref x,.str name tk],[]⟩) Q E s:=by
 obtain ⟨hh,g,dd,t,os⟩:=s
 have k0:=I.type (M:=model prog w)
 have k1:=looks_find (M:=model prog w) X I hf
 repeat (any_goals (first | assumption | with_reducible refine Looks.at (by assumption) ?_ | wp_step))
theorem uL {expr:Bool} {mA:Str→Option Value} {Q:Value→Shared→Prop} (X:K.In s.heap) (e:gT C (some d) x s.heap) (n:s.heap.Ns1 d mA) (c:dq K C) (hd:hasDictIn K C = true) (ha:findIn K (.ref C) name = some none) (hv:mA name = some v) (hh:handedIn v = true)
  (h:Q v { s with toks:=s.toks + 1 }):wpAny (model prog w) A (getAttr (.ref x) name expr) Q E s:=by
 obtain ⟨ob,od,I,hl⟩:=uU (name:=name) e n
 have ht:=I.type (M:=model prog w)
 have hf:findObj K C (some od) name = some (.value v):=findObj_own hd ha rfl (by rw [hl,hv])
 have hk:Looks (model prog w) s.heap (hookBefore (.ref C)) none:=looks_hook X (by rw [if_pos (by rfl)]; exact c.FL)
 refine wpAny_bind (wpAny_mkText (wpAny_holding (wpAny_bind (ht _ _ _ _ (fun _ _ e=>e) (wpAny_bind (looks_findIn X c.FN _ _ _ _ (fun _ _ e=>e) ?_))))))
 dsimp only
 have b1:(Value.builtin "BaseException.__getattribute__" == Value.builtin "object.__getattribute__") = false:=by decide +kernel
 rw [show (onTheHeap (Value.ref C) && Value.builtin "BaseException.__getattribute__" == Value.builtin "object.__getattribute__") = false by rw [b1,Bool.and_false],if_neg (by decide)]
 refine wpAny_bind (hk _ _ _ _ (fun _ _ e=>e) (wpAny_bind (wpAny_attempt (wpAny_holding ?_))))
 unfold callGetattribute
 rw [show (expr && onTheHeap (Value.builtin "BaseException.__getattribute__")) = false from Bool.and_false _,if_neg (by decide)]
 unfold boundAndCalled
 rw [F.attr_ValueError.ga.bind]
 refine wpAny_bind (wpAny_pure ?_)
 show wpAny _ _ (call (.builtin "BaseException.__getattribute__") [.ref x,.str name s.toks]) _ _ _
 refine wpAny_call (codeAny_call_builtin F.attr_ValueError.ga.plain F.entry_bexc_ga (ma (s:={ s with toks:=s.toks + 1 }) X e.at c.AX (sQ (s:={ s with toks:=s.toks + 1 }) X I hf ?_)))
 show wpAny _ _ (handedOut v) _ _ _
 rw [handedOut_of hh]
 exact wpAny_pure h
end
end L2
end
section
namespace L2
open PySem PySem.Spec PySem.W PySem.Calls PyProof.Rows
abbrev EM:List Value:=[.type "ValueError",.type "Exception",.type "BaseException",.type "object"]
theorem we {H:Hp} {a:Addr} {o:HO} (h:H a = some o):upd H a o = H:=by
 funext b
 unfold upd
 split
 ·rename_i e; rw [e,h]
 ·rfl
structure mv (K:Frag) (C B f:Addr) (attr:Str):Prop where
 q:qs K C EM "ValueError.__new__"
 init:findIn K (.ref C) "__init__" = some (some (.ref f))
 fn:typeIn K (.ref f) = some (.type "function")
 kp:keepIn K (.ref C) = true
 sa:findIn K (.ref C) "__setattr__" = some (some (.builtin "object.__setattr__"))
 ob:mroIn K C (.type "object") = some true
 no:findIn K (.ref C) attr = some none
 hd:hasDictIn K C = true
 br:readsIn K B (.type "type") = true
 bg:specialIn K (.ref B) "__getattribute__" = some (some (.builtin "type.__getattribute__"))
 bf:findCls K (.ref B) (.type "type") "__init__" = some (.val (.builtin "ValueError.__init__"))
section
variable {X:Cx} {C B f:Addr} {attr:Str} {pins:List (Addr×Obj)} {σ : St} {H:Hp} {s:Shared}
def qF (C:Addr) (ta:TA):TE:=fun σ H Q=>ta σ H fun vs H1=>∃ a D v,vs = [.ref a,v]∧H1 a = some (cY C D a)∧Q .bS H1
theorem lE {pl:Sem Bool} {bn:Str} {p apos pos:Pos} {e:Expr} {es:List Expr} {t:TA} (c:mv X.K C B f attr) (hm:X.mg bn = some (.ref B)) (ha:PA X (e :: es) t) (hg:Gl X bn:=by rfl) (kC:(bn == ("__debug__" : Str)) = false:=by decide)
  (zm:starEach (e :: es) X.env = (false,eval e X.env) :: starEach es X.env:=by rfl) (i7:(backTo pos (starEach es X.env)).any (·.1) = false:=by rfl)
  (ht:eval (.Call (.Attribute (.Name bn p) "__init__" apos) (e :: es) [] pos) X.env = (do
   let ov ← eval (.Name bn p) X.env
   standAt apos.atName
   let (f,first) ← holding [ov] (getMethod ov "__init__" pl)
   callWith pos f first (backTo pos (starEach (e :: es) X.env)) (backToKw pos (keywordEach [] X.env))):=by rfl) :
  PE X (.Call (.Attribute (.Name bn p) "__init__" apos) (e :: es) [] pos) (qF C t):=by
 intro pins s σ H Q I h
 refine PySem.W.methodCall_KW (pl:=pl) (dI I hg hm ?_ kC) ht
 refine method_cls I.ft c.bg (cls_value (mc:=.type "type") I.ft c.br c.bf rfl ?_)
 have I1:=I.tok (s.toks + 1)
 refine PyProof.Rows.callWith_builtin1 (cm (ha pos pins _ σ H _ I1 h) fun us s2 ⟨vs,H2,I2,r,a,D,v,ev,hx,q⟩=>?_) zm i7
 subst ev
 obtain ⟨u1,u2,rfl,r1,r2⟩:=vals2 r
 cases r1
 refine qj PySem.F.excBase_ValueError I2.ft c.q (g9 I2.bb hx) (by rw [sizeLine_eq]; simp) fun h' e' k'=>?_
 have J:=I2.write (x:=a) (e:=a) (o:=cY C D a) (t':=s2.toks) (by rw [hx]; exact True.intro) (.inl rfl) (fun b u hb z=>k' b u hb z) (let ⟨o,_,z,_⟩:=e'; ⟨o,z⟩) (kJ e')
 rw [we hx] at J
 exact ⟨.bS,H2,J,rfl,q⟩
def vA (C:Addr) (attr:Str) (ta tv:TE):TS:=fun D σ H=>tv σ H fun y H1=>ta σ H1 fun x H2=>∃ a,x = .ref a∧H2 a = some (cY C none a)∧∀ d,H2 d = none→d≠a→D.nx σ (upd (upd H2 a (cY C (some d) a)) d (.xd [(attr,y)]))
theorem Inv.lt' (I:Inv X pins σ H s) {b:Addr} {o:Obj} (e:s.heap.get? b = some o):s.heap.objs.size≠b:=fun z=>absurd (Heap.lt_size e) (by rw [z]; exact Nat.lt_irrefl _)
theorem og {o value:Expr} {pos pos':Pos} {ta tv:TE} (c:mv X.K C B f attr) (ha:PE X o ta) (hv:PE X value tv) (hs:swapsWith value (some (.Attribute o attr pos')) pos.line X.env = pure false) :
  PS X (.Assign [.Attribute o attr pos'] value pos) (vA C attr ta tv):=by
 intro pins s σ H D I h
 refine plainObj_wpAny_Assign_Attribute (cm (hv pins s σ H _ I h) fun u s1 ⟨y,H1,I1,ry,q⟩=>cm (ha pins s1 σ H1 _ I1 q) fun ov s2 ⟨x,H2,I2,rx,a,ex,ea,q2⟩=>?_) hs
 subst ex
 obtain rfl:ov = Value.ref a:=rx
 have en:=g9 I2.bb ea
 have la:a < s2.heap.objs.size:=let ⟨o,_,z,_⟩:=en; Heap.lt_size z
 have dn:H2 s2.heap.objs.size = none:=I2.bb.fresh (Nat.le_refl _)
 refine uf I2.ft c.q PySem.F.store_ValueError.passes en c.sa c.ob c.no fun h' tk e' n' k'=>?_
 have J:=I2.write (x:=a) (e:=a) (o:=cY C (some s2.heap.objs.size) a) (t':=tk) (by rw [ea]; exact True.intro) (.inl rfl) (fun b u hb z=>k' b u hb z) (let ⟨o,_,z,_⟩:=e'; ⟨o,z⟩) (kJ e')
 have nd:s2.heap.objs.size≠a:=Nat.ne_of_gt la
 refine ⟨σ,_,Inv.vj (a:=s2.heap.objs.size) (o:=.xd [(attr,y)]) J (by rw [aq nd]; exact dn) ⟨_,n',fun g=>?_⟩ (Heap.get?_none_of_le I2.sz) ?_ (fun y c e=>?_) fun p hp=>?_,q2 _ dn nd⟩
 ·show mx (List.lookup g [(attr,y)]) (if g = attr then some u else none)
  by_cases z:g = attr
  ·rw [if_pos z,z]
   simp [List.lookup]
   exact ry
  ·have:(g == attr) = false:=beq_false_of_ne z
   rw [if_neg z]
   simp [List.lookup,this]
   trivial
 ·obtain ⟨m,⟨o,_,_,ho,_⟩,_⟩:=I2.loc
  exact I2.lt' ho
 ·obtain ⟨v,o,ho,_⟩:=I2.cell y c e
  exact (I2.lt' ho).symm
 ·exact (I2.lt' (I2.pin p hp).1).symm
end
end L2
end
section
namespace L2
open PySem PySem.Spec PySem.W PySem.Calls PyProof.Rows
def del (H:Hp) (a:Addr):Hp:=fun b=>if b = a then none else H b
theorem eF {H:Hp} {a b:Addr} (h:b≠a):del H a b = H b:=if_neg h
theorem iN {H:Hp} {a:Addr}:del H a a = none:=if_pos rfl
section
variable {X:Cx} {C B f:Addr} {attr:Str} {pins:List (Addr×Obj)} {σ : St} {H:Hp} {s:Shared}
theorem Inv.drop {a:Addr} {φ : Heap→Prop} (I:Inv X pins σ H s) (e:H a = some (.ext φ)):Inv X pins σ (del H a) s:=by
 have ne:∀ {b:Addr} {o:HO},H b = some o→(∀ ψ,o≠.ext ψ)→b≠a:=fun h1 h2 z=>by
  rw [z,e] at h1
  exact h2 _ (Option.some.inj h1).symm
 have no:∀ {b:Addr},H b = none→del H a b = none:=fun {b} h=>by
  by_cases z:b = a
  ·rw [z]; exact iN
  ·rw [eF z]; exact h
 refine ⟨I.ok,I.os,I.bare,⟨I.base.keep,I.base.slot,fun b u e' n hx=>no (I.base.free b u e' n hx),I.base.there,fun b xs e'=>?_,fun b u v e'=>?_,fun b ps e'=>?_⟩,I.loc,I.cell,no I.free,fun x c e'=>no (I.cK x c e'),fun p hp=>?_,fun b u e'=>?_,I.len⟩
 ·have z:=I.base.gF b xs e'
  rw [eF (ne z fun ψ q=>by cases q)]; exact z
 ·have z:=I.base.gs b u v e'
  rw [eF (ne z fun ψ q=>by cases q)]; exact z
 ·obtain ⟨m,z⟩:=I.base.gH b ps e'
  exact ⟨m,by rw [eF (ne z fun ψ q=>by cases q)]; exact z⟩
 ·obtain ⟨e1,n,r⟩:=I.pin p hp
  exact ⟨e1,no n,r⟩
 ·by_cases hb:b = a
  ·rw [hb,iN] at e'; cases e'
  ·rw [eF hb] at e'
   refine (I.bb b u e').d8 (fun c v _ q=>q) (fun c q=>?_) fun c xs q=>?_
   ·rw [eF (ne q fun ψ z=>by cases z)]; exact q
   ·rw [eF (ne q fun ψ z=>by cases z)]; exact q
theorem pB {E:XK} {E':Value→Shared→Prop} {e:Addr} {oe:Obj} {vs:Array Value} {a0:Value} (I:Inv X pins σ H s) (hb:Body X) (hn:H e = none) (f0:X.s₀.heap.get? e = none)
  (he:s.heap.get? e = some oe) (hd:oe.data = .fields vs) (h1:vs[1]? = some .none) (h0:vs[0]? = some a0) (q:E oe.cls oe.dict H) :
  wpAny (model X.prog X.w) X.A (leaving X.env (.ref e)) (fun _ o6=>bP X.prog X.w X.outer X.H₀ X.s₀ E (.ref e) o6) E' s:=by
 have Ja:∀ env∈X.stack,∀ b,env.frame = some b→b∈e :: dy X.stack:=fun env he b hb=>List.mem_cons_of_mem _ (List.mem_filterMap.mpr ⟨env,he,hb⟩)
 have AY:(hideAll s.heap (e :: dy X.stack)).StaysIn s.heap:=fun b o q=>of_hideAll _ q
 have kX:X.A.frames = some (X.env :: X.outer):=by rw [← hb.j6]; exact I.ok.frames
 have hl:s.heap.FunFrames (hideAll s.heap (e :: dy X.stack)) (X.env :: X.outer):=by rw [← hb.j6]; exact funFrames_hide I.stack Ja
 have cv:∀ {b o},s.heap.get? b = some o→b∉e :: dy X.stack→(hideAll s.heap (e :: dy X.stack)).get? b = some o:=fun e n=>hideAll_get _ e n
 have AZ:(hideAll s.heap (e :: dy X.stack)).get? e = none:=hideAll_none _ List.mem_cons_self
 refine jj (base:=hideAll s.heap (e :: dy X.stack)) kX hl hb.fr he AY AZ hd h1 h0 fun h2 kH up dc=>?_
 have c0:i6 (hideAll s.heap (e :: dy X.stack)) (dy X.stack) X.s₀.heap:=fun b o e' n=>by
  obtain ⟨o',z⟩:=I.base.there b o e' (by rw [hb.ex]; simp)
  refine ⟨o',cv z fun m=>?_⟩
  rcases List.mem_cons.mp m with m | m
  ·rw [m,f0] at e'; cases e'
  ·exact n m
 have ct:∀ b o,H b = some o→∃ ob,(hideAll s.heap (e :: dy X.stack)).get? b = some ob:=fun b o e'=>by
  obtain ⟨ob,z⟩:=(I.bb b o e').there
  refine ⟨ob,cv z fun m=>?_⟩
  rcases List.mem_cons.mp m with m | m
  ·rw [m,hn] at e'; cases e'
  ·rw [I.j5 b m] at e'; cases e'
 have J:Inv X [] σ H { s with heap:=h2,toks:=s.toks }:=Inv.iM (I.fJ fun p hp=>by cases hp) hb.ex AY kH.1 c0 ct (fun p hp=>by rw [hb.pn] at hp; cases hp) up
 refine ⟨e,oe.cls,oe.dict,H,rfl,⟨J.os,J.bare,?_,J.bb,⟨_,_,kH,?_,ct⟩,hn,f0,dc⟩,q⟩
 ·have:=J.base
  rw [hb.ex] at this
  exact this
 ·intro b o e' n
  refine c0 b o e' fun m=>?_
  rw [hb.j6] at m
  unfold dy at m
  rw [List.filterMap_cons,hb.fr] at m
  rcases List.mem_cons.mp m with z | z
  ·exact absurd (Nat.lt_of_lt_of_le (Heap.lt_size e') I.ok.above) (by rw [z]; exact Nat.lt_irrefl _)
  ·exact n z
def fE (C:Addr) (attr:Str):Sp:=fun vs H Q _=>∃ a v,vs = [.ref a,v]∧H a = some (cY C none a)∧∀ d,H d = none→d≠a→Q .bS (upd (upd H a (cY C (some d) a)) d (.xd [(attr,v)]))
theorem jA {CX:js} {k:Nat} {fd:FuncData} {ps:List Str} {us:List Value} {v:V} {Q:VK} (c:mv X.K C B f attr) (F:fA X.prog X.w X.K X.mg X.base CX k f fd ps (fE C attr)) (hr:cu (k + 1) X.A) (hb:Binds X.K fd ps [])
  (hx:Passes CX X E0) (I:Inv X pins σ H s) (r:Vals [v] us)
  (h:∀ a d,s.heap.objs.size≤a→H a = none→H d = none→d≠a→Q (.ref a) (upd (upd H a (cY C (some d) a)) d (.xd [(attr,v)]))) :
  wpAny (model X.prog X.w) X.A (call (.ref C) us) (EP X pins σ Q) X.xe s:=by
 have hz:us.length≤sizeLine:=by rw [← r.length,sizeLine_eq]; simp
 have hg:((s.heap.push { cls:=.type "tuple",data:=.seq us.toArray }).push (newExc C s.heap.objs.size)).get? (s.heap.objs.size + 1) = some (newExc C s.heap.objs.size):=by
  have:=Heap.get?_push_size (s.heap.push { cls:=.type "tuple",data:=.seq us.toArray }) (o:=newExc C s.heap.objs.size) rfl
  rwa [Heap.size_push] at this
 have I2:Inv X pins σ (upd H (s.heap.objs.size + 1) (cY C none (s.heap.objs.size + 1))) { s with heap:=(s.heap.push { cls:=.type "tuple",data:=.seq us.toArray }).push (newExc C s.heap.objs.size) }:=
  I.laid (t':=s.toks) (fun b u q=>Heap.get?_push_of_some _ (Heap.get?_push_of_some _ q)) (Nat.le_succ _) (kJ ⟨_,_,hg,rfl,rfl,rfl,rfl,rfl⟩)
 have an:H (s.heap.objs.size + 1) = none:=I.bb.fresh (Nat.le_succ _)
 have hq:fE C attr [.ref (s.heap.objs.size + 1),v] (upd H (s.heap.objs.size + 1) (cY C none (s.heap.objs.size + 1))) (fun w H2=>w = .bS∧Q (.ref (s.heap.objs.size + 1)) H2) E0:=
  ⟨_,v,rfl,ak,fun d hd nd=>⟨rfl,by rw [ua]; rw [aq nd] at hd; exact h _ d (Nat.le_succ _) an hd nd⟩⟩
 have r2:Vals [V.ref (s.heap.objs.size + 1),v] (Value.ref (s.heap.objs.size + 1) :: us):=.cons rfl r
 have hl:(Value.ref (s.heap.objs.size + 1) :: us ++ []).length = ps.length:=by
  rw [List.append_nil,← r2.length]
  exact F.len _ _ _ _ hq
 have tX:=hb { s with heap:=(s.heap.push { cls:=.type "tuple",data:=.seq us.toArray }).push (newExc C s.heap.objs.size) } (Value.ref (s.heap.objs.size + 1) :: us) I2.ft hl
 rw [List.append_nil] at tX
 refine sg PySem.F.excBase_ValueError I.ft c.q c.init c.fn hz (codeAny_mono (F.run _ X.stack _ _ ⟨Value.ref (s.heap.objs.size + 1) :: us,[]⟩ (Value.ref (s.heap.objs.size + 1) :: us) _ _ E0 (hr.make C us []) (I2.xM.make C us []) tX r2 hq) fun rr s' zq=>?_)
 cases rr with
 | error e=>exact hx pins σ _ _ e s' I2 zq
 | ok fl=>
  cases fl with
  | ret u=>
   obtain ⟨w',H',I3,rv,ev,q3⟩:=I2.after zq
   subst ev
   exact ⟨rv,⟨V.ref (s.heap.objs.size + 1),H',I3,rfl,q3⟩⟩
  | next=>exact False.elim zq
  | brk=>exact False.elim zq
  | cont=>exact False.elim zq
end
end L2
end
section
namespace L2
open PySem PySem.Spec PySem.W PySem.Calls PyProof.Rows
structure xZ (P:Program) (w:World) (K:Frag) (mg:Str→Option Value) (base:Heap) (CX:js) (k:Nat) (C B:Addr) (attr:Str) (ps:List Str):Prop where
 ex:∃ f fd,mv K C B f attr∧fA P w K mg base CX k f fd ps (fE C attr)∧Binds K fd ps []
section
variable {X:Cx} {C B f:Addr} {attr:Str}
def yv (C:Addr) (attr:Str) (ta:TA):TE:=fun σ H Q=>ta σ H fun vs H1=>∃ v,vs = [v]∧∀ a d,H1 a = none→H1 d = none→d≠a→Q (.ref a) (upd (upd H1 a (cY C (some d) a)) d (.xd [(attr,v)]))
theorem wU {CX:js} {k j:Nat} {ps:List Str} {x:Str} {p pos:Pos} {e:Expr} {es:List Expr} {t:TA} (N:xZ X.prog X.w X.K X.mg X.base CX k C B attr ps) (hr:cu j X.A) (hm:X.mg x = some (.ref C)) (hx:Passes CX X E0)
  (ha:PA X (e :: es) t) (hk:k + 1≤j:=by decide) (hg:Gl X x:=by rfl) (kC:(x == ("__debug__" : Str)) = false:=by decide) (he:starEach (e :: es) X.env = (false,eval e X.env) :: starEach es X.env:=by rfl) (i7:(backTo pos (starEach es X.env)).any (·.1) = false:=by rfl) :
  PE X (.Call (.Name x p) (e :: es) [] pos) (yv C attr t):=by
 intro pins s σ H Q I h
 obtain ⟨f,fd,c,F,hb⟩:=N.ex
 refine wpAny_Call_Name_kw (dI I hg hm ?_ kC)
 refine PySem.W.callWith_K (h₀:=X.base) I.ok.mod.xi c.kp (cm (ha pos pins s σ H _ I h) fun us s1 ⟨vs,H1,I1,r,v,ev,q⟩=>⟨I1.ft,?_⟩) he i7
 subst ev
 exact jA c F (hr.mono hk) hb hx I1 r fun a d _=>q a d
def nU (Ex:XK) (C:Addr) (attr:Str) (ta:TA):TS:=fun _ σ H=>ta σ H fun vs H1=>∃ v,vs = [v]∧∀ d,H1 d = none→Ex (.ref C) (some d) (upd H1 d (.xd [(attr,v)]))
theorem o9 {M:Model} {A:Around} {E:Value→Shared→Prop} {env:Env} {s:Shared} {x:Sem Value} {Q:Flow→Shared→Prop} {nm q:Str} {N:Addr} {bs bm:List Value} {hdct:Bool} {sn:List Str} {sub:List Value} {ab:Bool} {col:Option Bool} {dd:Option Addr} {k0 k1 k2 k3 k5:Option Value} {newId:String}
  (lU:bm.contains (.type "BaseException") = true) (hh:A.handled = none)
  (h:wpAny M A x (fun v s₁=>∃ e oe vs,v = .ref e∧s₁.heap.get? C = some (excClassObj nm q C N bs bm hdct sn sub ab col dd k0 k1 k2 k3 k5 newId)∧s₁.heap.get? e = some oe∧oe.cls = .ref C∧oe.data = .fields vs∧vs[1]? = some .none∧E (.ref e) s₁) E s) :
  wpAny M A (raiseStmt env (some x) none) Q E s:=by
 have Jl:(Value.ref C :: bm).contains (.type "BaseException") = true:=by rw [List.contains_cons,lU,Bool.or_true]
 unfold raiseStmt
 refine wpAny_bind (wpAny_mono h (fun v s₁ h₁=>?_) fun _ _ x=>x)
 obtain ⟨e,⟨oc,od,Fm,oq⟩,vs,rfl,hC,he,hc,hd,h1,hE⟩:=h₁
 dsimp only at hc hd
 subst hc hd
 obtain ⟨hp,g,d,tk,os⟩:=s₁
 have hf:∀ {Q':Value→Shared→Prop},Q' .none ⟨hp,g,d,tk,os⟩→wpAny M A (field (.ref e) 1) Q' E ⟨hp,g,d,tk,os⟩:=fun q=>wpAny_field he rfl h1 q
 repeat (first | with_reducible refine hf ?_ | with_reducible refine wpAny_loadPart_at he ?_ | with_reducible refine wpAny_loadPart_at hC ?_ | (with_reducible refine wpAny_isSubtype_exc hC ?_; rw [Jl]) | wp_step)
 exact wpAny_raiseNew_none hh hE
end
end L2
end
section
namespace L2
open PySem PySem.Spec PySem.W PySem.Calls PyProof.Rows
section
variable {X:Cx} {C B f:Addr} {attr:Str}
theorem jB {CX:js} {k j:Nat} {ps:List Str} {x:Str} {np df pos:Pos} {e:Expr} {es:List Expr} {ta:TA} {Ex:XK} (N:xZ X.prog X.w X.K X.mg X.base CX k C B attr ps) (hr:cu j X.A) (hm:X.mg x = some (.ref C)) (IE:Passes CX X E0)
  (hc:X.calm = true) (ha:PA X (e :: es) ta)
  (hx:∀ pins s σ H a oe vs a0,Inv X pins σ H s→H a = none→X.s₀.heap.get? a = none→s.heap.get? a = some oe→oe.cls = .ref C→oe.data = .fields vs→vs[1]? = some .none→vs[0]? = some a0→Ex (.ref C) oe.dict H→X.xe (.ref a) s)
  (hk:k + 1≤j:=by decide) (hg:Gl X x:=by rfl) (kC:(x == ("__debug__" : Str)) = false:=by decide) (he:starEach (e :: es) X.env = (false,eval e X.env) :: starEach es X.env:=by rfl) (i7:(backTo df (starEach es X.env)).any (·.1) = false:=by rfl) :
  PS X (.Raise (some (.Call (.Name x np) (e :: es) [] df)) none pos) (nU Ex C attr ta):=by
 intro pins s σ H D I h
 obtain ⟨f,fd,c,F,hb⟩:=N.ex
 obtain ⟨bm,Nn,nm,qn,bs,sn,sub,ab,col,dd,k0,k1,k2,k3,k5,hC,T,_⟩:=c.q I.ok.mod.xi
 have lU:bm.contains (.type "BaseException") = true:=T.hasType PySem.F.excBase_ValueError.hasBase
 have key:wpAny (model X.prog X.w) X.A (eval (.Call (.Name x np) (e :: es) [] df) X.env) (fun v s₁=>∃ a oe vs,v = .ref a∧s₁.heap.get? C = some (excClassObj nm qn C Nn bs bm true sn sub ab col dd k0 k1 k2 k3 k5 "ValueError.__new__")∧s₁.heap.get? a = some oe∧oe.cls = .ref C∧oe.data = .fields vs∧vs[1]? = some .none∧X.xe (.ref a) s₁) X.xe s:=by
  refine wpAny_Call_Name_kw (dI I hg hm ?_ kC)
  refine PySem.W.callWith_K (h₀:=X.base) I.ok.mod.xi c.kp (cm (ha df pins s σ H _ I h) fun us s1 ⟨vs,H1,I1,r,v,ev,q⟩=>⟨I1.ft,?_⟩) he i7
  subst ev
  refine cm (jA (Q:=fun w H2=>∃ a d,w = .ref a∧s1.heap.objs.size≤a∧H1 a = none∧H1 d = none∧d≠a∧H2 = upd (upd H1 a (cY C (some d) a)) d (.xd [(attr,v)])) c F (hr.mono hk) hb IE I1 r fun a d h1 h2 h3 h4=>⟨a,d,rfl,h1,h2,h3,h4,rfl⟩) fun w s3 ⟨w',H2,I3,BU,a,d,ew,xF,gZ,Jo,Dy,eH⟩=>?_
  subst ew eH
  cases BU
  have ex:upd (upd H1 a (cY C (some d) a)) d (.xd [(attr,v)]) a = some (cY C (some d) a):=by rw [aq (Ne.symm Dy)]; exact ak
  obtain ⟨oe,ws,g1,g2,g3,g4,g5,g6⟩:=g9 I3.bb ex
  have J:=I3.drop ex
  have ed:del (upd (upd H1 a (cY C (some d) a)) d (.xd [(attr,v)])) a = upd H1 d (.xd [(attr,v)]):=by
   funext b
   by_cases z:b = a
   ·rw [z,iN,aq (Ne.symm Dy),gZ]
   ·rw [eF z]
    by_cases y:b = d
    ·rw [y,ak,ak]
    ·rw [aq y,aq y,aq z]
  rw [ed] at J
  have hn:upd H1 d (.xd [(attr,v)]) a = none:=by rw [aq (Ne.symm Dy)]; exact gZ
  have w0:ws[0]? = some (ws[0]'(by omega)):=Array.getElem?_eq_getElem (by omega)
  exact ⟨a,oe,ws,rfl,I3.bk _ _ hC,g1,g2,g3,g5,hx pins s3 σ _ a oe ws _ J hn (Heap.get?_none_of_le (Nat.le_trans I1.sz xF)) g1 g2 g3 g5 w0 (by rw [g6]; exact q d Jo)⟩
 rw [arm_exec_Raise]
 exact wpAny_bind (wpAny_standAt (o9 (C:=C) (nm:=nm) (q:=qn) (N:=Nn) (bs:=bs) (bm:=bm) (hdct:=true) (sn:=sn) (sub:=sub) (ab:=ab) (col:=col) (dd:=dd) (k0:=k0) (k1:=k1) (k2:=k2) (k3:=k3) (k5:=k5) (newId:= "ValueError.__new__") lU (I.ok.hd hc)
  (wpAny_bind (wpAny_mono key (fun v s₃ h₃=>wpAny_bind (wpAny_standAt (wpAny_pure h₃))) fun _ _ x=>x))))
theorem qW {P:Program} {w:World} {K:Frag} {mg:Str→Option Value} {base:Heap} {N:List Str} {qual:Str} {scope:Scope} {f:Addr} {cd:Value} {A:Around} {outer:List Env} {s0:Shared} {H0:Hp} {E:XK} {C:Addr} :
  ∀ pins s σ H a oe vs a0,Inv (eI (bP P w) P w K mg base N qual scope f cd A outer s0 H0 E) pins σ H s→H a = none→(eI (bP P w) P w K mg base N qual scope f cd A outer s0 H0 E).s₀.heap.get? a = none→s.heap.get? a = some oe→oe.cls = .ref C→oe.data = .fields vs→vs[1]? = some .none→vs[0]? = some a0→E (.ref C) oe.dict H→
   (eI (bP P w) P w K mg base N qual scope f cd A outer s0 H0 E).xe (.ref a) s:=fun pins s σ H a oe vs a0 I hn f0 he hc hd h1 h0 q=>pB I kP hn f0 he hd h1 h0 (by rw [hc]; exact q)
def yi (K:Frag) (ta:TE) (attr:Str):TE:=fun σ H Q=>ta σ H fun x H1=>∃ a C d fs v,x = .ref a∧(H1 a = some (dM C (some d) a)∨H1 a = some (cY C (some d) a))∧H1 d = some (.xd fs)∧dq K C∧hasDictIn K C = true∧findIn K (.ref C) attr = some none∧fs.lookup attr = some v∧Q v H1
theorem iu {e:Expr} {ta:TE} {pos:Pos} (he:PE X e ta) (hb:attributeBase e attr X.env (eval e X.env) = eval e X.env):PE X (.Attribute e attr pos) (yi X.K ta attr):=by
 intro pins s σ H Q I h
 refine vb hb (cm (he pins s σ H _ I h) fun u s1 ⟨x,H1,I1,rx,a,C,d,fs,v,ex,ea,hd,c,hh,hf,l,q⟩=>?_)
 subst ex
 obtain rfl:u = Value.ref a:=rx
 have ed:gT C (some d) a s1.heap:=by
  rcases ea with ea | ea
  ·exact oF I1.bb ea
  ·exact (g9 I1.bb ea).d
 obtain ⟨mA,n,r⟩:=(show ∃ mA,s1.heap.Ns1 d mA∧∀ f,mx (fs.lookup f) (mA f) from I1.bb d _ hd)
 obtain ⟨u,hu,ru⟩:=mx.some_of (v:=v) (o:=mA attr) (by rw [← l]; exact r attr)
 exact uL I1.ft ed n c hh hf hu (pR ru) ⟨v,H1,I1.tok _,ru,q⟩
end
end L2
end
section
namespace L2
open PySem PySem.Spec PySem.W PySem.Calls PyProof.Rows
section
variable {P:Program} {w:World} {K:PySem.W.Frag} {mg:Str→Option Value} {base:Heap}
theorem tV.Fj {x qual:Str} {st:Stmt} {f:Addr} {fd:FuncData} {N ps:List Str} {k:Nat} {sp:Sp} (F:tV K x qual st f fd) (S:aG N ps (ah st)) (len:∀ vs H Q E,sp vs H Q E→vs.length = ps.length)
  (fV:∀ (ck:Value) (A:Around) (outer:List Env) (s:Shared) (H:Hp) (vs:List V) (Q:VK) (E:XK),cu k (A.deeper (envOfC qual (ah st) s.heap.objs.size f ck))→sp vs H Q E→
   ∃ t,my (eI (bP P w) P w K mg base N qual (ah st) f ck A outer s H E).r9 (aD st) t∧t { nx:=fun _ H'=>Q .bS H',rt:=Q } (start N vs) H):fA P w K mg base (bP P w) (k + 1) f fd ps sp:=by
 obtain ⟨oc,od,kV,doc,pm,an,ck,ct,oq,rfl,lk,lT⟩:=F.ex
 refine oC lk lT S len fun A outer s H vs Q E hr jJ=>?_
 obtain ⟨t,h,q⟩:=fV ck A outer s H vs Q E hr jJ
 exact ⟨t,h.r9,q⟩
end
def vM (s:Stmt) (j:Nat):Stmt:=match s with
 | .ClassDef _ _ _ b _ _ _ _ _ _ _=>b.getD j (.Pass ⟨0,0,0,0⟩)
 | _=>s
section
variable {σ : St} {H:Hp} {Q:VK}
theorem kj {C:Addr} {ta:TA} (h:ta σ H fun vs H1=>∃ a D v,vs = [.ref a,v]∧H1 a = some (cY C D a)∧Q .bS H1):qF C ta σ H Q:=h
theorem mS {C:Addr} {attr:Str} {ta tv:TE} {D:Ends} (h:tv σ H fun y H1=>ta σ H1 fun x H2=>∃ a,x = .ref a∧H2 a = some (cY C none a)∧∀ d,H2 d = none→d≠a→D.nx σ (upd (upd H2 a (cY C (some d) a)) d (.xd [(attr,y)]))):vA C attr ta tv D σ H:=h
theorem rp {C:Addr} {attr:Str} {ta:TA} (h:ta σ H fun vs H1=>∃ v,vs = [v]∧∀ a d,H1 a = none→H1 d = none→d≠a→Q (.ref a) (upd (upd H1 a (cY C (some d) a)) d (.xd [(attr,v)]))):yv C attr ta σ H Q:=h
theorem ig {Ex:XK} {C:Addr} {attr:Str} {ta:TA} {D:Ends} (h:ta σ H fun vs H1=>∃ v,vs = [v]∧∀ d,H1 d = none→Ex (.ref C) (some d) (upd H1 d (.xd [(attr,v)]))):nU Ex C attr ta D σ H:=h
theorem qX {K:Frag} {ta:TE} {attr:Str} (h:ta σ H fun x H1=>∃ a C d fs v,x = .ref a∧(H1 a = some (dM C (some d) a)∨H1 a = some (cY C (some d) a))∧H1 d = some (.xd fs)∧dq K C∧hasDictIn K C = true∧findIn K (.ref C) attr = some none∧fs.lookup attr = some v∧Q v H1):yi K ta attr σ H Q:=h
end
end L2
end
section
namespace L2
open PySem PySem.Spec PySem.W PySem.Calls PyProof.Rows
def vZ (B:Heap) (l:List Env) (e:Addr) (cls a0:Value) (h:Heap):Prop:=B.StaysIn h∧B.get? e = none∧h.FunFrames B l∧∃ fl,h.TracedAtW B e cls a0 fl
theorem uw {env env':Env} (h:env.frame = env'.frame) (e:Value):noteFrame e env = noteFrame e env':=by
 unfold noteFrame PySem.frameOf
 rw [h]
section
variable {M:Model} {A:Around} {E:Value→Shared→Prop} {s:Shared} {B:Heap} {env:Env} {outer l:List Env} {L e:Addr} {cls a0:Value} {D:Option Addr} {Q:Unit→Shared→Prop}
theorem lY {h h' B':Heap} (k:∀ b∈dy l,h'.get? b = h.get? b) (kb:∀ b,B.get? b = none→B'.get? b = none) (f:h.FunFrames B l):h'.FunFrames B' l:=by
 induction l with
 | nil=>trivial
 | cons x r ih=>
  obtain ⟨f1,⟨L,o,f2,f3,f4,f5⟩,f6⟩:=f
  have hm:L∈dy (x :: r):=by unfold dy; rw [List.filterMap_cons,f2]; exact List.mem_cons_self
  refine ⟨f1,⟨L,o,f2,kb L f3,(k L hm).trans f4,f5⟩,ih (fun b hb=>k b ?_) f6⟩
  unfold dy
  rw [List.filterMap_cons,f2]
  exact List.mem_cons_of_mem _ hb
theorem xI (hh:vZ B l e cls a0 s.heap) (f:Option Addr) (hQ:∀ h',vZ B l e cls a0 h'→s.heap.UpToSlots h'→Q () { s with heap:=h' }):wpAny M A (setFlight (.ref e) f) Q E s:=by
 obtain ⟨k1,k2,k3,fl,oe,vs,T,oT,ts,e1,e2,e3,e4,t0,te,t1,t2,t3⟩:=hh
 have z3:3 < ts.size:=(Array.getElem?_eq_some_iff.mp t3).1
 have ur:∀ b,b≠T→(s.heap.update T (Obj.mapFields (·.setIfInBounds 3 (f.elim Value.none fun g=>rawInt g)))).get? b = s.heap.get? b:=fun b hb=>Heap.get?_update_other _ _ (Ne.symm hb)
 have nT:∀ b o,s.heap.get? b = some o→(∀ vs,o.data≠.fields vs)→b≠T:=fun b o hb hn z=>by
  subst z
  rw [t1] at hb
  cases hb
  exact hn ts t2
 have self:=Heap.get?_update_self (Obj.mapFields (·.setIfInBounds 3 (f.elim Value.none fun g=>rawInt g))) t1 (Obj.isFreed_of_fields (Obj.data_mapFields t2 _))
 unfold setFlight
 refine wpAny_bind (wpAny_field e1 e3 e4 ?_)
 rw [if_pos (by simp)]
 refine wpAny_setField t1 t2 z3 (hQ _ ⟨fun b o hb=>?_,k2,k3.of_keeps (fun b o hb hn=>⟨o,(ur b (nT b o hb hn)).trans hb,rfl⟩),f.elim Value.none fun g=>rawInt g,oe,vs,T,_,_,(ur e (Ne.symm te)).trans e1,e2,e3,e4,t0,te,self,Obj.data_mapFields t2 _,by simp [z3]⟩ fun b o hb hn=>⟨o.slots,(ur b (nT b o hb hn)).trans hb⟩)
 exact (ur b fun z=>by rw [z,t0] at hb; cases hb).trans (k1 b o hb)
theorem pV (kX:A.frames = some (env :: outer)) (hf:env.frame = some L) (hh:vZ B (env :: outer) e cls a0 s.heap)
  (hQ:∀ h',Heap.FlyingW B outer e cls a0 h'→s.heap.UpToSlots h'→Q () { s with heap:=h' }):wpAny M A (leaving env (.ref e)) Q E s:=by
 obtain ⟨k1,k2,k3,fl,tr⟩:=hh
 by_cases q:fl = rawInt L
 ·subst q
  unfold leaving
  refine wpAny_bind (wpAny_noteFrame_againW hf tr (wpAny_landsW ⟨k1,k2,k3,tr⟩ fun h' zC up=>?_))
  obtain ⟨j1,j2,⟨_,_,j3⟩,j4⟩:=zC
  exact hQ h' ⟨j1,j2,j3,j4⟩ up
 ·obtain ⟨oe,vs,T,oT,ts,e1,⟨e2,e0⟩,e3,e4,t0,te,t1,t2,t3⟩:=tr
  subst e2
  have z3:3 < ts.size:=(Array.getElem?_eq_some_iff.mp t3).1
  unfold leaving noteFrame
  simp only [hf]
  refine wpAny_bind (wpAny_bind (wpAny_field e1 e3 e4 ?_))
  rw [if_pos (by simp)]
  refine wpAny_bind (wpAny_field t1 t2 t3 ?_)
  rw [if_neg (by simpa using q)]
  refine wpAny_bind (wpAny_setField t1 t2 z3 ?_)
  have ur:∀ b,b≠T→(s.heap.update T (Obj.mapFields (·.setIfInBounds 3 Value.none))).get? b = s.heap.get? b:=fun b hb=>Heap.get?_update_other _ _ (Ne.symm hb)
  have nT:∀ b o,s.heap.get? b = some o→(∀ vs,o.data≠.fields vs)→b≠T:=fun b o hb hn z=>by
   subst z
   rw [t1] at hb
   cases hb
   exact hn ts t2
  refine wpAny_newEntryW kX (k3.of_keeps fun b o hb hn=>⟨o,(ur b (nT b o hb hn)).trans hb,rfl⟩) hf ((ur e (Ne.symm te)).trans e1) (fun b o hb=>?_) k2 e3 (Array.getElem?_eq_some_iff.mp e4).1 e0 fun h' ⟨x1,x2,x3,x4⟩=>hQ h' ⟨x1,k2,x2.2.2,x3⟩ fun b o hb hn=>x4 b o ((ur b (nT b o hb hn)).trans hb) hn
  exact (ur b fun z=>by rw [z,t0] at hb; cases hb).trans (k1 b o hb)
theorem sO (kX:A.frames = some (env :: outer)) (hf:env.frame = some L) (hh:vZ B (env :: outer) e cls a0 s.heap) (dc:Kd.Dc e D s.heap)
  (hQ:∀ h',Heap.FlyingW B outer e cls a0 h'→s.heap.UpToSlots h'→Kd.Dc e D h'→Q () { s with heap:=h' }):wpAny M A (leaving env (.ref e)) Q E s:=
 wpAny_mono (Kd.fq (Kd.fo _ _) dc (pV (Q:=fun _ s'=>∃ h',s' = { s with heap:=h' }∧Heap.FlyingW B outer e cls a0 h'∧s.heap.UpToSlots h') kX hf hh fun h' f u=>⟨h',rfl,f,u⟩))
  (fun _ s' ⟨⟨h',q,f,u⟩,d⟩=>by subst q; exact hQ h' f u d) fun _ _ z=>z.1
theorem pU {wb:String} {gv:Env} {X:Value→Shared→Prop} {Q:Value→Shared→Prop} (hh:vZ B l e cls a0 s.heap) (dc:Kd.Dc e D s.heap)
  (hQ:∀ h',vZ B l e cls a0 h'→s.heap.UpToSlots h'→Kd.Dc e D h'→X (.ref e) { s with heap:=h' }):wpAny M A (PySem.passOn wb (.ref e) gv:Sem Value) Q X s:=by
 obtain ⟨_,_,_,fl,oe,vs,T,oT,ts,e1,e2,e3,e4,_⟩:=id hh
 have key:wpAny M A (setFlight (.ref e) gv.frame) (fun _ s'=>X (.ref e) s') X s:=
  wpAny_mono (Kd.fq (Kd.cM _ _) dc (xI (E:=X) (Q:=fun _ s'=>∃ h',s' = { s with heap:=h' }∧vZ B l e cls a0 h'∧s.heap.UpToSlots h') hh gv.frame fun h' f u=>⟨h',rfl,f,u⟩))
   (fun _ s' ⟨⟨h',q,f,u⟩,d⟩=>by subst q; exact hQ h' f u d) fun _ _ z=>z.1
 unfold PySem.passOn
 refine wpAny_bind (wpAny_field e1 e3 e4 ?_)
 rw [if_neg (show ¬ ((Value.ref T == Value.none) = true) by simp)]
 first
  | exact wpAny_bind (wpAny_pure (wpAny_bind (wpAny_mono key (fun _ _ q=>wpAny_throw q) fun _ _ q=>q)))
  | exact wpAny_bind (wpAny_mono key (fun _ _ q=>wpAny_throw q) fun _ _ q=>q)
end
end L2
end
section
namespace L2
open PySem PySem.Spec PySem.W PySem.Calls PyProof.Rows
def BX (X:Cx) (E:XK) (X':Cx):Value→Shared→Prop:=fun e s'=>∃ a cls D H' σ' lD,e = .ref a∧Inv X' lD σ' H' s'∧
 (∃ B a0,Heap.FlyingW B X.stack a cls a0 s'.heap∧(∀ b o,X'.s₀.heap.get? b = some o→b∉X'.ex→b∉dy X.stack→∃ o',B.get? b = some o')∧∀ b o,H' b = some o→∃ ob,B.get? b = some ob)∧
 H' a = none∧(X'.s₀.heap.get? a = none∨a∈X'.ex)∧Kd.Dc a D s'.heap∧E cls D H'
def Cx.b7 (X:Cx) (E:XK) (scope:Scope) (cl:List (Str×Addr)) (C:Addr) (N:List Str) (fp:List Addr) (pins:List (Addr×Obj)) (s:Shared) (H:Hp):Cx:=
 (X.block scope cl C N fp pins s H).gh (BX X E (X.block scope cl C N fp pins s H))
theorem yZ {X:Cx} {E:XK} {scope:Scope} {cl:List (Str×Addr)} {C:Addr} {N:List Str} {fp:List Addr} {pins:List (Addr×Obj)} {s:Shared} {H:Hp}:Passes (bP X.prog X.w) (X.b7 E scope cl C N fp pins s H) E:=by
 rintro vI σ1 H1 s1 e s' I ⟨a,cls,D,H',rfl,F,q⟩
 have I0:Inv (X.block scope cl C N fp pins s H) vI σ1 H1 s1:=I.dv
 have F0:qr (X.block scope cl C N fp pins s H).prog (X.block scope cl C N fp pins s H).w (X.block scope cl C N fp pins s H).stack H1 s1 a cls D H' s':=F
 obtain ⟨B,a0,kH,vT,ct⟩:=F.kH
 refine ⟨a,cls,D,H',σ1,vI,rfl,F0.inv I0,⟨B,a0,kH,fun b o hb hx hn=>?_,ct⟩,F.new,?_,F.DM,q⟩
 ·obtain ⟨o',z⟩:=I0.base.there b o hb hx
  exact vT b o' z hn
 ·by_cases hx:a∈(X.block scope cl C N fp pins s H).ex
  ·exact .inr hx
  ·refine .inl ?_
   cases z:(X.block scope cl C N fp pins s H).s₀.heap.get? a with
   | none=>rfl
   | some o=>
    obtain ⟨o',z'⟩:=I0.base.there a o z hx
    rw [F.fresh] at z'; cases z'
section
variable {prog:Program} {w:World} {A:Around} {R:Result→Shared→Prop} {s:Shared}
theorem nI {elt target iter:Expr} {ifs:List Expr} {scope:Scope} {pos:Pos} {it acc:Value} {env:Env} (I:Nat→Shared→Prop) {NB:Value→Shared→Prop} (hNB:NB = notedBy (model prog w) A env fun x s'=>R (.error x) s')
  (turn:∀ n s,I n s→wpAny (model prog w) A (pyNext it) (fun r s₁=>match r with
   | none=>R (.ok .next) s₁
   | some v=>wpAny (model prog w) A (letOwnedTupleGo target it v) (fun _ s1=>wpAny (model prog w) A (assign target env v) (fun _ s₂=>
     wpAny (model prog w) A (forIn ifs true fun c r=>if r = true then do let ok ← isTrue c env (eval c env); pure (ForInStep.yield ok) else pure (ForInStep.yield r)) (fun ok s₃=>
      if ok = true then wpAny (model prog w) A (eval elt env) (fun x s₄=>wpAny (model prog w) A (call (.builtin "list.append") [acc,x]) (fun _ s₅=>∃ m,m < n∧I m s₅) NB s₄) NB s₃
      else ∃ m,m < n∧I m s₃) NB s₂) NB s1) NB s₁) NB s)
  (n:Nat) (h:I n s):codeAny (model prog w) A (.compLoop (.ListComp elt [⟨target,iter,ifs,0⟩] scope pos) 0 it acc env) R s:=by
 subst hNB
 refine codeAny_loop rfl I (fun n s hI=>?_) n h
 show wpAny _ A ((compTurn (.ListComp elt [⟨target,iter,ifs,0⟩] scope pos) 0 it acc env).onRaise (fun x=>do noteFrame x env; theTreesLotGoes x)) _ _ s
 refine wpAny_noted ?_
 rw [compTurn_list]
 refine wpAny_bind (wpAny_standAt (wpAny_bind (wpAny_mono (turn n s hI) (fun r s₁ h₁=>?_) fun _ _ z=>z)))
 cases r with
 | none=>exact wpAny_pure h₁
 | some v=>
  refine wpAny_bind (wpAny_mono h₁ (fun _ s1 h1=>wpAny_bind (wpAny_mono h1 (fun _ s₂ h₂=>wpAny_bind (wpAny_mono h₂ (fun ok s₃ h₃=>?_) fun _ _ z=>z)) fun _ _ z=>z)) fun _ _ z=>z)
  cases ok with
  | false=>exact wpAny_pure ⟨rfl,h₃⟩
  | true=>
   exact wpAny_bind (wpAny_bind (wpAny_mono h₃ (fun x s₄ h₄=>wpAny_bind (wpAny_mono h₄ (fun _ s₅ h₅=>wpAny_pure (wpAny_pure ⟨rfl,h₅⟩)) fun _ _ z=>z)) fun _ _ z=>z))
end
def v8 (X:Cx) (C:Addr) (x:Value) (s':Shared):Prop:=∃ m,s'.heap.Ns C m∧∀ h',Heap.SameBut C s'.heap h'→∀ gv:Env,gv.locals = C→wpAny (model X.prog X.w) X.A (PySem.passOn "comprehension.variables-let-go" x gv:Sem Value) (fun _ _=>False) X.xe { s' with heap:=h' }
section
variable {X:Cx} {E:XK} {scope:Scope} {cl:List (Str×Addr)} {tg:List Str} {fr:List (Str×Nat)} {C:Addr} {fp:List Addr}
def Lv (X:Cx) (E:XK):Prop:=∀ e s',wpAny (model X.prog X.w) X.A (leaving X.env e) (fun _ o6=>bP X.prog X.w X.outer X.H₀ X.s₀ E e o6) (fun e' o6=>bP X.prog X.w X.outer X.H₀ X.s₀ E e' o6) s'→X.xe e s'
theorem y9 {P:Program} {w:World} {K:Frag} {mg:Str→Option Value} {base:Heap} {N:List Str} {qual:Str} {scope:Scope} {f:Addr} {cd:Value} {A:Around} {outer:List Env} {s:Shared} {H:Hp} {E:XK} :
  Lv (eI (bP P w) P w K mg base N qual scope f cd A outer s H E) E:=fun _ _ h=>h
theorem tD {pins:List (Addr×Obj)} {σ : St} {H:Hp} {s:Shared} (hb:Body X) (hX:Lv X E) (I:Inv X pins σ H s) (hf:∀ b∈fp,gR X pins H b) (hC:s.heap.objs.size≤C) {N:List Str} {e:Value} {s':Shared}
  (hx:BX X E (X.block scope cl C N fp pins s H) e s'):notedBy (model X.prog X.w) X.A (compEnvC scope cl C X.env) (fun x o6=>v8 X C x o6) e s':=by
 obtain ⟨a,cls,D,H',σ',lD,rfl,J,⟨B,a0,kH,vT,ct⟩,new,Jt,dc,q⟩:=hx
 have kX:X.A.frames = some (X.env :: X.outer):=by rw [← hb.j6]; exact I.ok.frames
 have y4:∀ b o,X.s₀.heap.get? b = some o→b∉fp:=fun b o e hm=>by
  rcases (hf b hm).2.2.2.1 with z | z
  ·rw [hb.ex] at z; cases z
  ·exact absurd (Nat.lt_of_lt_of_le (Heap.lt_size e) z) (Nat.lt_irrefl _)
 have DF:X.s₀.heap.get? a = none:=by
  cases z:X.s₀.heap.get? a with
  | none=>rfl
  | some o=>
   rcases Jt with y | y
   ·have:=I.nC hb.ex y
    rw [z] at this; cases this
   ·exact absurd y (y4 a o z)
 have c0:i6 B (dy X.stack) X.s₀.heap:=fun b o e n=>by
  obtain ⟨o',z⟩:=I.base.there b o e (by rw [hb.ex]; simp)
  exact vT b o' z (y4 b o e) n
 have yH:∀ b∈dy X.stack,b≠C:=fun b hm z=>by
  obtain ⟨_,o,ho,_⟩:=I.stack.mem hm
  exact absurd (Nat.lt_of_lt_of_le (Heap.lt_size ho) hC) (by rw [z]; exact Nat.lt_irrefl _)
 have JX:Inv X pins σ H' s':=I.oM (ch:=fp) J.os J.base J.bb J.bare fun b hm=>by
  obtain ⟨g0,g1,g2,g3,g4,g5⟩:=hf b hm
  exact ⟨g3,g1,g4,g5⟩
 obtain ⟨m,hn,_⟩:=J.loc
 have hn:s'.heap.Ns C m:=hn
 have iI:H' C = none:=J.free
 have sN:=kH
 rw [hb.j6] at sN
 show wpAny _ _ (noteFrame (.ref a) (compEnvC scope cl C X.env)) _ _ s'
 rw [uw (env:=compEnvC scope cl C X.env) (env':=X.env) rfl]
 refine jG kX hb.fr sN dc fun h2 held up DP=>⟨m,up.ns hn,fun h3 sb gv _=>?_⟩
 have J1:Inv X [] σ H' { s' with heap:=h2,toks:=s'.toks }:=Inv.iM (JX.fJ fun p hp=>by cases hp) hb.ex kH.1 held.1 c0 ct (fun p hp=>by rw [hb.pn] at hp; cases hp) up
 have za:=I.lt
 have J2:Inv X [] σ H' { s' with heap:=h3,toks:=s'.toks }:=J1.turned (t':=s'.toks) (fun b o hb e=>(sb.2 b hb).trans e) iI (fun z=>absurd (Nat.lt_of_lt_of_le za hC) (by rw [z]; exact Nat.lt_irrefl _)) (.inr (Nat.le_trans I.sz hC))
  (fun x c e z=>by
   obtain ⟨v,o,ho,_⟩:=I.cell x c e
   exact absurd (Nat.lt_of_lt_of_le (Heap.lt_size ho) hC) (by rw [z]; exact Nat.lt_irrefl _)) (fun p hp=>by rw [hb.pn] at hp; cases hp)
 obtain ⟨od,_,_,IT,Jh,_⟩:=up.ns hn
 have Fp:∀ b ob vs,h2.get? b = some ob→ob.data = .fields vs→b≠C:=fun b ob vs e1 e2 z=>by
  subst z
  rw [IT] at e1
  cases e1
  rw [Jh] at e2
  cases e2
 have hB:∀ b o,(hideAll B [C]).get? b = some o→B.get? b = some o∧b≠C:=fun b o e=>⟨of_hideAll _ e,fun z=>by
  subst z
  have y:=hideAll_none [b] (h:=B) (b:=b) (by simp)
  rw [y] at e; cases e⟩
 have DC:∀ b,B.get? b = none→(hideAll B [C]).get? b = none:=fun b e=>by
  cases z:(hideAll B [C]).get? b with
  | none=>rfl
  | some o=>have:=(hB b o z).1; rw [e] at this; cases this
 have ET:∀ b o,B.get? b = some o→b≠C→(hideAll B [C]).get? b = some o:=fun b o e n=>hideAll_get _ e (by simpa using n)
 obtain ⟨k1,k2,k3,oe,vs,T,oT,ts,e1,e2,e3,e4,t0,te,t1,t2,t3⟩:=held
 have aC:a≠C:=Fp a oe vs e1 e3
 have TC:T≠C:=Fp T oT ts t1 t2
 have FY:vZ (hideAll B [C]) X.stack a cls a0 h3:=⟨fun b o e=>(sb.2 b (hB b o e).2).trans (k1 b o (hB b o e).1),DC a k2,
  lY (fun b hm=>sb.2 b (yH b hm)) DC (by rw [hb.j6]; exact k3),_,oe,vs,T,oT,ts,(sb.2 a aC).trans e1,e2,e3,e4,DC T t0,te,(sb.2 T TC).trans t1,t2,t3⟩
 have DO:Kd.Dc a D h3:=Kd.Dc.of ((sb.2 a aC).trans e1) (DP.at e1)
 have c3:i6 (hideAll B [C]) (dy X.stack) X.s₀.heap:=fun b o e n=>by
  obtain ⟨o',z⟩:=c0 b o e n
  refine ⟨o',ET b o' z fun y=>?_⟩
  subst y
  exact absurd (Nat.lt_of_lt_of_le (Heap.lt_size e) (Nat.le_trans I.sz hC)) (Nat.lt_irrefl _)
 have zV:∀ b o,H' b = some o→∃ ob,(hideAll B [C]).get? b = some ob:=fun b o e=>by
  obtain ⟨ob,z⟩:=ct b o e
  exact ⟨ob,ET b ob z fun y=>by rw [y,iI] at e; cases e⟩
 refine pU (s:={ s' with heap:=h3 }) FY DO fun h4 DG Au zS=>hX _ _ ?_
 have J4:Inv X [] σ H' { s' with heap:=h4,toks:=s'.toks }:=Inv.iM (s:={ s' with heap:=h3 }) J2 hb.ex FY.1 DG.1 c3 zV (fun p hp=>by rw [hb.pn] at hp; cases hp) Au
 have zO:=DG
 rw [hb.j6] at zO
 refine sO (s:={ s' with heap:=h4 }) kX hb.fr zO zS fun h5 pT As zR=>?_
 have J5:Inv X [] σ H' { s' with heap:=h5,toks:=s'.toks }:=Inv.iM (s:={ s' with heap:=h4 }) J4 hb.ex DG.1 pT.1 c3 zV (fun p hp=>by rw [hb.pn] at hp; cases hp) As
 refine ⟨a,cls,D,H',rfl,⟨J5.os,J5.bare,?_,J5.bb,⟨_,_,pT,?_,zV⟩,new,DF,zR⟩,q⟩
 ·have:=J5.base
  rw [hb.ex] at this
  exact this
 ·intro b o e' n
  refine c3 b o e' fun hm=>?_
  rw [hb.j6] at hm
  unfold dy at hm
  rw [List.filterMap_cons,hb.fr] at hm
  rcases List.mem_cons.mp hm with z | z
  ·exact absurd (Nat.lt_of_lt_of_le (Heap.lt_size e') I.ok.above) (by rw [z]; exact Nat.lt_irrefl _)
  ·exact n z
end
end L2
end
section
namespace L2
open PySem PySem.Spec PySem.W PySem.Calls PyProof.Rows
section
variable {X:Cx} {E:XK} {scope:Scope} {cl:List (Str×Addr)} {tg:List Str} {fr:List (Str×Nat)} {elt target iter:Expr} {ifs:List Expr} {wi:TI} {g:TG} {tt:TT} {te:TE} {pos:Pos}
theorem nJ (Dw:Body X) (hX:Lv X E) (B:fc X scope cl tg fr) (hc:X.calm = true) (hi:PI X target iter wi)
  (hg:∀ C fp pins s H,PG (X.b7 E scope cl C (tg ++ fr.map (·.1)) fp pins s H) target g) (ht:∀ C fp pins s H,qp (X.b7 E scope cl C (tg ++ fr.map (·.1)) fp pins s H) ifs tt) (he:∀ C fp pins s H,PE (X.b7 E scope cl C (tg ++ fr.map (·.1)) fp pins s H) elt te)
  {pins:List (Addr×Obj)} {σ : St} {H:Hp} {s:Shared} {Q:VK} (I:Inv X pins σ H s) (hw:jv wi g tt te tg.length (fr.map (·.2)) σ H Q) {RR:Value→Addr→Result→Shared→Prop}
  (Dz:∀ D C s1 H5 m,Inv X pins σ H5 s1→s1.heap.Ns C m→H5 C = none→C≠X.env.locals→X.s₀.heap.objs.size≤C→(∀ x c,X.env.cells.lookup x = some c→c≠C)→(∀ p∈X.pn ++ pins,p.1≠C)→Q (.ref D) H5→RR (.ref D) C (.ok .next) s1)
  (FV:∀ D C x s1,v8 X C x s1→RR (.ref D) C (.error x) s1) :
  wpAny (model X.prog X.w) X.A (eval iter X.env) (fun xv s1=>wpAny (model X.prog X.w) X.A (pyIter xv) (fun it s2=>wpAny (model X.prog X.w) X.A (newList []) (fun acc s3=>
   wpAny (model X.prog X.w) X.A (newFunctionEnv scope X.env.globals cl [] X.env.qual none .none (some X.env)) (fun gv s4=>
    codeAny (model X.prog X.w) X.A (.compStart (.ListComp elt [⟨target,iter,ifs,0⟩] scope pos) 0 it acc { gv with scope:=relabel scope X.env }) (RR acc gv.locals) s4) X.xe s3) X.xe s2) X.xe s1) X.xe s:=by
 refine wpAny_mono (hi pins s σ H _ I hw) (fun xv s1 h1=>wpAny_mono h1 (fun AO s2 h2=>?_) fun _ _ z=>z) fun _ _ z=>z
 obtain ⟨it,fp,tn,J,H1,rfl,I2,T,wm,f2,C9⟩:=h2
 have mD:∀ b∈fp,b < s2.heap.objs.size:=fun b hb=>by
  obtain ⟨o,e,_⟩:=T.obj _ _ wm b hb
  exact Heap.lt_size e
 refine wpAny_newObj_type (wpAny_newFunctionEnv B.sd (by intro y hy; simp at hy) (fun h3 tW uD=>?_) B.kind)
 dsimp only at tW uD ⊢
 generalize hP:s2.heap.push { cls:=.type "list",dict:=none,data:=.seq ([]:List Value).toArray } = hp at tW uD ⊢
 have hC:hp.objs.size = s2.heap.objs.size + 1:=by rw [← hP,Heap.size_push]
 have cx:s2.heap.objs.size < hp.objs.size:=by rw [hC]; exact Nat.lt_succ_self _
 have k3:∀ b o,s2.heap.get? b = some o→h3.get? b = some o:=fun b o e=>by
  have l:=Heap.lt_size e
  refine uD.extBut b o (Nat.ne_of_lt (Nat.lt_trans l cx)) (Heap.get?_push_of_some _ (hP▸Heap.get?_push_of_some _ e))
 have hD:H1 s2.heap.objs.size = none:=I2.bb.fresh (Nat.le_refl _)
 have cB:h3.get? s2.heap.objs.size = some { cls:=.type "list",dict:=none,data:=.seq ([]:List Value).toArray }:=uD.extBut _ _ (Nat.ne_of_lt cx) (Heap.get?_push_of_some _ (hP▸Heap.get?_push_size _ rfl))
 obtain ⟨W,⟨m0,w0⟩,turn⟩:=C9 _ hD
 have Bj:Un (dy X.stack) fp H1 (upd H1 s2.heap.objs.size (.lst [])) s2.heap h3:=Un.laid k3 (Nat.le_refl _) hD
 have Cp:fz X.prog X.w (upd H1 s2.heap.objs.size (.lst [])) h3:=I2.bb.laid k3 (Nat.le_refl _) ⟨Nat.zero_le _,[],0,.nil,cB⟩
 have fC:upd H1 s2.heap.objs.size (.lst []) hp.objs.size = none:=by rw [aq (Nat.ne_of_gt cx)]; exact I2.bb.fresh (Nat.le_of_lt cx)
 have za:=I2.lt
 have nL:hp.objs.size≠X.env.locals:=Nat.ne_of_gt (Nat.lt_trans za cx)
 have BS:X.s₀.heap.objs.size≤hp.objs.size:=Nat.le_trans I2.sz (Nat.le_of_lt cx)
 have cC:∀ x c,X.env.cells.lookup x = some c→c≠hp.objs.size:=fun x c e z=>by
  obtain ⟨v,o,ho,_⟩:=I2.cell x c e
  exact absurd (Nat.lt_trans (Heap.lt_size ho) cx) (by rw [z]; exact Nat.lt_irrefl _)
 have pC:∀ p∈X.pn ++ pins,p.1≠hp.objs.size:=fun p xw z=>by
  exact absurd (Nat.lt_trans (Heap.lt_size (I2.pin p xw).1) cx) (by rw [z]; exact Nat.lt_irrefl _)
 have J0:=gE (t':=s2.toks + ([]:List (Str×Value)).length) B I2 (fun b hb=>⟨f2 b hb,mD b hb⟩) (Nat.le_of_lt cx) tW k3 Bj Cp fC
 have J0:=J0.gh (BX X E (X.block scope cl hp.objs.size (tg ++ fr.map (·.1)) fp pins s2 H1))
 have xH:∀ {H':Hp} {pl:List (Addr×Obj)},(∀ b∈fp,H' b = none)→(∀ p∈pl,p.1∉fp)→∀ b∈fp,gR (X.b7 E scope cl hp.objs.size (tg ++ fr.map (·.1)) fp pins s2 H1) pl H' b:=fun hn i7 b hb=>by
  obtain ⟨g0,g1,g2,g3,g4,g5⟩:=f2 b hb
  refine ⟨hn b hb,fun z=>?_,fun z=>?_,.inl hb,fun x c e=>g4 x c (B.tO.get e),fun p xw z=>?_⟩
  ·have z':b = hp.objs.size:=z
   exact absurd (Nat.lt_trans (mD b hb) cx) (by rw [z']; exact Nat.lt_irrefl _)
  ·rcases List.mem_cons.mp (I2.d7 b z) with q | q
   ·exact g1 q
   ·exact g2 q
  ·rcases List.mem_append.mp xw with q | q
   ·exact g5 p q z
   ·exact i7 p q (z▸hb)
 have er:∀ e s',(X.b7 E scope cl hp.objs.size (tg ++ fr.map (·.1)) fp pins s2 H1).xe e s'→notedBy (model X.prog X.w) X.A (compEnvC scope cl hp.objs.size X.env) (fun x s'=>RR (.ref s2.heap.objs.size) hp.objs.size (.error x) s') e s':=fun e s' z=>
  wpAny_mono (tD Dw hX I2 f2 (Nat.le_of_lt cx) z) (fun _ _ y=>FV _ _ _ _ y) fun _ _ y=>FV _ _ _ _ y
 have loop:∀ s3:Shared,s3 = { s2 with heap:=h3,toks:=s2.toks + ([]:List (Str×Value)).length }→
   codeAny (model X.prog X.w) X.A (.compLoop (.ListComp elt [⟨target,iter,ifs,0⟩] scope pos) 0 (.ref it) (.ref s2.heap.objs.size) (compEnvC scope cl hp.objs.size X.env)) (RR (.ref s2.heap.objs.size) hp.objs.size) s3:=by
  rintro s3 rfl
  refine nI (NB:=notedBy (model X.prog X.w) X.A (compEnvC scope cl hp.objs.size X.env) fun x s'=>RR (.ref s2.heap.objs.size) hp.objs.size (.error x) s') (hNB:=rfl) (fun n s'=>∃ i σ' ys H5,Inv (X.b7 E scope cl hp.objs.size (tg ++ fr.map (·.1)) fp pins s2 H1) [] σ' H5 s'∧tn i s'.heap∧(∀ b∈fp,H5 b = none)∧W i n σ' ys H5) ?_ m0
   ⟨0,_,[],_,J0,T.keep _ _ _ wm fun b hb o e=>k3 b o e,fun b hb=>?_,w0⟩
  ·rintro n s' ⟨i,σ',ys,H5,J5,t5,f5,w5⟩
   rcases turn i n σ' ys H5 w5 with ⟨stop,q⟩ | ⟨go,step⟩
   ·refine wpAny_mono (T.done (X.b7 E scope cl hp.objs.size (tg ++ fr.map (·.1)) fp pins s2 H1) rfl rfl rfl hc i [] s' σ' H5 (fun _ _=>False) J5 (xH f5 (by simp)) t5 stop) (fun r s6 ⟨hr,J6⟩=>?_) fun _ _ z=>False.elim z
    subst hr
    obtain ⟨m6,Dj,_⟩:=J6.loc
    exact Dz _ _ _ H5 m6 (I2.oM (ch:=fp) J6.os J6.base J6.bb J6.bare fun b hb=>by obtain ⟨g0,g1,g2,g3,g4,g5⟩:=f2 b hb; exact ⟨g3,g1,g4,g5⟩) Dj J6.free nL BS cC pC q
   ·refine wpAny_mono (T.item (X.b7 E scope cl hp.objs.size (tg ++ fr.map (·.1)) fp pins s2 H1) rfl rfl rfl hc i [] s' σ' H5 (fun _ _=>False) J5 (xH f5 (by simp)) t5 go) (fun r s6 ⟨u,hr,h6⟩=>?_) fun _ _ z=>False.elim z
    subst hr
    refine wpAny_mono h6 (fun _ s7 ⟨x,H7,J7,r7,y7,t7,f7⟩=>?_) fun _ _ z=>False.elim z
    have EF:=J7.pinned (xH f7 (by simp)) (T.obj _ _ t7)
    have again:∀ {σ8:St} {H8:Hp} {s8:Shared} {v9:List V},Inv (X.b7 E scope cl hp.objs.size (tg ++ fr.map (·.1)) fp pins s2 H1) ([] ++ gk fp s7.heap) σ8 H8 s8→(∃ m',m' < n∧W (i + 1) m' σ8 v9 H8)→
      ∃ m',m' < n∧∃ i σ' ys H5,Inv (X.b7 E scope cl hp.objs.size (tg ++ fr.map (·.1)) fp pins s2 H1) [] σ' H5 s8∧tn i s8.heap∧(∀ b∈fp,H5 b = none)∧W i m' σ' ys H5:=fun {σ8 H8 s8 v9} J8 ⟨m',hm,w8⟩=>by
     refine ⟨m',hm,i + 1,σ8,v9,H8,J8.d5,T.keep _ _ _ t7 fun b hb o e=>(J8.pin (b,o) (List.mem_append_right _ (List.mem_append_right _ (cA hb e)))).1,fun b hb=>?_,w8⟩
     obtain ⟨o,e,d⟩:=T.obj _ _ t7 b hb
     exact (J8.pin (b,o) (List.mem_append_right _ (List.mem_append_right _ (cA hb e)))).2.1
    refine wpAny_mono (hg _ _ _ _ _ _ s7 σ' H7 x u _ EF r7 (step x H7 y7)) (fun _ s8 ⟨σ8,H8,J8,q8⟩=>?_) er
    refine wpAny_mono (ht _ _ _ _ _ _ s8 σ8 H8 _ J8 q8) (fun b s9 ⟨H9,J9,q9⟩=>?_) er
    cases b with
    | false=>
     rw [if_neg Bool.false_ne_true] at q9 ⊢
     exact again J9 q9
    | true=>
     rw [if_pos rfl] at q9 ⊢
     refine wpAny_mono (he _ _ _ _ _ _ s9 σ8 H9 _ J9 q9) (fun y wA ⟨v,x6,tR,AJ,xE,xy,Ca⟩=>?_) er
     refine wpAny_mono (eS (X:=X.b7 E scope cl hp.objs.size (tg ++ fr.map (·.1)) fp pins s2 H1) _ wA σ8 x6 (.ref s2.heap.objs.size) [v] (.ref s2.heap.objs.size) [y] (fun _ x5=>∃ m',m' < n∧W (i + 1) m' σ8 (ys ++ [v]) x5) tR rfl (.cons AJ .nil) ⟨_,ys,v,rfl,rfl,xE,xy,Ca⟩) (fun _ G8 ⟨_,x5,EG,_,B9⟩=>?_) er
     exact again EG B9
  ·have l:=mD b hb
   rw [aq (Nat.ne_of_lt l)]; exact (f2 b hb).1
 exact codeAny_compStart_list (loop _ rfl) (T.self X.A 0 _ _ _ (T.keep _ _ _ wm fun b hb o e=>k3 b o e) (loop _ rfl))
theorem rM (Dw:Body X) (hX:Lv X E) {i:Nat} {y:Str} {py qI:Pos} (hN:X.N.Nodup) (hy:X.N[i]? = some y) (hl:Loc X.env.scope y) (B:fc X scope cl tg fr) (hc:X.calm = true) (hi:PI X target iter wi)
  (hg:∀ C fp pins s H,PG (X.b7 E scope cl C (tg ++ fr.map (·.1)) fp pins s H) target g) (ht:∀ C fp pins s H,qp (X.b7 E scope cl C (tg ++ fr.map (·.1)) fp pins s H) ifs tt) (he:∀ C fp pins s H,PE (X.b7 E scope cl C (tg ++ fr.map (·.1)) fp pins s H) elt te)
  (hs:∀ x,foldedSetIterable iter X.env x = pure x:=by intro _; rfl) (zk:swapsWith (.ListComp elt [⟨target,iter,ifs,0⟩] scope pos) (some (.Name y py)) qI.line X.env = pure true:=by rfl)
  (hf:X.fn y = true∨X.env.scope.names.lookup y = some .local:=by first | exact .inl rfl | exact .inr rfl | assumption) :
  PS X (.Assign [.Name y py] (.ListComp elt [⟨target,iter,ifs,0⟩] scope pos) qI) (ue (jv wi g tt te tg.length (fr.map (·.2))) (lW i)):=by
 intro pins s σ H D I hw
 rw [exec_Assign_Name_used _ _ _ _ zk]
 refine wpAny_bind (wpAny_standAt (wpAny_bind ?_))
 show wpAny _ _ (do let _ ← comprehension (.ListComp elt [⟨target,iter,ifs,0⟩] scope pos) scope X.env _ (newList []) false (eval iter X.env) (some (assign (.Name y py) X.env))) _ _ s
 refine wpAny_bind (wpAny_mono (wpAny_comprehension_free (use:=some (assign (.Name y py) X.env)) (Q:=fun _ s'=>SP X pins D .next s') rfl hs B.xO B.kind B.names
  (nJ Dw hX B hc hi hg ht he I hw (RR:=fun acc C=>compPost (model X.prog X.w) X.A X.xe (some (assign (.Name y py) X.env)) (fun _ s'=>SP X pins D .next s') acc C) (fun R C s1 H5 m J hn f0 f1 f2 f3 f4 q=>?_) fun R C x s1 z=>z)) (fun _ s' hq=>wpAny_pure (wpAny_pure hq)) fun _ _ z=>z)
 show wpAny _ _ (assign (.Name y py) X.env (.ref R)) _ _ _
 refine wpAny_assign_Name (gi (v:=.ref R) J hN hy hl rfl (fun s2 J2 ⟨a,sb,ha⟩=>?_) hf)
 have na:C≠a:=by
  rcases ha with z | z
  ·rw [z]; exact f1
  ·exact Ne.symm (f3 y a z)
 refine ⟨m,hn.sameBut sb na,fun h' BR=>⟨_,H5,?_,q⟩⟩
 exact J2.turned (t':=s2.toks) (fun b o hb e=>(BR.2 b hb).trans e) f0 f1 (.inr f2) f3 f4
end
end L2
end
section
namespace L2
open PySem PySem.Spec PySem.W PySem.Calls PyProof.Rows PySem.NumText
section
variable {X:Cx}
def yO:V→Option Int→Option Int→Hp→VK→Prop:=fun x lo hi H Q=>∃ z:Str,x = .str z∧z.length≤sizeLine∧Q (.str (Txt.slice z lo hi)) H
theorem dD:Ez X yO:=by
 intro pins s σ H x v vl vu lo hi sl Q I rx hs pl pu h
 obtain ⟨z,rfl,hz,q⟩:=h
 obtain ⟨t,rfl⟩:=rx
 have fin:∀ t' k,EP X pins σ Q (.str (Txt.slice z lo hi) t') { s with toks:=k }:=fun t' k=>⟨.str (Txt.slice z lo hi),H,I.tok k,⟨_,rfl⟩,q⟩
 have zl:=Nat.le_trans (Txt.slice_le z lo hi) hz
 refine ⟨"str",_,F.slot_str_getitem.lookup,typeIs_str _ _ _,?_⟩
 cases pl with
 | none=>
  cases pu with
  | none=>exact wpAny_getItem_str_slice (l:=none) (u:=none) (st:=none) hs rfl (post_val_or_str ⟨zl,fin⟩)
  | int j tj=>exact wpAny_getItem_str_slice (l:=none) (u:=some (j,tj)) (st:=none) hs rfl (post_val_or_str ⟨zl,fin⟩)
 | int i ti=>
  cases pu with
  | none=>exact wpAny_getItem_str_slice (l:=some (i,ti)) (u:=none) (st:=none) hs rfl (post_val_or_str ⟨zl,fin⟩)
  | int j tj=>exact wpAny_getItem_str_slice (l:=some (i,ti)) (u:=some (j,tj)) (st:=none) hs rfl (post_val_or_str ⟨zl,fin⟩)
theorem qZ {te:TE} {tl th:TO} {σ : St} {H:Hp} {Q:VK} (h:te σ H fun x H1=>tl σ H1 fun l H2=>th σ H2 fun u H3=>∃ z:Str,x = .str z∧z.length≤sizeLine∧Q (.str (Txt.slice z l u)) H3):Bp yO te tl th σ H Q:=h
theorem ij {σ : St} {H:Hp} {R:Option Int→Hp→Prop} (h:R none H):j0 σ H R:=h
theorem mW {t:TE} {σ : St} {H:Hp} {R:Option Int→Hp→Prop} (h:t σ H fun x H1=>∃ i,x = .int i∧R (some i) H1):qC t σ H R:=h
theorem uN {x:Str} {g:TG} {tb:TS} {D:Ends} {σ : St} {H:Hp} (Pv:Nat→St→Hp→Prop) (h0:Pv 0 σ H)
  (hs:∀ i c σ H,x.cps.toList[i]? = some c→Pv i σ H→g (.str ⟨#[c]⟩) σ H fun σ2 H2=>tb { D with nx:=Pv (i + 1),ct:=Pv (i + 1),bk:=D.nx } σ2 H2) (hd:∀ σ H,Pv x.cps.toList.length σ H→D.nx σ H) :
  ∃ W:Nat→Nat→St→Hp→Prop,(∃ m,W 0 m σ H)∧∀ i m σ H,W i m σ H→
   ((vY x).stop i H∧D.nx σ H)∨((vY x).go i H∧∃ N:St→Hp→Prop,(∀ σ' H',N σ' H'→∃ m',m' < m∧W (i + 1) m' σ' H')∧∀ v H',(vY x).oR i H v H'→g v σ H' fun σ2 H2=>tb { D with nx:=N,ct:=N,bk:=D.nx } σ2 H2):=by
 have hz:x.cps.toList.length = x.cps.size:=by simp
 rw [hz] at hd
 refine ⟨fun i m σ H=>m = x.cps.size - i∧i≤x.cps.size∧Pv i σ H,⟨x.cps.size,by simp,Nat.zero_le _,h0⟩,?_⟩
 rintro i m σ H ⟨rfl,hi,p⟩
 by_cases cx:i < x.cps.size
 ·refine .inr ⟨cx,Pv (i + 1),fun σ' H' p'=>⟨x.cps.size - (i + 1),by omega,rfl,cx,p'⟩,fun v H' y=>?_⟩
  obtain ⟨e,c,hc,rfl⟩:=y
  subst e
  exact hs i c σ _ (by rw [Array.getElem?_toList]; exact hc) p
 ·have e:i = x.cps.size:=by omega
  subst e
  exact .inl ⟨Nat.le_refl _,hd σ H p⟩
theorem jP:dB X (.type "int") (fun xs H Q=>∃ x:Str,xs = [.str x]∧AllDigits x.cps.toList∧x.cps.toList≠[]∧x.length≤640∧Q (.int (digitsVal x.cps.toList:Nat)) H):=by
 intro pins s σ H xs us Q I r h
 obtain ⟨x,rfl,h0,h1,h2,q⟩:=h
 obtain ⟨u,rfl,t,rfl⟩:=vals1 r
 exact KIN.call_text (intText_digits h0 h1 (by omega)) h2 ⟨.int (digitsVal x.cps.toList:Nat),H,I.tok _,⟨_,rfl⟩,q⟩
end
end L2
namespace Gm
open PySem Builtin Builtin.Str
theorem ef (x:Str) (j:Nat):(Txt.slice x none (some (j:Int))).cps.toList = x.cps.toList.take j:=by
 show (StrLaws.sliceText x none (some (j:Int))).cps.toList = _
 by_cases h:j≤x.cps.toList.length
 ·rw [StrLaws.sliceText_to ⟨by omega,by omega⟩]
  simp
 ·have e:StrLaws.sliceText x none (some (j:Int)) = StrLaws.sliceText x none (some (x.cps.toList.length:Int)):=by
   unfold StrLaws.sliceText strSliceIndices
   have e1:max (0:Int) (min (j:Int) (x.length:Int)) = max (0:Int) (min (x.cps.toList.length:Int) (x.length:Int)):=by
    have:x.length = x.cps.toList.length:=by simp [Str.length]
    omega
   have n1:¬ ((j:Int) < 0):=by omega
   have n2:¬ ((x.cps.toList.length:Int) < 0):=by omega
   simp only [n1,n2,if_false,e1,show ((1:Int) > 0) = True from by simp,if_true]
  rw [e,StrLaws.sliceText_to ⟨by omega,by omega⟩,List.take_of_length_le (l:=x.cps.toList) (by omega)]
  simp
  exact List.take_of_length_le (by simp)
theorem dC (x:Str) (i:Nat):(Txt.slice x (some (i:Int)) none).cps.toList = x.cps.toList.drop i:=by
 show (StrLaws.sliceText x (some (i:Int)) none).cps.toList = _
 by_cases h:i≤x.cps.toList.length
 ·rw [StrLaws.sliceText_from ⟨by omega,by omega⟩]
  simp
  exact List.take_of_length_le (by simp)
 ·have e:StrLaws.sliceText x (some (i:Int)) none = StrLaws.sliceText x (some (x.cps.toList.length:Int)) none:=by
   unfold StrLaws.sliceText strSliceIndices
   have e1:max (0:Int) (min (i:Int) (x.length:Int)) = max (0:Int) (min (x.cps.toList.length:Int) (x.length:Int)):=by
    have:x.length = x.cps.toList.length:=by simp [Str.length]
    omega
   have n1:¬ ((i:Int) < 0):=by omega
   have n2:¬ ((x.cps.toList.length:Int) < 0):=by omega
   simp only [n1,n2,if_false,e1,show ((1:Int) > 0) = True from by simp,if_true]
  rw [e,StrLaws.sliceText_from ⟨by omega,by omega⟩,List.drop_of_length_le (l:=x.cps.toList) (by omega)]
  simp at h ⊢
  omega
end Gm
end
section
namespace L2
open PySem PySem.Spec PySem.W PySem.Calls PyProof.Rows Gm
def LI (A:List (List Int)) (l:List Int):PyData:=.list [eG A,d4 l]
end L2
end
section
namespace L2
open PySem PySem.Spec PySem.W PySem.Calls PyProof.Rows Gm
section
variable {X:Cx}
noncomputable def LD (H:Hp) (l:List Int):Value→Bool:=fun v=>match v with | .ref b=>@decide (H b = some (.lst (l.map V.int))) (Classical.propDecidable _) | _=>false
def Hk (neg:Bool):R2:=fun x y H Q=>∃ (a t:Addr) (bs:List Addr) (R:List (List Int)) (l:List Int),x = .ref a∧y = .ref t∧H a = some (.lst (l.map V.int))∧cE H t bs R∧Q (.bl (if neg then !decide (l∈R) else decide (l∈R))) H
def AH:V→List V→Hp→VK→Prop:=fun x vs H Q=>∃ (a t:Addr) (bs:List Addr) (R:List (List Int)) (l:List Int),x = .ref t∧vs = [.ref a]∧H a = some (.lst (l.map V.int))∧cE H t bs R∧l∈R∧Q (.int (R.idxOf l:Nat)) H
end
end L2
end
section
namespace L2
open PySem PySem.Spec PySem.W PySem.Calls PyProof.Rows HT
def Hi (K:Frag):R2:=fun x y H Q=>∃ (a b:Addr) (ns ms:List Int),x = .ref a∧y = .ref b∧aO K H a (ns.map V.int)∧aO K H b (ms.map V.int)∧Q (.bl (!lexLt ms ns)) H
end L2
end
section
namespace Gm
open PySem L2
structure LN (L:List (List Int)):Prop where
 map:iW L
 JS:∃ R S,Dec L R∧vX L S∧2 * (L.length + R.length + iso L) = (F5 L L.length).length + 4 * S.length
end Gm
end
section
namespace Gm
open PySem L2
def lp (v:Int) (p:List Int) (j:Nat):Int:=if j = 0 then v else p.getD (j - 1) v
def On (v:Int) (p:List Int) (d:bp):Prop:=∃ j,j≤p.length∧(d = (lp v p j,lp v p (j + 1))∨d = (lp v p (j + 1),lp v p j))
end Gm
end
section
namespace L2
open PySem PySem.Spec PySem.W PySem.Calls PyProof.Rows Gm
def Ky (d:Addr) (o:Obj) (aV:List (Key×V)):It:=
 ⟨fun i H=>H d = some (.iK o (.dK aV))∧i < aV.length,fun i H x H'=>H' = H∧∃ k v,aV[i]? = some (k,v)∧x = kV k,fun i H=>H d = some (.iK o (.dK aV))∧aV.length≤i⟩
section
variable {X:Cx} {tg:Expr}
def Fy (tl:TE):TI:=fun σ H R=>tl σ H fun x H1=>∃ a aV,x = .ref a∧H1 a = some (.dK aV)∧∀ o,R (Ky a o aV) (upd H1 a (.iK o (.dK aV)))
def B0:List V→Hp→VK→Prop:=fun xs H Q=>∃ a aV,xs = [V.ref a]∧H a = some (.dK aV)∧∀ p,H p = none→Q (.ref p) (upd H p (.lst (aV.map fun kv=>kV kv.1)))
def Kv (K:Frag) (a:Addr) (xs:List V):It:=
 ⟨fun i H=>aO K H a xs∧i < xs.length,fun i H x H'=>H' = H∧xs.reverse[i]? = some x,fun i H=>xs.length≤i⟩
def ID (K:Frag) (tl:TE):TI:=fun σ H R=>tl σ H fun x H1=>∃ a xs,x = .ref a∧aO K H1 a xs∧R (Kv K a xs) H1
end
end L2
end
section
namespace Gm
open PySem L2
def kF (ks:List Int) (f:Int→Int):List (Key×V):=ks.map fun x=>((Sum.inl x:Key),V.int (f x))
def Js (f:Int→Int) (x h:Int):Int→Int:=fun y=>if y = x then h else f y
structure LX (L:List (List Int)) (ks:List Int) (f:Int→Int):Prop where
 nd:ks.Nodup
 rg:∀ x∈ks,0≤x∧x < L.length
 hu:∀ x∈ks,0≤f x∧f x < 5
 ap:∀ x∈ks,∀ y∈rowOf L x,y∈ks→f y≠f x
def near (L:List (List Int)) (ks:List Int) (v:Int):List Int:=(rowOf L v).filter fun z=>decide (z∈ks)
def FX (ts:List Int):List Int:=(mH 5).filter fun h=>!decide (h∈ts)
section
variable {L:List (List Int)} {ks:List Int} {f:Int→Int} {v:Int}
structure Kl (L:List (List Int)) (ks:List Int) (f:Int→Int) (a b:Int) (S:List Int):Prop where
 sh:∀ x,x∈S↔(0≤x∧x < L.length)∧¬ (x∈ks∧(f x = a∨f x = b))
def yJ (L:List (List Int)) (ks:List Int) (f:Int→Int) (a b:Int):List Int:=(mH L.length).filter fun x=>!decide (x∈ks∧(f x = a∨f x = b))
def LY (L:List (List Int)) (ks:List Int) (f:Int→Int) (one other x:Int):Prop:=ve L (yJ L ks f (f one) (f other)) one x
def ER (f:Int→Int) (a b:Int) (G:List Int):Int→Int:=fun y=>if y∈G then a + b - f y else f y
end
structure Off (L:List (List Int)) (os:List Int):Prop where
 nd:os.Nodup
 rg:∀ x∈os,0≤x∧x < L.length
 zP:∀ (i:Nat) (x:Int),os[i]? = some x→((rowOf L x).filter fun z=>!decide (z∈os.take i)).length≤5
end Gm
end
section
namespace Gm
open PySem L2
def JV:List (List Int):=[[1,2,3,4,5],[0,5,10,6,2],[0,1,6,7,3],[0,2,7,8,4],[0,3,8,9,5],[0,4,9,10,1],[1,10,11,7,2],[2,6,11,8,3],[3,7,11,9,4],[4,8,11,10,5],[5,9,11,6,1],[10,9,8,7,6]]
def Gh:List (List bp):=[[(0,1),(1,2),(2,0)],[(0,2),(2,3),(3,0)],[(0,3),(3,4),(4,0)],[(0,4),(4,5),(5,0)],[(0,5),(5,1),(1,0)],[(1,5),(5,10),(10,1)],[(1,10),(10,6),(6,1)],[(1,6),(6,2),(2,1)],[(2,6),(6,7),(7,2)],[(2,7),(7,3),(3,2)],[(3,7),(7,8),(8,3)],[(3,8),(8,4),(4,3)],[(4,8),(8,9),(9,4)],[(4,9),(9,5),(5,4)],[(5,9),(9,10),(10,5)],[(6,10),(10,11),(11,6)],[(6,11),(11,7),(7,6)],[(7,11),(11,8),(8,7)],[(8,11),(11,9),(9,8)],[(9,11),(11,10),(10,9)]]
section
variable {A R:List (List Int)} {l:List Int}
def Lc (l:List Int) (d:bp):bp:=(AM l d.1,AM l d.2)
end
end Gm
end
section
namespace L2
open PySem PySem.Spec PySem.W PySem.Calls PyProof.Rows Gm Fr
end L2
namespace Gm
open PySem L2
end Gm
end
section
namespace L2
open PySem PySem.Spec PySem.W PySem.Calls PyProof.Rows Gm
def Kx (d:Addr) (o:Obj) (aV:List (List Key×V)):It:=
 ⟨fun i H=>H d = some (.iK o (.dT aV))∧i < aV.length,fun i H x H'=>H' = H∧∃ k v b,aV[i]? = some (k,v)∧H b = some (.tup (k.map kV))∧x = .ref b,fun i H=>H d = some (.iK o (.dT aV))∧aV.length≤i⟩
section
variable {X:Cx} {tg:Expr}
def C7 (tl:TE):TI:=fun σ H R=>tl σ H fun x H1=>∃ a aV,x = .ref a∧H1 a = some (.dT aV)∧∀ o,R (Kx a o aV) (upd H1 a (.iK o (.dT aV)))
end
end L2
end
section
namespace L2
open PySem PySem.Spec PySem.W PySem.Calls PyProof.Rows Gm
section
variable {X:Cx} {pins:List (Addr×Obj)} {σ : St} {H:Hp} {s:Shared} {a:Addr} {A:Around} {E:Value→Shared→Prop}
def Bs (tk tv:TE):TE:=fun σ H Q=>∀ p,H p = none→jZ [(tk,tv)] σ (upd H p (.dT [])) fun ps H2=>H2 p = some (.dT [])∧∃ (b:Addr) (k:List Key) (y:V),ps = [(.ref b,y)]∧H2 b = some (.tup (k.map kV))∧Q (.ref p) (upd H2 p (.dT [(k,y)]))
end
end L2
namespace L2
open PySem PySem.Spec PySem.W PySem.Calls PyProof.Rows Gm
section
variable {X:Cx} {pins:List (Addr×Obj)} {σ : St} {H:Hp} {s:Shared} {a:Addr} {A:Around} {E:Value→Shared→Prop}
def Bt (td ty:TE):TE:=fun σ H Q=>td σ H fun x H1=>∃ a,x = .ref a∧Al H1 a∧ty σ H1 fun y H2=>∃ (aV:List (List Key×V)) (j:Nat) (k:List Key) (v:V) (b:Addr),H2 a = some (.dT aV)∧y = .ref b∧H2 b = some (.tup (k.map kV))∧aV[j]? = some (k,v)∧Q v (upd H2 a (.dT (aV.eraseIdx j)))
def EV (H0:Hp) (t:TS):TS:=fun D σ H=>t { D with nx:=fun σ' H'=>∃ (d:Addr) (o:Obj) (aV:List (List Key×V)),H' d = some (.iK o (.dT aV))∧(∀ o' u',H0 d≠some (.iK o' u'))∧D.nx σ' (upd H' d (.dT aV)) } σ H
end
end L2
end
section
namespace iT
open PySem
def EC (xs:Array Nat):Prop:=∀ i j a b:Nat,xs[i]? = some a→xs[j]? = some b→i < j→a < b
structure Tb (led:Bool) (t:SetTable):Prop where
 rise:EC t.place
 dm:t.dummies = #[]
 ld:t.led = led
end iT
end
section
namespace iT
open PySem PySem.Spec PyProof.Rows
section
variable {prog:Program} {w:World} {A:Around} {E:Value→Shared→Prop} {s:Shared} {led:Bool}
def Km (prog:Program) (w:World) (led:Bool) (h:Heap) (a:Addr) (S:Int→Bool) (n:Nat):Prop:=
 ∃ o es ep t,h.get? a = some o∧o.ExactSet∧o.data = .set es ep t∧ElemsOf (intKind prog w) es.toList∧(∀ k,S k = true↔∃ e∈es.toList,(intKind prog w).is k e.2 = true)∧es.size < scanBound∧t.fits es.size = true∧es.size = n∧Tb led t
end
end iT
end
section
namespace iT
open PySem PySem.Spec PyProof.Rows
end iT
end
section
namespace iT
open PySem PySem.Spec PyProof.Rows
section
variable {prog:Program} {w:World} {A:Around} {E:Value→Shared→Prop} {s:Shared}
def zd (w:World):Bool:=!w.params.followText "set-order"
def Ie (w:World):Obj:={ cls:=.type "set",dict:=none,data:=.set #[] 0 (.fresh 0 0 (zd w)) }
end
end iT
end
section
namespace iT
open PySem PySem.Spec
end iT
end
section
namespace iT
open PySem PySem.Spec
end iT
end
section
namespace iT
open PySem PySem.Spec PyProof.Rows
section
variable {prog:Program} {w:World} {A:Around} {E:Value→Shared→Prop} {s:Shared} {a:Addr} {o:Obj} {es:Array (Int×Value)} {ep:Nat} {t:SetTable}
def At (t:SetTable) (i slot:Nat):Prop:=(i = 0∧slot = 0)∨∃ k j,i = k + 1∧t.place[k]? = some j∧slot = j + 1
end
end iT
end
section
namespace iT
open PySem PySem.Spec PyProof.Rows PySem.Calls
def Kz (h:Heap) (ik a:Addr) (first:Value) (i size ep:Nat):Prop:=∃ oi,h.get? ik = some oi∧oi.cls = .type "set_iterator"∧oi.data = .fields #[first,.int i 0,.ref a,.int size 0,.int ep 0]
end iT
end
section
namespace iT
open PySem PySem.Spec PyProof.Rows PySem.Calls
end iT
end
section
namespace iT
open PySem PySem.Spec PyProof.Rows PySem.Calls
end iT
end
section
namespace iT
open PySem PySem.Spec PyProof.Rows PySem.Calls
def vInt:Value→Int
 | .int k _=>k
 | _=>0
section
variable {prog:Program} {w:World} {A:Around} {E:Value→Shared→Prop} {s:Shared} {a:Addr}
def Met (S:Int→Bool) (n:Nat) (vs:List Value):Prop:=∃ ns:List Int,IntsAre vs ns∧ns.length = n∧∀ k,S k = true↔k∈ns
end
end iT
end
section
namespace iT
open PySem PySem.Spec PyProof.Rows PySem.Calls
end iT
namespace L2
open PySem PySem.Spec PySem.W PySem.Calls PyProof.Rows
def yk (K:Frag) (te:TE):TE:=fun σ H Q=>te σ H fun x H1=>∃ (a:Addr) (ns:List Int),x = .ref a∧aO K H1 a (ns.map V.int)∧ns.length < 64∧
 ∀ (w9:List Int) (p:Addr),w9.Perm (gu ns)→w9.Pairwise (·≤·)→H1 p = none→Q (.ref p) (upd H1 p (.lst (w9.map V.int)))
end L2
end
section
namespace Gm
open PySem L2
def yW (L:List (List Int)) (r:List Int) (c:Nat):List Int:=put (rowOf L (cy r c)) ((rowOf L (cy r c)).idxOf (cy r (c + (r.length - 1)))) L.length
def yV (L:List (List Int)) (r:List Int) (cs:List Nat):List (List Int):=cs.foldl (fun M c=>M.set (cy r c).toNat (yW L r c)) L
def HA (L:List (List Int)) (r:List Int) (cs:List Nat):List (List Int):=yV L r cs ++ [cs.map (cy r)]
def Ko (r:List Int) (cs:List Nat):Prop:=cs≠[]∧cs.Pairwise (· < ·)∧(cs.map (cy r)).Nodup
end Gm
end
section
namespace L2
open PySem
theorem iq {t:TT} {ta tb:TS} {D:Ends} {σ : St} {H:Hp} (Y N:Hp→Prop) (hy:∀ H',Y H'→ta D σ H') (hn:∀ H',N H'→tb D σ H')
  (h:∀ R:Bool→Hp→Prop,(∀ H',Y H'→R true H')→(∀ H',N H'→R false H')→t σ H R):wt t ta tb D σ H:=
 n5 (h _ (fun H' y=>AS (hy H' y)) fun H' y=>AU (hn H' y))
end L2
namespace Gm
open PySem L2
def Ih (cs:List Nat):List Int:=cs.map fun c:Nat=>(c:Int)
end Gm
end
section
namespace Gm
open PySem L2
def eJ (L:List (List Int)) (i:Nat):Prop:=¬ ((L.getD i []).Nodup∧∀ x∈L.getD i [],x≠(i:Int)∧0≤x∧x < L.length∧(i:Int)∈rowOf L x)
structure dX (L:List (List Int)) (i:Nat):Prop where
 lt:i < L.length
 wr:eJ L i
 no:∀ j,j < i→¬ eJ L j
theorem dX.uniq {L:List (List Int)} {i j:Nat} (a:dX L i) (b:dX L j):i = j:=by
 rcases Nat.lt_trichotomy i j with h | h | h
 ·exact absurd a.wr (b.no i h)
 ·exact h
 ·exact absurd b.wr (a.no j h)
theorem getD_at {L:List (List Int)} {i:Nat} {l:List Int} (h:L[i]? = some l):L.getD i [] = l:=by rw [List.getD_eq_getElem?_getD,h]; rfl
end Gm
end
section
namespace Gm
open PySem PySem.NumText
def st (l:List Nat):Str:=⟨l.toArray⟩
theorem cL (l:List Nat):(st l).cps.toList = l:=rfl
theorem qH (x:Str):st x.cps.toList = x:=dh rfl
theorem dw (l:List Nat):(st l).length = l.length:=by show l.toArray.size = _; simp
def sp (c:Nat):List Nat→List (List Nat)
 | []=>[[]]
 | a :: r=>if a = c then [] :: sp c r else match sp c r with | []=>[[a]] | t :: ts=>(a :: t) :: ts
theorem gA (c:Nat) (l:List Nat):sp c l≠[]:=by
 cases l with
 | nil=>simp [sp]
 | cons a r=>
  unfold sp
  by_cases h:a = c
  ·rw [if_pos h]; simp
  ·rw [if_neg h]; split <;> simp
theorem fG {c a:Nat} (h:a≠c) (r:List Nat):∃ t ts,sp c r = t :: ts∧sp c (a :: r) = (a :: t) :: ts:=by
 cases e:sp c r with
 | nil=>exact absurd e (gA c r)
 | cons t ts=>exact ⟨t,ts,rfl,by rw [sp,if_neg h,e]⟩
theorem fF (c:Nat) (r:List Nat):sp c (c :: r) = [] :: sp c r:=by rw [sp,if_pos rfl]
theorem j9 (c:Nat):∀ (l:List Nat),∀ t∈sp c l,c∉t
 | [],t,ht=>by rw [sp] at ht; rw [List.mem_singleton.mp ht]; simp
 | a :: r,t,ht=>by
  by_cases h:a = c
  ·subst h
   rw [fF] at ht
   rcases List.mem_cons.mp ht with e | e
   ·rw [e]; simp
   ·exact j9 a r t e
  ·obtain ⟨u,us,e1,e2⟩:=fG h r
   have ih:=j9 c r
   rw [e1] at ih
   rw [e2] at ht
   rcases List.mem_cons.mp ht with e | e
   ·rw [e]
    intro z
    rcases List.mem_cons.mp z with z | z
    ·exact h z.symm
    ·exact ih u List.mem_cons_self z
   ·exact ih t (List.mem_cons_of_mem _ e)
theorem qL (c:Nat):∀ (l:List Nat),jl [c] (sp c l) = l
 | []=>rfl
 | a :: r=>by
  have ih:=qL c r
  by_cases h:a = c
  ·subst h
   rw [fF]
   cases e:sp a r with
   | nil=>exact absurd e (gA a r)
   | cons t ts=>
    rw [e] at ih
    show [] ++ [a] ++ jl [a] (t :: ts) = _
    rw [ih]
    rfl
  ·obtain ⟨u,us,e1,e2⟩:=fG h r
   rw [e1] at ih
   rw [e2]
   cases us with
   | nil=>
    have:u = r:=ih
    show a :: u = _
    rw [this]
   | cons v vs=>
    have:u ++ [c] ++ jl [c] (v :: vs) = r:=ih
    show (a :: u) ++ [c] ++ jl [c] (v :: vs) = _
    rw [← this]
    simp
theorem fD (c:Nat) (x:Str):Txt.split x ⟨#[c]⟩ = (sp c x.cps.toList).map st:=by
 have e:x = Str.join ⟨#[c]⟩ ((sp c x.cps.toList).map st):=by
  refine dh ?_
  rw [join_list,List.map_map]
  show _ = jl [c] ((sp c x.cps.toList).map fun t=>t)
  rw [List.map_id',qL]
 have h:=mO (c:=c) (ts:=(sp c x.cps.toList).map st) (by simpa using gA c _) (fun t ht=>by
  obtain ⟨u,hu,rfl⟩:=List.mem_map.mp ht
  exact j9 c _ u hu)
 rw [← e] at h
 exact h
theorem gj (c:Nat):∀ (l:List Nat),(sp c l).length = l.count c + 1
 | []=>rfl
 | a :: r=>by
  have ih:=gj c r
  by_cases h:a = c
  ·subst h
   rw [fF,List.length_cons,ih,List.count_cons_self]
  ·obtain ⟨u,us,e1,e2⟩:=fG h r
   rw [e1,List.length_cons] at ih
   rw [e2,List.length_cons,List.count_cons_of_ne h,ih]
theorem h9 (c:Nat):∀ (l:List Nat),∀ t∈sp c l,t.Sublist l
 | [],t,ht=>by rw [sp] at ht; rw [List.mem_singleton.mp ht]; exact .slnil
 | a :: r,t,ht=>by
  have ih:=h9 c r
  by_cases h:a = c
  ·subst h
   rw [fF] at ht
   rcases List.mem_cons.mp ht with e | e
   ·rw [e]; exact List.nil_sublist _
   ·exact (ih t e).cons a
  ·obtain ⟨u,us,e1,e2⟩:=fG h r
   rw [e1] at ih
   rw [e2] at ht
   rcases List.mem_cons.mp ht with e | e
   ·rw [e]; exact (ih u List.mem_cons_self).cons_cons a
   ·exact (ih t (List.mem_cons_of_mem _ e)).cons a
theorem ka {c:Nat} (r:List Nat):∀ (h:List Nat),c∉h→∃ t ts,sp c r = t :: ts∧sp c (h ++ r) = (h ++ t) :: ts
 | [],_=>by
  cases e:sp c r with
  | nil=>exact absurd e (gA c r)
  | cons t ts=>exact ⟨t,ts,rfl,e⟩
 | a :: h,hc=>by
  obtain ⟨t,ts,e1,e2⟩:=ka r h (fun z=>hc (List.mem_cons_of_mem _ z))
  obtain ⟨u,us,e3,e4⟩:=fG (c:=c) (a:=a) (fun z=>hc (by rw [z]; exact List.mem_cons_self)) (h ++ r)
  rw [e2] at e3
  cases e3
  exact ⟨t,ts,e1,e4⟩
theorem wx {c:Nat} {l t:List Nat} {ts:List (List Nat)} (e:sp c l = t :: ts):∃ r,l = t ++ r:=by
 have h:=qL c l
 rw [e] at h
 cases ts with
 | nil=>exact ⟨[],by rw [List.append_nil]; exact h.symm⟩
 | cons v vs=>exact ⟨[c] ++ jl [c] (v :: vs),by rw [← List.append_assoc]; exact h.symm⟩
def kA (c:Nat):Bool:=decide (48≤c) && decide (c≤57)
theorem gY {c:Nat}:kA c = true↔48≤c∧c≤57:=by unfold kA; simp
def wd (w:List Nat):Bool:=!w.isEmpty && (w == [48] || w.head? != some 48) && w.all kA
theorem mG {w:List Nat} (h:wd w = true):AllDigits w:=by
 unfold wd at h
 simp only [Bool.and_eq_true,List.all_eq_true] at h
 exact fun c hc=>gY.mp (h.2 c hc)
theorem vi {w:List Nat} (h:wd w = true):w≠[]:=by
 rintro rfl
 simp [wd] at h
def gU (w:List Nat):Bool:=wd w && decide (w.length≤60)
def dg (l:List Nat):Nat:=l.countP kA
theorem uZ {w:List Nat} (h:wd w = true):dg w = w.length:=List.countP_eq_length.mpr fun c hc=>gY.mpr (mG h c hc)
theorem qy {w l:List Nat} (h:wd w = true) (s:w.Sublist l) (hl:dg l≤60):w.length≤60:=by
 have:=s.countP_le (p:=kA)
 have:=uZ h
 unfold dg at *
 omega
def hd (k:Nat):List Nat:=(num (k:Int) ++ mB).cps.toList
def ro (k:Nat) (row:List Nat):Option (List Int):=match sp 32 row with
 | []=>none
 | t :: ts=>if t = hd k∧ts.all gU = true then some (ts.map fun w=>(digitsVal w:Int)) else none
theorem ke {k:Nat} {row t:List Nat} {ts:List (List Nat)} (e:sp 32 row = t :: ts) (h1:t = hd k) (h2:ts.all gU = true):ro k row = some (ts.map fun w=>(digitsVal w:Int)):=by
 unfold ro; rw [e]; exact if_pos ⟨h1,h2⟩
theorem fI {k:Nat} {row t:List Nat} {ts:List (List Nat)} (e:sp 32 row = t :: ts) (h:¬ (t = hd k∧ts.all gU = true)):ro k row = none:=by
 unfold ro; rw [e]; exact if_neg h
def i5 (R:List (List Nat)) (i:Nat):Prop:=∃ row,R[i]? = some row∧ro i row = none∧∀ j,j < i→∀ r,R[j]? = some r→ro j r≠none
def fB (R:List (List Nat)) (L:List (List Int)):Prop:=L.length = R.length∧∀ i r,R[i]? = some r→∃ l,L[i]? = some l∧ro i r = some l
theorem fB.snoc {R:List (List Nat)} {L:List (List Int)} {r:List Nat} {l:List Int} (h:fB R L) (e:ro L.length r = some l):fB (R ++ [r]) (L ++ [l]):=by
 refine ⟨by simp [h.1],fun i u hu=>?_⟩
 rcases Nat.lt_trichotomy i R.length with z | z | z
 ·rw [List.getElem?_append_left z] at hu
  obtain ⟨l',h1,h2⟩:=h.2 i u hu
  exact ⟨l',by rw [List.getElem?_append_left (by rw [h.1]; exact z)]; exact h1,h2⟩
 ·subst z
  rw [List.getElem?_append_right (Nat.le_refl _),Nat.sub_self] at hu
  have:r = u:=by simpa using hu
  subst this
  rw [h.1] at e
  exact ⟨l,by rw [List.getElem?_append_right (by rw [h.1]; exact Nat.le_refl _),h.1,Nat.sub_self]; rfl,e⟩
 ·rw [List.getElem?_eq_none (by simp; omega)] at hu
  cases hu
theorem fB.uniq {R:List (List Nat)} {L M:List (List Int)} (h:fB R L) (g:fB R M):L = M:=by
 refine List.ext_getElem? fun i=>?_
 by_cases z:i < R.length
 ·obtain ⟨l,h1,h2⟩:=h.2 i R[i] (by simp)
  obtain ⟨m,g1,g2⟩:=g.2 i R[i] (by simp)
  rw [h2] at g2
  cases g2
  rw [h1,g1]
 ·rw [List.getElem?_eq_none (by rw [h.1]; omega),List.getElem?_eq_none (by rw [g.1]; omega)]
theorem qT {k:Nat} {row:List Nat} {l:List Int} (h:ro k row = some l):l.length≤row.length:=by
 cases e:sp 32 row with
 | nil=>exact absurd e (gA 32 row)
 | cons t ts=>
  have hl:=gj 32 row
  rw [e,List.length_cons] at hl
  unfold ro at h
  rw [e] at h
  simp only at h
  split at h
  ·rw [← Option.some.inj h,List.length_map]
   have:=List.count_le_length (a:=32) (l:=row)
   omega
  ·cases h
theorem o8 {k:Nat} {row:List Nat} {l:List Int} (h:ro k row = some l):∀ x∈l,0≤x:=by
 cases e:sp 32 row with
 | nil=>exact absurd e (gA 32 row)
 | cons t ts=>
  unfold ro at h
  rw [e] at h
  simp only at h
  split at h
  ·rw [← Option.some.inj h]
   intro x hx
   obtain ⟨w,_,rfl⟩:=List.mem_map.mp hx
   omega
  ·cases h
structure Tx (m:Nat) (x:List Nat):Prop where
 d:dg x≤36 + m
 n:x.count 10≤6 + m
 l:x.length≤366 + m
 a:∀ c∈x,c < 128
theorem Tx.ascii {m:Nat} {x:Str} (h:Tx m x.cps.toList):x.cps.all (· < 128) = true:=by
 rw [Array.all_eq_true']
 intro c hc
 exact decide_eq_true (h.a c (Array.mem_toList_iff.mpr hc))
theorem oK (x:List Nat) {i j:Nat} (h:i≤j):(x.take i ++ x.drop j).Sublist x:=by
 have h1:(x.drop j).Sublist (x.drop i):=by
  obtain ⟨k,rfl⟩:=Nat.exists_eq_add_of_le h
  rw [← List.drop_drop]
  exact List.drop_sublist _ _
 have:=(List.Sublist.refl (x.take i)).append h1
 rw [List.take_append_drop] at this
 exact this
theorem Tx.cut {m:Nat} {x:List Nat} (t:Tx m x) {i j:Nat} (h:i≤j):Tx (m + 1) (x.take i ++ x.drop j):=by
 have s:=oK x h
 have h1:=s.countP_le (p:=kA)
 have h2:=s.count_le 10
 have h3:=s.length_le
 exact ⟨by have:=t.d; unfold dg at *; omega,by have:=t.n; omega,by have:=t.l; omega,fun c hc=>t.a c (s.subset hc)⟩
theorem Tx.put {m:Nat} {x:List Nat} (t:Tx m x) {i j c:Nat} (h:i≤j) (hc:c < 128):Tx (m + 1) (x.take i ++ [c] ++ x.drop j):=by
 have s:=oK x h
 have h1:=s.countP_le (p:=kA)
 have h2:=s.count_le 10
 have h3:=s.length_le
 have k1:(x.take i ++ [c] ++ x.drop j).Perm (c :: (x.take i ++ x.drop j)):=by
  rw [List.append_assoc]
  exact List.perm_middle
 refine ⟨?_,?_,?_,fun z hz=>?_⟩
 ·have:=t.d
  unfold dg at *
  rw [k1.countP_eq,List.countP_cons]
  split <;> omega
 ·have:=t.n
  rw [k1.count_eq,List.count_cons]
  split <;> omega
 ·have:=t.l
  rw [k1.length_eq,List.length_cons]
  omega
 ·rcases List.mem_cons.mp (k1.mem_iff.mp hz) with z | z
  ·rw [z]; exact hc
  ·exact t.a _ (s.subset z)
theorem Tx.mono {m m':Nat} {x:List Nat} (t:Tx m x) (h:m≤m'):Tx m' x:=⟨by have:=t.d; omega,by have:=t.n; omega,by have:=t.l; omega,t.a⟩
end Gm
end
section
namespace Gm
open PySem PySem.NumText PySem.W
theorem iD (n:Nat):(num (n:Int)).cps.toList = (Nat.toDigits 10 n).map Char.toNat:=KIN.signs_num n
theorem fR (n:Nat):AllDigits (num (n:Int)).cps.toList:=by
 intro c hc
 rw [iD] at hc
 obtain ⟨ch,qv,rfl⟩:=List.mem_map.mp hc
 exact PyProof.Rows.digit_range (Nat.isDigit_of_mem_toDigits (by decide) (by decide) qv)
theorem xN:∀ d:Nat,d < 10→d≠0→(Nat.digitChar d).toNat≠48:=by decide
theorem r8 (n:Nat):n = 0∨((Nat.toDigits 10 n).map Char.toNat).head?≠some 48:=by
 induction n using Nat.strongRecOn with
 | _ n ih=>
  by_cases h:n < 10
  ·by_cases z:n = 0
   ·exact .inl z
   ·refine .inr ?_
    rw [Nat.toDigits_of_lt_base h]
    intro e
    exact xN n h z (by simpa using e)
  ·refine .inr ?_
   rw [Nat.toDigits_of_base_le (by decide) (by omega),List.map_append]
   have ih:=ih (n / 10) (by omega)
   rcases ih with z | z
   ·omega
   ·cases e:(Nat.toDigits 10 (n / 10)).map Char.toNat with
    | nil=>exact absurd (List.map_eq_nil_iff.mp e) Nat.toDigits_ne_nil
    | cons a r=>rw [e] at z; exact z
theorem w4 (n:Nat):wd (num (n:Int)).cps.toList = true:=by
 have h1:=fR n
 have h2:=r8 n
 rw [iD] at h1 ⊢
 have ne:(Nat.toDigits 10 n).map Char.toNat≠[]:=fun e=>Nat.toDigits_ne_nil (List.map_eq_nil_iff.mp e)
 unfold wd
 simp only [Bool.and_eq_true,List.all_eq_true,Bool.or_eq_true,beq_iff_eq,bne_iff_ne]
 refine ⟨⟨?_,?_⟩,fun c hc=>gY.mpr (h1 c hc)⟩
 ·cases e:(Nat.toDigits 10 n).map Char.toNat with
  | nil=>exact absurd e ne
  | cons a r=>rfl
 ·rcases h2 with z | z
  ·left; rw [z]; rfl
  ·right; exact z
theorem fQ {n k:Nat} (hk:0 < k):(num (n:Int)).length≤k↔n < 10 ^ k:=by
 have e:(num (n:Int)).length = (Nat.toDigits 10 n).length:=by
  have:=congrArg List.length (iD n)
  rw [List.length_map] at this
  rw [← this]
  simp [Str.length]
 rw [e]
 exact Nat.length_toDigits_le_iff (by decide) hk
theorem uH (k:Nat):hd k = (num (k:Int)).cps.toList ++ [58]:=by
 unfold hd
 rw [bK,hW]
theorem uI {k c:Nat} (hc:c < 48):c∉hd k:=by
 rw [uH]
 intro h
 rcases List.mem_append.mp h with z | z
 ·have:=(fR k c z).1; omega
 ·have:=List.mem_singleton.mp z; omega
theorem nF (a b:List Nat):dg (a ++ b) = dg a + dg b:=List.countP_append
theorem sY {c m:Nat} (hc:kA c = false):∀ (ts:List (List Nat)),(∀ t∈ts,dg t≤m)→dg (jl [c] ts)≤ts.length * m
 | [],_=>Nat.zero_le _
 | [a],h=>by
  have:=h a List.mem_cons_self
  show dg a≤1 * m
  omega
 | a :: b :: r,h=>by
  have ih:=sY hc (b :: r) fun t ht=>h t (List.mem_cons_of_mem _ ht)
  have:=h a List.mem_cons_self
  have e:dg [c] = 0:=by unfold dg; simp [hc]
  show dg (a ++ [c] ++ jl [c] (b :: r))≤_
  rw [nF,nF,e]
  rw [List.length_cons (a:=a),Nat.add_mul]
  omega
theorem vU {c:Nat}:∀ (ts:List (List Nat)),(∀ t∈ts,c∉t)→(jl [c] ts).count c≤ts.length
 | [],_=>Nat.zero_le _
 | [a],h=>by
  show List.count c a≤1
  rw [List.count_eq_zero.mpr (h a List.mem_cons_self)]
  omega
 | a :: b :: r,h=>by
  have ih:=vU (b :: r) fun t ht=>h t (List.mem_cons_of_mem _ ht)
  show List.count c (a ++ [c] ++ jl [c] (b :: r))≤_
  rw [List.count_append,List.count_append,List.count_eq_zero.mpr (h a List.mem_cons_self),List.length_cons (a:=a)]
  have e:List.count c [c] = 1:=by simp
  rw [e]
  omega
theorem ow {n:Nat} (h:n < 10):dg (num (n:Int)).cps.toList≤1:=by
 have h1:=(fQ (n:=n) (k:=1) (by decide)).mpr (by omega)
 have h2:=List.countP_le_length (p:=kA) (l:=(num (n:Int)).cps.toList)
 have h3:(num (n:Int)).cps.toList.length = (num (n:Int)).length:=by simp [Str.length]
 unfold dg
 omega
theorem xc {L:List (List Int)} (im:iW L) (h6:L.length≤6):Tx 0 (ji L).cps.toList:=by
 have sm:=vy im (by omega)
 have sV:qG.cps.toList = [10]:=by rw [mL]
 have FZ:mC.cps.toList = [32]:=by rw [hZ]
 have rows:∀ t∈cU L,dg t.cps.toList≤6∧10∉t.cps.toList∧∀ c∈t.cps.toList,c < 128:=fun t ht=>by
  obtain ⟨i,l,hl,hi,hf,rfl⟩:=sm.row ht
  have Lz:i < 6:=by have:=(List.getElem?_eq_some_iff.mp hl).1; omega
  have lm:=List.mem_of_getElem? hl
  have l5:l.length≤5:=by
   have iL:i < L.length:=(List.getElem?_eq_some_iff.mp hl).1
   have nd:((i:Int) :: l).Nodup:=List.nodup_cons.mpr ⟨fun z=>(im.rg i l hl _ z).2.2 rfl,im.nd i l hl⟩
   have:=gp nd (n:=L.length) fun y hy=>by
    rcases List.mem_cons.mp hy with z | z
    ·rw [z]; exact ⟨by omega,by omega⟩
    ·exact ⟨(im.rg i l hl y z).1,(im.rg i l hl y z).2.1⟩
   rw [List.length_cons] at this
   omega
  have xs:∀ x∈l,∃ n:Nat,x = (n:Int)∧n < 6:=fun x hx=>by
   have r:=im.rg i l hl x hx
   exact ⟨x.toNat,by omega,by omega⟩
  refine ⟨?_,row_free (by omega) (by omega) hf,?_⟩
  ·unfold gK
   rw [join_list,FZ]
   refine Nat.le_trans (sY (m:=1) (by decide) _ fun t ht=>?_) (by simp; omega)
   rcases List.mem_cons.mp ht with z | z
   ·subst z
    show dg (num (i:Int) ++ mB).cps.toList≤1
    rw [bK,nF,hW]
    have:=ow (n:=i) (by omega)
    have e:dg [58] = 0:=by decide
    show _ + dg [58]≤1
    omega
   ·rw [List.map_map] at z
    obtain ⟨x,hx,rfl⟩:=List.mem_map.mp z
    obtain ⟨n,rfl,hn⟩:=xs x hx
    exact ow (by omega)
  ·intro c hc
   unfold gK at hc
   rw [join_list,FZ] at hc
   rcases kz hc with z | ⟨t,ht,z⟩
   ·rw [List.mem_singleton.mp z]; decide
   ·rcases List.mem_cons.mp ht with y | y
    ·subst y
     have z:c∈(num (i:Int) ++ mB).cps.toList:=z
     rw [bK,hW] at z
     rcases List.mem_append.mp z with z | z
     ·have:=(fR i c z).2; omega
     ·have:c = 58:=by simpa using z
      omega
    ·rw [List.map_map] at y
     obtain ⟨x,hx,rfl⟩:=List.mem_map.mp y
     obtain ⟨n,rfl,hn⟩:=xs x hx
     have:=(fR n c z).2
     omega
 have rl:((cU L).map fun t=>t.cps.toList).length≤6:=by rw [List.length_map,eO]; exact h6
 have ml:∀ t∈(cU L).map fun t=>t.cps.toList,dg t≤6∧10∉t∧∀ c∈t,c < 128:=fun t ht=>by
  obtain ⟨u,hu,rfl⟩:=List.mem_map.mp ht
  exact rows u hu
 have len:(ji L).cps.toList.length≤366:=by
  have q:=fU qG 60 _ (ie sm)
  have e:qG.length = 1:=by decide +kernel
  rw [e,eO] at q
  have:(ji L).cps.toList.length = (ji L).length:=by simp [Str.length]
  rw [this]
  unfold ji
  omega
 refine ⟨?_,?_,len,fun c hc=>?_⟩
 ·unfold ji
  rw [join_list,sV]
  have:=sY (c:=10) (m:=6) (by decide) _ fun t ht=>(ml t ht).1
  omega
 ·unfold ji
  rw [join_list,sV]
  have:=vU (c:=10) _ fun t ht=>(ml t ht).2.1
  omega
 ·unfold ji at hc
  rw [join_list,sV] at hc
  rcases kz hc with z | ⟨t,ht,z⟩
  ·rw [List.mem_singleton.mp z]; decide
  ·exact (ml t ht).2.2 c z
end Gm
end
section
namespace Gm
open PySem PySem.NumText PySem.W
theorem qK {c:Nat} {l:List Nat} (h:c∉l):sp c l = [l]:=by
 obtain ⟨t,ts,e1,e2⟩:=ka (c:=c) [] l h
 have:([[]]:List (List Nat)) = t :: ts:=e1
 cases this
 rw [List.append_nil] at e2
 exact e2
theorem Ji:hd 0 = [48,58]:=by decide +kernel
theorem vB {w:List Nat} (h:32∉w):sp 32 ([48,58,32] ++ w) = [[48,58],w]:=by
 obtain ⟨t,ts,e1,e2⟩:=ka (c:=32) (32 :: w) [48,58] (by decide)
 rw [fF,qK h] at e1
 cases e1
 exact e2
theorem qS {w:List Nat} (h:10∉w):sp 10 ([48,58,32] ++ w) = [[48,58,32] ++ w]:=qK fun z=>by
 rcases List.mem_append.mp z with z | z
 ·exact absurd z (by decide)
 ·exact h z
theorem rX {w:List Nat} (h:gU w = true) (h1:32∉w) (h2:10∉w):fB (sp 10 ([48,58,32] ++ w)) [[(digitsVal w:Int)]]∧dX [[(digitsVal w:Int)]] 0:=by
 have e:ro 0 ([48,58,32] ++ w) = some [(digitsVal w:Int)]:=ke (vB h1) Ji.symm (by simp [h])
 refine ⟨?_,by simp,?_,fun j hj=>absurd hj (Nat.not_lt_zero _)⟩
 ·rw [qS h2]
  refine ⟨rfl,fun i r hr=>?_⟩
  cases i with
  | zero=>
   have:[48,58,32] ++ w = r:=by simpa using hr
   subst this
   exact ⟨_,rfl,e⟩
  | succ i=>simp at hr
 ·rintro ⟨_,z⟩
  have:=z (digitsVal w:Int) (by simp)
  simp at this
  omega
theorem rY {w:List Nat} (h:gU w = false) (h1:32∉w) (h2:10∉w):i5 (sp 10 ([48,58,32] ++ w)) 0:=by
 rw [qS h2]
 exact ⟨_,rfl,fI (vB h1) (fun ⟨_,z⟩=>by simp [h] at z),fun j hj=>absurd hj (Nat.not_lt_zero _)⟩
theorem eE {w:List Nat} (h:AllDigits w) {c:Nat} (hc:c < 48):c∉w:=fun z=>by have:=(h c z).1; omega
theorem wa {m:Nat} (h0:10 ^ 59≤m) (h1:m < 10 ^ 60):(num (m:Int)).length = 60∧gU (num (m:Int)).cps.toList = true∧gU ((num (m:Int)).cps.toList ++ [55]) = false:=by
 have a:=(fQ (n:=m) (k:=60) (by decide)).mpr h1
 have b:¬ (num (m:Int)).length≤59:=fun z=>by
  have:=(fQ (n:=m) (k:=59) (by decide)).mp z
  omega
 have e:(num (m:Int)).cps.toList.length = (num (m:Int)).length:=by simp [Str.length]
 refine ⟨by omega,?_,?_⟩
 ·unfold gU
  rw [w4,decide_eq_true (by omega)]
  rfl
 ·unfold gU
  rw [decide_eq_false (by rw [List.length_append,e]; simp; omega),Bool.and_false]
theorem fB.pre {R:List (List Nat)} {L:List (List Int)} {i:Nat} {r:List Nat} (h:fB (R.take i) L) (hr:R[i]? = some r) (hn:ro i r = none):i5 R i:=
 ⟨r,hr,hn,fun j hj r' IL z=>by
  obtain ⟨l,_,e⟩:=h.2 j r' (by rw [List.getElem?_take,if_pos hj]; exact IL)
  rw [z] at e; cases e⟩
end Gm
end
section
namespace xV
open PySem L2 Fr Gm
local macro_rules | `(tactic| walk_at "rd1")=>`(tactic| first
 | with_reducible refine r_seq ?_ | with_reducible refine r_asg ?_ | with_reducible refine r_gname ?_ | with_reducible refine r_op ?_ | with_reducible refine r_c ?_
 | ((with_reducible refine' r_var ?hv ?_); case' hv=>exact rfl)
 | with_reducible refine rf ?_ | with_reducible refine wF ?_ | with_reducible refine wH ?_ | with_reducible refine rD ?_ | with_reducible refine rm ?_
 | with_reducible refine q5 ?_ | with_reducible refine q0 ?_ | with_reducible refine m9 ?_ | with_reducible refine n5 ?_ | with_reducible refine mU ?_ | with_reducible refine BW ?_ | with_reducible refine wK ?_
 | with_reducible refine rj ?_ | with_reducible refine rF ?_ | with_reducible refine wI ?_ | with_reducible refine ng ?_ | with_reducible refine ri ?_ | with_reducible refine mX ?_ | with_reducible refine vE ?_
 | with_reducible refine ip ?_ | with_reducible refine eu ?_ | with_reducible refine ki ?_ | with_reducible refine wJ ?_ | with_reducible refine qY ?_ | with_reducible refine rq ?_ | with_reducible refine mZ ?_
 | with_reducible refine kh ?_ | with_reducible refine m8 ?_ | with_reducible refine vC ?_ | with_reducible refine AS ?_ | with_reducible refine AU ?_ | with_reducible refine xp ?_ | with_reducible refine xq ?_
 | ((with_reducible refine rh ?hc ?_); case' hc=>walk_at "side")
 | ((with_reducible refine' vD ?hp ?hi ?_); (case' hp=>walk_at "seq"); (case' hi=>exact rfl))
 | ((with_reducible refine' cw ?hp ?hi ?_); (case' hp=>walk_at "seq"); (case' hi=>exact rfl))
 | ((with_reducible refine' ir ?hp ?hi ?_); (case' hp=>walk_at "seq"); (case' hi=>exact rfl))
 | ((with_reducible refine And.intro ?hl ?_); case' hl=>(first | exact vz | exact yI))
 | with_reducible refine uj ?_ | with_reducible refine vG ?_ | with_reducible refine mT ?_ | with_reducible refine rz ?_ | with_reducible refine mY ?_ | with_reducible refine n3 ?_ | with_reducible refine kj ?_ | with_reducible refine mS ?_ | with_reducible refine rp ?_ | with_reducible refine ig ?_ | with_reducible refine qX ?_ | with_reducible refine kg ?_ | with_reducible refine lA ?_ | with_reducible refine vF ?_ | with_reducible refine rE ?_ | with_reducible refine rB ?_ | with_reducible refine rC ?_ | with_reducible refine rk ?_ | with_reducible refine rA ?_ | with_reducible refine qZ ?_ | with_reducible refine ij ?_ | with_reducible refine mW ?_
 | dsimp only)
local macro_rules | `(tactic| walk_at "rd")=>`(tactic| repeat walk_at "rd1")
local macro_rules | `(tactic| walk_at "blk_vis")=>`(tactic| first | exact Or.inl rfl | exact Or.inr (Or.inl rfl) | exact Or.inr (Or.inr rfl))
local macro_rules | `(tactic| walk_at "blk_ok")=>`(tactic| exact ⟨rfl,by decide +kernel,by decide +kernel,rfl,by (first | exact trivial | exact ⟨rfl,trivial⟩ | exact ⟨rfl,rfl,trivial⟩ | exact ⟨rfl,rfl,rfl,trivial⟩ | exact ⟨rfl,rfl,rfl,rfl,trivial⟩ | exact ⟨rfl,rfl,rfl,rfl,rfl,trivial⟩),rfl,
 by (first | exact au | exact ae ⟨rfl,by walk_at "blk_vis",rfl,rfl⟩ au | exact ae ⟨rfl,by walk_at "blk_vis",rfl,rfl⟩ (ae ⟨rfl,by walk_at "blk_vis",rfl,rfl⟩ au) | exact ae ⟨rfl,by walk_at "blk_vis",rfl,rfl⟩ (ae ⟨rfl,by walk_at "blk_vis",rfl,rfl⟩ (ae ⟨rfl,by walk_at "blk_vis",rfl,rfl⟩ au)) | exact ae ⟨rfl,by walk_at "blk_vis",rfl,rfl⟩ (ae ⟨rfl,by walk_at "blk_vis",rfl,rfl⟩ (ae ⟨rfl,by walk_at "blk_vis",rfl,rfl⟩ (ae ⟨rfl,by walk_at "blk_vis",rfl,rfl⟩ au)))),
 by (first | exact ae rfl (ae rfl (ae rfl (ae rfl au))) | exact au | exact ae rfl au | exact ae rfl (ae rfl au) | exact ae rfl (ae rfl (ae rfl au)))⟩)
local macro_rules | `(tactic| walk_at "blk_ok1")=>`(tactic| exact ⟨rfl,fun _=>rfl,fun _=>rfl,by decide +kernel,rfl,by (first | exact trivial | exact ⟨rfl,trivial⟩ | exact ⟨rfl,rfl,trivial⟩ | exact ⟨rfl,rfl,rfl,trivial⟩ | exact ⟨rfl,rfl,rfl,rfl,trivial⟩),rfl,
 by (first | exact au | exact ae ⟨rfl,by walk_at "blk_vis",⟨rfl,rfl⟩,rfl⟩ au | exact ae ⟨rfl,by walk_at "blk_vis",⟨rfl,rfl⟩,rfl⟩ (ae ⟨rfl,by walk_at "blk_vis",⟨rfl,rfl⟩,rfl⟩ au) | exact ae ⟨rfl,by walk_at "blk_vis",⟨rfl,rfl⟩,rfl⟩ (ae ⟨rfl,by walk_at "blk_vis",⟨rfl,rfl⟩,rfl⟩ (ae ⟨rfl,by walk_at "blk_vis",⟨rfl,rfl⟩,rfl⟩ au))),
 by (first | exact au | exact ae rfl au | exact ae rfl (ae rfl au) | exact ae rfl (ae rfl (ae rfl au)))⟩)
local macro_rules | `(tactic| walk_at "side")=>`(tactic| first | assumption | exact (show (0:Int) < _ by decide) | exact kK (by decide) (by decide) | exact kL (by decide) (by decide) | exact mulL (by decide) (by decide))
local macro_rules | `(tactic| walk_at "seq")=>`(tactic| first | assumption | exact SqT.of (by assumption))
def top (i:Nat):Stmt:=PySem.Challenge.pw_standup_k97_no_text.main.body.getD i (.Pass ⟨0,0,0,0⟩)
abbrev bV:Stmt:=top 18
abbrev cG:Stmt:=top 19
abbrev b9:Stmt:=top 23
abbrev bU:Stmt:=top 24
abbrev et:Stmt:=top 25
abbrev aU:Stmt:=top 27
abbrev bw:Stmt:=top 28
abbrev bB:Stmt:=top 29
abbrev bA:Stmt:=top 30
abbrev bW:Stmt:=top 31
abbrev bL:Stmt:=top 32
abbrev aS:Stmt:=top 33
abbrev bh:Stmt:=top 34
abbrev bx:Stmt:=top 35
abbrev aL:Stmt:=top 36
abbrev bo:Stmt:=top 37
abbrev aR:Stmt:=top 38
abbrev aT:Stmt:=top 39
abbrev bj:Stmt:=top 40
abbrev fH:Stmt:=top 41
abbrev bH:Stmt:=vM (top 13) 0
abbrev bM:Stmt:=vM (top 14) 0
structure Gx where
 cI:Addr
 cZ:Addr
 iV:Addr
 jW:Addr
 dS:Addr
 dU:Addr
 fv:Addr
 dW:Addr
 eY:Addr
 Flat:Addr
 cR:Addr
 gy:Addr
 aN:Addr
 bG:Addr
 eZ:Addr
 gx:Addr
structure Txt (K:PySem.W.Frag) (mg:Str→Option Value) (Z:Gx):Prop where
 len:mg "len" = none
 isinstance:mg "isinstance" = none
 int:mg "int" = none
 bool:mg "bool" = none
 enumerate:mg "enumerate" = none
 range:mg "range" = none
 min:mg "min" = none
 list:mg "list" = none
 str:mg "str" = none
 all:mg "all" = none
 set:mg "set" = none
 ValueError:mg "ValueError" = none
 fu:mg "MapError" = some (.ref Z.cI)
 nM:mg "NoNumber" = some (.ref Z.cZ)
 u5:mg "NoOne" = some (.ref Z.iV)
 u4:mg "NoTie" = some (.ref Z.jW)
 qd:mg "NoOther" = some (.ref Z.dS)
 qf:mg "NoNames" = some (.ref Z.dU)
 tI:mg "NoLand" = some (.ref Z.fv)
 qg:mg "NoFrame" = some (.ref Z.dW)
 qb:mg "NoThree" = some (.ref Z.eY)
 xQ:mg "Flat" = some (.ref Z.Flat)
 mq:mg "NotInside" = some (.ref Z.cR)
 tH:mg "NoStep" = some (.ref Z.gy)
 gb:mg "NoText" = some (.ref Z.aN)
 kM:mg "NoMap" = some (.ref Z.bG)
 qc:mg "NoSheet" = some (.ref Z.eZ)
 tG:mg "Parted" = some (.ref Z.gx)
 cS:dq K Z.aN
 eM:dq K Z.bG
 m1:PySem.W.exmOne K (.ref Z.bG) (.ref Z.cI) = some true
 m2:PySem.W.kitOne K (.ref Z.bG) (.ref Z.bG) = some true
 m3:PySem.W.kitAny K (.ref Z.bG) [.ref Z.Flat,.ref Z.dW,.ref Z.fv,.ref Z.dU,.ref Z.cZ,.ref Z.iV,.ref Z.dS] = some false
 m4:PySem.W.kitAny K (.ref Z.bG) [.ref Z.eZ,.ref Z.gy,.ref Z.eY,.ref Z.jW,.ref Z.cR,.ref Z.gx] = some false
 m5:PySem.W.kitOne K (.ref Z.bG) (.type "ValueError") = some true
 m6:PySem.W.kitOne K (.ref Z.bG) (.ref Z.aN) = some false
 t1:PySem.W.exmOne K (.ref Z.aN) (.ref Z.cI) = some true
 t2:PySem.W.kitOne K (.ref Z.aN) (.ref Z.aN) = some true
 t3:PySem.W.kitAny K (.ref Z.aN) [.ref Z.Flat,.ref Z.dW,.ref Z.fv,.ref Z.dU,.ref Z.cZ,.ref Z.iV,.ref Z.dS] = some false
 t4:PySem.W.kitAny K (.ref Z.aN) [.ref Z.eZ,.ref Z.gy,.ref Z.eY,.ref Z.jW,.ref Z.cR,.ref Z.gx] = some false
 t5:PySem.W.kitOne K (.ref Z.aN) (.type "ValueError") = some true
 t6:PySem.W.kitOne K (.ref Z.aN) (.ref Z.bG) = some false
 iO:PySem.W.hasDictIn K Z.aN = true
 iS:PySem.W.findIn K (.ref Z.aN) "row" = some none
 oJ:PySem.W.hasDictIn K Z.bG = true
 oP:PySem.W.findIn K (.ref Z.bG) "place" = some none
 g_FIGURES:∃ t,mg "FIGURES" = some (.str "0123456789" t)
 g_MOST_FIGURES:∃ t,mg "MOST_FIGURES" = some (.int 60 t)
def nY (K:PySem.W.Frag):Sp:=fun vs H Q _=>∃ (a:Addr) (ns:List Int) (k:Int),vs = [.ref a,.int k]∧aO K H a (ns.map V.int)∧0≤k∧∀ n,Q (.int n) H
def h8:Sp:=fun vs H Q _=>∃ n:Int,vs = [.int n]∧Q (.bl true) H
def d9 (K:PySem.W.Frag):Sp:=fun vs H Q _=>∃ (a:Addr) (ns:List Int) (k:Int),vs = [.ref a,.int k]∧aO K H a (ns.map V.int)∧0≤k∧k≤100000∧∀ n,0≤n→n < 2147483587→Q (.int n) H
def qN (K:PySem.W.Frag):Sp:=fun vs H Q _=>∃ (a:Addr) (ns:List Int) (st n:Int),vs = [.ref a,.int st,.int n]∧aO K H a (ns.map V.int)∧0≤st∧st≤1000∧0≤n∧n≤60∧
 ∀ p as L H',ao H H'→cE H' p as L→(p :: as).Nodup→(∀ b∈p :: as,H b = none)→(L.length:Int) = n→iW L→Q (.ref p) H'
def lg:Sp:=fun vs H Q _=>∃ (p:Addr) (as:List Addr) (L:List (List Int)) (k:Nat),vs = [.ref p,.int (k:Int)]∧cE H p as L∧k < L.length∧L.length≤60∧(∀ r∈L,r.length≤500)∧∀ H' b,ao H H'→(b = true↔eJ L k)→Q (.bl b) H'
def jy (N:Addr):Sp:=fun vs H Q E=>∃ (p:Addr) (as:List Addr) (L:List (List Int)),vs = [.ref p]∧cE H p as L∧L.length≤60∧(∀ r∈L,r.length≤500)∧((∀ i,i < L.length→¬ eJ L i)→∀ H',ao H H'→Q .bS H')∧
 (∀ i d H',dX L i→ao H H'→H d = none→H' d = some (.xd [("place",.int (i:Int))])→E (.ref N) (some d) H')
def nW:Sp:=fun vs H Q _=>∃ x:Str,vs = [.str x]∧x.cps.all (· < 128) = true∧x.length≤1000∧∀ H',ao H H'→Q (.bl (gU x.cps.toList)) H'
def ib (NT:Addr):Sp:=fun vs H Q E=>∃ (k:Nat) (x:Str),vs = [.str x,.int (k:Int)]∧k < 100∧x.cps.all (· < 128) = true∧x.length≤500∧
 ((∃ l,ro k x.cps.toList = some l∧∀ (a:Addr) H',ao H H'→H a = none→H' a = some (.lst (l.map V.int))→Q (.ref a) H')∨
  (ro k x.cps.toList = none∧∀ d H',ao H H'→H d = none→H' d = some (.xd [("row",.int (k:Int))])→E (.ref NT) (some d) H'))
def yf (x:Str):Prop:=x.cps.all (· < 128) = true∧x.length≤400∧x.cps.toList.count 10≤20
def j7 (NT NM:Addr):Sp:=fun vs H Q E=>∃ x:Str,vs = [.str x]∧yf x∧
 ((∃ i,i5 (sp 10 x.cps.toList) i∧∀ d H',ao H H'→H d = none→H' d = some (.xd [("row",.int (i:Int))])→E (.ref NT) (some d) H')∨
  ∃ L,fB (sp 10 x.cps.toList) L∧((∃ i,dX L i∧∀ d H',ao H H'→H d = none→H' d = some (.xd [("place",.int (i:Int))])→E (.ref NM) (some d) H')∨
  ((∀ i,i < L.length→¬ eJ L i)∧∀ (t:Addr) (bs:List Addr) H',ao H H'→cE H' t bs L→Q (.ref t) H')))
def eN (NT NM:Addr):Sp:=fun vs H Q _=>∃ x:Str,vs = [.str x]∧yf x∧
 ((∃ i,i5 (sp 10 x.cps.toList) i∧∀ a d H',ao H H'→H' a = some (dM NT (some d) a)→H' d = some (.xd [("row",.int (i:Int))])→Q (.ref a) H')∨
  ∃ L,fB (sp 10 x.cps.toList) L∧((∃ i,dX L i∧∀ a d H',ao H H'→H' a = some (dM NM (some d) a)→H' d = some (.xd [("place",.int (i:Int))])→Q (.ref a) H')∨
  ((∀ i,i < L.length→¬ eJ L i)∧∀ H',ao H H'→Q .bS H')))
def fi (NT NM:Addr):Sp:=fun vs H Q _=>∃ a d N,(N = NT∨N = NM)∧vs = [.ref a]∧H a = some (dM N (some d) a)∧∀ H',ao H H'→Q (.bl false) H'
def jx:Sp:=fun vs H Q _=>∃ (x:Str) (i:Nat),vs = [.str x,.int (i:Int)]∧yf x∧i5 (sp 10 x.cps.toList) i∧∀ H',ao H H'→Q (.bl true) H'
def lj:Sp:=fun vs H Q _=>∃ (x:Str) (i:Nat) (L:List (List Int)),vs = [.str x,.int (i:Int)]∧yf x∧fB (sp 10 x.cps.toList) L∧dX L i∧∀ H',ao H H'→Q (.bl true) H'
def nX:Sp:=fun vs H Q _=>∃ (p:Addr) (as:List Addr) (L:List (List Int)),vs = [.ref p]∧cE H p as L∧Sm L∧∀ H',ao H H'→Q (.str (ji L)) H'
def ia:Sp:=fun vs H Q _=>∃ (x:Str) (n:Int) (m:Nat),vs = [.str x,.int n]∧0≤n∧m≤10∧Tx m x.cps.toList∧∀ y:Str,Tx (m + 1) y.cps.toList→Q (.str y) H
def jw:Sp:=fun vs H Q _=>∃ x:Str,vs = [.str x]∧x.cps.all (· < 128) = true∧x.length≤600∧((wd x.cps.toList = true→Q (.int (PySem.NumText.digitsVal x.cps.toList:Nat)) H)∧(wd x.cps.toList = false→Q (.int (-1)) H))
def lh:Sp:=fun vs H Q _=>∃ (k:Nat) (x:Str),vs = [.str x,.int (k:Int)]∧k < 100∧x.cps.all (· < 128) = true∧x.length≤500∧dg x.cps.toList≤60∧
 ((ro k x.cps.toList = none→∀ H',ao H H'→Q .bS H')∧(∀ l,ro k x.cps.toList = some l→∀ (a:Addr) H',ao H H'→H a = none→H' a = some (.lst (l.map V.int))→Q (.ref a) H'))
def qM:Sp:=fun vs H Q _=>∃ (p:Addr) (as:List Addr) (L:List (List Int)),vs = [.ref p]∧cE H p as L∧L.length≤60∧(∀ r∈L,r.length≤500)∧(∀ r∈L,∀ x∈r,0≤x)∧((∀ i,i < L.length→¬ eJ L i)→∀ H',ao H H'→Q .bS H')∧
 (∀ i H',dX L i→ao H H'→Q (.int (i:Int)) H')
def j8 (K:PySem.W.Frag):Sp:=fun vs H Q _=>∃ (a:Addr) (ns:List Int),vs = [.ref a]∧aO K H a (ns.map V.int)∧ns.length≤63∧∀ H',Q (.bl true) H'
theorem sX {c:Nat}:c∈(Str.ofString "0123456789").cps.toList↔kA c = true:=by
 rw [show (Str.ofString "0123456789").cps.toList = [48,49,50,51,52,53,54,55,56,57] by decide +kernel,gY]
 simp
 omega
theorem str_len {x:Str}:x.cps.toList.length = x.length:=by simp [Str.length]
theorem wc {x:Str} (h1:x.length≠0) (h2:x.length≤60):gU x.cps.toList = ((x.cps.toList == [48] || x.cps.toList.head? != some 48) && x.cps.toList.all kA):=by
 unfold gU wd
 rw [decide_eq_true (by rw [str_len]; exact h2)]
 cases e:x.cps.toList with
 | nil=>have:=str_len (x:=x); rw [e] at this; exact absurd this.symm h1
 | cons a r=>simp
theorem jY (x:Str):x = Str.ofString "0"↔x.cps.toList = [48]:=by
 have e2:(Str.ofString "0").cps.toList = [48]:=by decide +kernel
 constructor
 ·intro h; rw [h,e2]
 ·intro h; exact dh (h.trans e2.symm)
theorem kQ {x:Str} (h:x.cps.all (· < 128) = true):∀ c∈x.cps.toList,c < 128:=by
 rw [Array.all_eq_true'] at h
 intro c hc
 exact of_decide_eq_true (h c (Array.mem_toList_iff.mp hc))
theorem iR {l:List Nat} (h:∀ c∈l,c < 128):(st l).cps.all (· < 128) = true:=by
 rw [Array.all_eq_true']
 intro c hc
 exact decide_eq_true (h c (by rw [← cL l]; exact Array.mem_toList_iff.mpr hc))
theorem kr {n:Nat} (h:n < 2 ^ 200):(n:Int).natAbs.log2 < 1920:=by
 show (n:Nat).log2 < 1920
 by_cases z:n = 0
 ·rw [z]; decide
 ·exact Nat.lt_trans ((Nat.log2_lt z).mpr h) (by decide)
end xV
end
section
namespace xV
open PySem L2 Fr Gm
local macro_rules | `(tactic| walk_at "rd1")=>`(tactic| first
 | with_reducible refine r_seq ?_ | with_reducible refine r_asg ?_ | with_reducible refine r_gname ?_ | with_reducible refine r_op ?_ | with_reducible refine r_c ?_
 | ((with_reducible refine' r_var ?hv ?_); case' hv=>exact rfl)
 | with_reducible refine rf ?_ | with_reducible refine wF ?_ | with_reducible refine wH ?_ | with_reducible refine rD ?_ | with_reducible refine rm ?_
 | with_reducible refine q5 ?_ | with_reducible refine q0 ?_ | with_reducible refine m9 ?_ | with_reducible refine n5 ?_ | with_reducible refine mU ?_ | with_reducible refine BW ?_ | with_reducible refine wK ?_
 | with_reducible refine rj ?_ | with_reducible refine rF ?_ | with_reducible refine wI ?_ | with_reducible refine ng ?_ | with_reducible refine ri ?_ | with_reducible refine mX ?_ | with_reducible refine vE ?_
 | with_reducible refine ip ?_ | with_reducible refine eu ?_ | with_reducible refine ki ?_ | with_reducible refine wJ ?_ | with_reducible refine qY ?_ | with_reducible refine rq ?_ | with_reducible refine mZ ?_
 | with_reducible refine kh ?_ | with_reducible refine m8 ?_ | with_reducible refine vC ?_ | with_reducible refine AS ?_ | with_reducible refine AU ?_ | with_reducible refine xp ?_ | with_reducible refine xq ?_
 | ((with_reducible refine rh ?hc ?_); case' hc=>walk_at "side")
 | ((with_reducible refine' vD ?hp ?hi ?_); (case' hp=>walk_at "seq"); (case' hi=>exact rfl))
 | ((with_reducible refine' cw ?hp ?hi ?_); (case' hp=>walk_at "seq"); (case' hi=>exact rfl))
 | ((with_reducible refine' ir ?hp ?hi ?_); (case' hp=>walk_at "seq"); (case' hi=>exact rfl))
 | ((with_reducible refine And.intro ?hl ?_); case' hl=>(first | exact vz | exact yI))
 | with_reducible refine uj ?_ | with_reducible refine vG ?_ | with_reducible refine mT ?_ | with_reducible refine rz ?_ | with_reducible refine mY ?_ | with_reducible refine n3 ?_ | with_reducible refine kj ?_ | with_reducible refine mS ?_ | with_reducible refine rp ?_ | with_reducible refine ig ?_ | with_reducible refine qX ?_ | with_reducible refine kg ?_ | with_reducible refine lA ?_ | with_reducible refine vF ?_ | with_reducible refine rE ?_ | with_reducible refine rB ?_ | with_reducible refine rC ?_ | with_reducible refine rk ?_ | with_reducible refine rA ?_ | with_reducible refine qZ ?_ | with_reducible refine ij ?_ | with_reducible refine mW ?_
 | dsimp only)
local macro_rules | `(tactic| walk_at "rd")=>`(tactic| repeat walk_at "rd1")
local macro_rules | `(tactic| walk_at "blk_vis")=>`(tactic| first | exact Or.inl rfl | exact Or.inr (Or.inl rfl) | exact Or.inr (Or.inr rfl))
local macro_rules | `(tactic| walk_at "blk_ok")=>`(tactic| exact ⟨rfl,by decide +kernel,by decide +kernel,rfl,by (first | exact trivial | exact ⟨rfl,trivial⟩ | exact ⟨rfl,rfl,trivial⟩ | exact ⟨rfl,rfl,rfl,trivial⟩ | exact ⟨rfl,rfl,rfl,rfl,trivial⟩ | exact ⟨rfl,rfl,rfl,rfl,rfl,trivial⟩),rfl,
 by (first | exact au | exact ae ⟨rfl,by walk_at "blk_vis",rfl,rfl⟩ au | exact ae ⟨rfl,by walk_at "blk_vis",rfl,rfl⟩ (ae ⟨rfl,by walk_at "blk_vis",rfl,rfl⟩ au) | exact ae ⟨rfl,by walk_at "blk_vis",rfl,rfl⟩ (ae ⟨rfl,by walk_at "blk_vis",rfl,rfl⟩ (ae ⟨rfl,by walk_at "blk_vis",rfl,rfl⟩ au)) | exact ae ⟨rfl,by walk_at "blk_vis",rfl,rfl⟩ (ae ⟨rfl,by walk_at "blk_vis",rfl,rfl⟩ (ae ⟨rfl,by walk_at "blk_vis",rfl,rfl⟩ (ae ⟨rfl,by walk_at "blk_vis",rfl,rfl⟩ au)))),
 by (first | exact ae rfl (ae rfl (ae rfl (ae rfl au))) | exact au | exact ae rfl au | exact ae rfl (ae rfl au) | exact ae rfl (ae rfl (ae rfl au)))⟩)
local macro_rules | `(tactic| walk_at "blk_ok1")=>`(tactic| exact ⟨rfl,fun _=>rfl,fun _=>rfl,by decide +kernel,rfl,by (first | exact trivial | exact ⟨rfl,trivial⟩ | exact ⟨rfl,rfl,trivial⟩ | exact ⟨rfl,rfl,rfl,trivial⟩ | exact ⟨rfl,rfl,rfl,rfl,trivial⟩),rfl,
 by (first | exact au | exact ae ⟨rfl,by walk_at "blk_vis",⟨rfl,rfl⟩,rfl⟩ au | exact ae ⟨rfl,by walk_at "blk_vis",⟨rfl,rfl⟩,rfl⟩ (ae ⟨rfl,by walk_at "blk_vis",⟨rfl,rfl⟩,rfl⟩ au) | exact ae ⟨rfl,by walk_at "blk_vis",⟨rfl,rfl⟩,rfl⟩ (ae ⟨rfl,by walk_at "blk_vis",⟨rfl,rfl⟩,rfl⟩ (ae ⟨rfl,by walk_at "blk_vis",⟨rfl,rfl⟩,rfl⟩ au))),
 by (first | exact au | exact ae rfl au | exact ae rfl (ae rfl au) | exact ae rfl (ae rfl (ae rfl au)))⟩)
local macro_rules | `(tactic| walk_at "side")=>`(tactic| first | assumption | exact (show (0:Int) < _ by decide) | exact kK (by decide) (by decide) | exact kL (by decide) (by decide) | exact mulL (by decide) (by decide))
local macro_rules | `(tactic| walk_at "seq")=>`(tactic| first | assumption | exact SqT.of (by assumption))
section
variable {P:Program} {w:World} {K:PySem.W.Frag} {mg:Str→Option Value} {base:Heap} {Z:Gx}
theorem gJ:aG ["_law_script", "_law_k"] ["_law_script", "_law_k"] (ah aU):=⟨rfl,rfl,rfl,by decide +kernel,rfl,by decide +kernel,by decide +kernel⟩
theorem gO (D:Def K mg "_law_cell_at" aU ["_law_script", "_law_k"]) (T:Txt K mg Z):cP P w K mg base (bP P w) "_law_cell_at" 1 ["_law_script", "_law_k"] (nY K):=by
 refine D.fe gJ (fun vs H Q E h=>?_) (fun f ck A outer s H vs Q E hr h=>?_)
 ·obtain ⟨a,ns,k,rfl,_⟩:=h; rfl
 ·obtain ⟨a,ns,k,rfl,hS,hk,q⟩:=h
  refine ⟨_,(ag (bC (aF ot (pv 1) (ar bF (by rfl) T.len bc (aa (pv 0) af)) (aP _)) (ai (az (cH bO (pv 0) (pv 1) (fun _ _=>rfl)))) aE)
   (ai (az aj))),?_⟩
  dsimp only [de]
  walk_at "rd"
  refine ⟨_,_,rfl,.inl ⟨_,hS,rfl⟩,?_⟩
  walk_at "rd"
  refine if2 (fun cx=>?_) (fun cx=>?_)
  ·walk_at "rd"
   obtain ⟨j,rfl⟩:=Int.eq_ofNat_of_zero_le hk
   have hj:j < ns.length:=by rw [List.length_map] at cx; omega
   refine cw hS (dk (j:=j) (v:=V.int ns[j]) (by simp [hj])) ?_
   exact q _
  ·walk_at "rd"
   exact q _
theorem i9:aG ["_law_found"] ["_law_found"] (ah bw):=⟨rfl,rfl,rfl,by decide +kernel,rfl,by decide +kernel,by decide +kernel⟩
theorem je (D:Def K mg "_law_whole" bw ["_law_found"]) (T:Txt K mg Z):cP P w K mg base (bP P w) "_law_whole" 1 ["_law_found"] h8:=by
 refine D.fe i9 (fun vs H Q E h=>?_) (fun f ck A outer s H vs Q E hr h=>?_)
 ·obtain ⟨n,rfl,_⟩:=h; rfl
 ·obtain ⟨n,rfl,q⟩:=h
  refine ⟨_,(ai (az (fm (ar gw (by rfl) T.isinstance aK (aa (pv 0) (aa (fM (v:=.ty "int") rfl T.int nN rfl) af))) (gm (wR (ar gw (by rfl) T.isinstance aK (aa (pv 0) (aa (fM (v:=.ty "bool") rfl T.bool u7 rfl) af)))))))),?_⟩
  try dsimp only [de]
  walk_at "rd"
  refine m7 (.int n) (.ty _) uz ?_
  walk_at "rd"
  refine m7 (.int n) (.ty _) xh ?_
  walk_at "rd"
  exact q
theorem bX:aG ["_law_script", "_law_k", "_law_cell", "_law_j"] ["_law_script", "_law_k"] (ah bB):=⟨rfl,rfl,rfl,by decide +kernel,rfl,by decide +kernel,by decide +kernel⟩
theorem jh (D:Def K mg "_law_block" bB ["_law_script", "_law_k"]) (T:Txt K mg Z):cP P w K mg base (bP P w) "_law_block" 1 ["_law_script", "_law_k"] (d9 K):=by
 refine D.fe bX (fun vs H Q E h=>?_) (fun f ck A outer s H vs Q E hr h=>?_)
 ·obtain ⟨a,ns,k,rfl,_⟩:=h; rfl
 ·obtain ⟨a,ns,k,rfl,hS,FK,FJ,q⟩:=h
  refine ⟨_,(ag (aM (i:=2) bX.nd rfl (by first | exact Or.inl rfl | exact Or.inr rfl) aj)
   (ag (bC (aF ot (av bN aj (av bJ (av dH (pv 1) aj) aj)) (ar bF (by rfl) T.len bc (aa (pv 0) af)) (aP _)) (ai (aM (i:=2) bX.nd rfl (by first | exact Or.inl rfl | exact Or.inr rfl) (av dH (cH bO (pv 0) (av bN aj (av bJ (av dH (pv 1) aj) aj)) (fun _ _=>rfl)) (fL (v:=10000000000000000000000000000000000000000000000000000000000000000) iy aj aj ⟨by decide,by decide,by decide⟩ (by decide +kernel))))) aE)
   (ag (cV PassesOwn.never rfl (cb rfl T.range (aa (av bJ (pv 1) aj) af)) (aW (i:=3) bX.nd rfl (by first | exact Or.inl rfl | exact Or.inr rfl))
   (ai (aM (i:=2) bX.nd rfl (by first | exact Or.inl rfl | exact Or.inr rfl) (av dH (pv 2) aj))))
   (ai (az (av bJ (pv 2) aj)))))),?_⟩
  dsimp only [de]
  walk_at "rd"
  refine ⟨_,_,rfl,.inl ⟨_,hS,rfl⟩,?_⟩
  walk_at "rd"
  refine if2 (fun cx=>?_) (fun cx=>?_)
  ·walk_at "rd"
   rw [List.length_map] at cx
   obtain ⟨n0,zx⟩:=ko (ns:=ns) (k:=1 + k / 8 % 62) (by omega) cx
   refine cw hS zx ?_
   walk_at "rd"
   refine dZ ?_
   refine ⟨_,rfl,_,_,rfl,rfl,(show (0:Int) < 8 by decide),k % 8,rfl,by omega,by omega,cg (fun i σ H1=>∃ (c:Int) (v:Option V),σ = [some (.ref a),some (.int k),some (.int c),v]∧H1 = H) ⟨_,_,rfl,rfl⟩ ?_ ?_⟩
   ·rintro i σ H1 hi ⟨c,v,rfl,rfl⟩
    walk_at "rd"
    exact ⟨_,_,rfl,rfl⟩
   ·rintro σ H1 ⟨c,v,rfl,rfl⟩
    walk_at "rd"
    exact q _ (Int.emod_nonneg _ (by decide)) (Int.emod_lt_of_pos _ (by decide))
  ·walk_at "rd"
   refine dZ ?_
   refine ⟨_,rfl,_,_,rfl,rfl,(show (0:Int) < 8 by decide),k % 8,rfl,by omega,by omega,cg (fun i σ H1=>∃ (c:Int) (v:Option V),σ = [some (.ref a),some (.int k),some (.int c),v]∧H1 = H) ⟨_,_,rfl,rfl⟩ ?_ ?_⟩
   ·rintro i σ H1 hi ⟨c,v,rfl,rfl⟩
    walk_at "rd"
    exact ⟨_,_,rfl,rfl⟩
   ·rintro σ H1 ⟨c,v,rfl,rfl⟩
    walk_at "rd"
    exact q _ (Int.emod_nonneg _ (by decide)) (Int.emod_lt_of_pos _ (by decide))
theorem bR:aG ["_law_script", "_law_k", "_law_cell", "_law_number_here"] ["_law_script", "_law_k"] (ah bA):=⟨rfl,rfl,rfl,by decide +kernel,rfl,by decide +kernel,by decide +kernel⟩
theorem jg (D:Def K mg "_law_mixed" bA ["_law_script", "_law_k"]) (T:Txt K mg Z) (kG:cP P w K mg base (bP P w) "_law_block" 1 ["_law_script", "_law_k"] (d9 K)):cP P w K mg base (bP P w) "_law_mixed" 2 ["_law_script", "_law_k"] (d9 K):=by
 refine D.fe bR (fun vs H Q E h=>?_) (fun f ck A outer s H vs Q E hr h=>?_)
 ·obtain ⟨a,ns,k,rfl,_⟩:=h; rfl
 ·obtain ⟨a,ns,k,rfl,hS,FK,FJ,q⟩:=h
  refine ⟨_,(ag (aM (i:=2) bR.nd rfl (by first | exact Or.inl rfl | exact Or.inr rfl) aj)
   (ag (bC (aF ou (ar bF (by rfl) T.len bc (aa (pv 0) af)) aj (aP _)) (ai (aM (i:=2) bR.nd rfl (by first | exact Or.inl rfl | exact Or.inr rfl) (cH bO (pv 0) aj (fun _ _=>rfl)))) aE)
   (ag (bC (aF d3 (av bJ (av dH (pv 2) (fL (v:=1000000) iy aj aj ⟨by decide,by decide,by decide⟩ (by decide +kernel))) aj) aj (aP _)) (ai (az (ax kG hr bq (aa (pv 0) (aa (pv 1) af))))) aE)
   (ag (bC (aF ou (ar bF (by rfl) T.len bc (aa (pv 0) af)) aj (aP _)) (ai (aM (i:=2) bR.nd rfl (by first | exact Or.inl rfl | exact Or.inr rfl) (cH bO (pv 0) (av bJ (pv 1) (ar (qa rfl) (by rfl) T.min xR (aa aj (aa (ar bF (by rfl) T.len bc (aa (pv 0) af)) af)))) (fun _ _=>rfl)))) aE)
   (ag (aM (i:=3) bR.nd rfl (by first | exact Or.inl rfl | exact Or.inr rfl) (av bN (av bJ (pv 2) (fL (v:=1000000000000000000) iy aj aj ⟨by decide,by decide,by decide⟩ (by decide +kernel))) (av fO aj (av bN (pv 1) aj))))
   (ag (aM (i:=3) bR.nd rfl (by first | exact Or.inl rfl | exact Or.inr rfl) (av bN (av bJ (av fO (pv 3) (pv 3)) aj) (av fO aj (pv 1))))
   (ai (az (av bJ (av fO (pv 3) (pv 3)) aj))))))))),?_⟩
  dsimp only [de]
  walk_at "rd"
  refine ⟨_,_,rfl,.inl ⟨_,hS,rfl⟩,?_⟩
  walk_at "rd"
  refine if2 (fun lR=>?_) (fun lR=>?_)
  ·walk_at "rd"
   rw [List.length_map] at lR
   obtain ⟨n0,zx⟩:=ko (ns:=ns) (k:=0) (by omega) lR
   refine cw hS zx ?_
   walk_at "rd"
   refine if2 (fun _=>?_) (fun _=>?_)
   ·walk_at "rd"
    exact ⟨a,ns,k,rfl,hS,FK,FJ,q⟩
   ·walk_at "rd"
    refine ⟨_,_,rfl,.inl ⟨_,hS,rfl⟩,?_⟩
    walk_at "rd"
    rw [List.length_map]
    refine if2 (fun _=>?_) (fun h=>absurd lR h)
    walk_at "rd"
    refine ⟨_,_,rfl,.inl ⟨_,hS,rfl⟩,?_⟩
    walk_at "rd"
    rw [List.length_map]
    refine ⟨_,_,rfl,?_⟩
    have mp:0 < (if (ns.length:Int) < 63 then (ns.length:Int) else 63):=by split <;> omega
    have ml:(if (ns.length:Int) < 63 then (ns.length:Int) else 63)≤ns.length:=by split <;> omega
    generalize (if (ns.length:Int) < 63 then (ns.length:Int) else 63) = mm at mp ml ⊢
    walk_at "rd"
    have i0:=Int.emod_nonneg k (show mm≠0 by omega)
    have i1:=Int.emod_lt_of_pos k mp
    obtain ⟨n1,FH⟩:=ko (ns:=ns) (k:=k % mm) i0 (by omega)
    refine cw hS FH ?_
    walk_at "rd"
    generalize n1 = cc
    have c0:=Int.emod_nonneg cc (show (1000000000000000000:Int)≠0 by decide)
    have c1:=Int.emod_lt_of_pos cc (show (0:Int) < 1000000000000000000 by decide)
    generalize cc % 1000000000000000000 = r at c0 c1 ⊢
    have hm:IntMulOk (r + 48271 * (k + 1)) (r + 48271 * (k + 1)):=mulL (by omega) (by omega)
    walk_at "rd"
    generalize (r + 48271 * (k + 1)) * (r + 48271 * (k + 1)) = zz
    have z0:=Int.emod_nonneg zz (show (2147483629:Int)≠0 by decide)
    have z1:=Int.emod_lt_of_pos zz (show (0:Int) < 2147483629 by decide)
    generalize zz % 2147483629 = r2 at z0 z1 ⊢
    have IY:IntMulOk (r2 + 69621 * k) (r2 + 69621 * k):=mulL (by omega) (by omega)
    walk_at "rd"
    exact q _ (Int.emod_nonneg _ (by decide)) (Int.emod_lt_of_pos _ (by decide))
  ·walk_at "rd"
   rw [List.length_map] at lR
   refine if2 (fun z=>absurd z (by decide)) (fun _=>?_)
   walk_at "rd"
   refine ⟨_,_,rfl,.inl ⟨_,hS,rfl⟩,?_⟩
   walk_at "rd"
   rw [List.length_map]
   refine if2 (fun h=>absurd h lR) (fun _=>?_)
   walk_at "rd"
   generalize Lx:(0:Int) % 1000000000000000000 = r
   have c0:0≤r:=by omega
   have c1:r < 1000000000000000000:=by omega
   have hm:IntMulOk (r + 48271 * (k + 1)) (r + 48271 * (k + 1)):=mulL (by omega) (by omega)
   walk_at "rd"
   generalize (r + 48271 * (k + 1)) * (r + 48271 * (k + 1)) = zz
   have z0:=Int.emod_nonneg zz (show (2147483629:Int)≠0 by decide)
   have z1:=Int.emod_lt_of_pos zz (show (0:Int) < 2147483629 by decide)
   generalize zz % 2147483629 = r2 at z0 z1 ⊢
   have IY:IntMulOk (r2 + 69621 * k) (r2 + 69621 * k):=mulL (by omega) (by omega)
   walk_at "rd"
   exact q _ (Int.emod_nonneg _ (by decide)) (Int.emod_lt_of_pos _ (by decide))
theorem b8:aG ["_law_script", "_law_start", "_law_many", "_law_orders", "_law_thick", "_law_one", "_law_other", "_law_number_here"] ["_law_script", "_law_start", "_law_many"] (ah bW):=⟨rfl,rfl,rfl,by decide +kernel,rfl,by decide +kernel,by decide +kernel⟩
theorem lI (D:Def K mg "_law_any" bW ["_law_script", "_law_start", "_law_many"]) (T:Txt K mg Z) (cq:cP P w K mg base (bP P w) "_law_mixed" 2 ["_law_script", "_law_k"] (d9 K)):cP P w K mg base (bP P w) "_law_any" 3 ["_law_script", "_law_start", "_law_many"] (qN K):=by
 refine D.fe b8 (fun vs H Q E h=>?_) (fun f ck A outer s H vs Q E hr h=>?_)
 ·obtain ⟨a,ns,st,n,rfl,_⟩:=h; rfl
 ·obtain ⟨a,ns,st,n,rfl,hS,Lu,Ls,zx,FH,q⟩:=h
  refine ⟨_,(ag (oh (i:=3) b8.nd rfl (by first | exact Or.inl rfl | exact Or.inr rfl) (tg:=["_law_k"]) (fr:=[]) (by walk_at "blk_ok") rfl (cb rfl T.range (aa (pv 2) af)) (fun _ _ _ _ _=>(aW (i:=0) (show [("_law_k" : Str)].Nodup by decide +kernel) rfl (by first | exact Or.inl rfl | exact Or.inr rfl))) (fun _ _ _ _ _=>cW) (fun _ _ _ _ _=>(nh af)))
   (ag (aM (i:=4) b8.nd rfl (by first | exact Or.inl rfl | exact Or.inr rfl) (av bN aj (av bJ (ax cq hr bq (aa (pv 0) (aa (pv 1) af))) aj)))
   (ag (cV PassesOwn.never rfl (cb rfl T.range (aa (pv 2) af)) (aW (i:=5) b8.nd rfl (by first | exact Or.inl rfl | exact Or.inr rfl))
   (ai (cV PassesOwn.never rfl (cb rfl T.range (aa (pv 5) af)) (aW (i:=6) b8.nd rfl (by first | exact Or.inl rfl | exact Or.inr rfl))
   (ag (aM (i:=7) b8.nd rfl (by first | exact Or.inl rfl | exact Or.inr rfl) (ax cq hr bq (aa (pv 0) (aa (av bN (av bN (av bN (pv 1) aj) (av fO aj (pv 5))) (pv 6)) af))))
   (ai (bC (aF jC (av bJ (pv 7) (pv 4)) aj (aP _)) (ag (dF (ff PySem.F.plainAttrs_list PySem.F.slot_list_insert PySem.F.type_list_insert jF (cH bO (pv 3) (pv 5) (fun _ _=>rfl)) (aa (av bJ (av dH (pv 7) aj) (av bN (ar bF (by rfl) T.len bc (aa (cH bO (pv 3) (pv 5) (fun _ _=>rfl)) af)) aj)) (aa (pv 6) af))))
   (ai (dF (ff PySem.F.plainAttrs_list PySem.F.slot_list_insert PySem.F.type_list_insert jF (cH bO (pv 3) (pv 6) (fun _ _=>rfl)) (aa (av bJ (av dH (pv 7) aj) (av bN (ar bF (by rfl) T.len bc (aa (cH bO (pv 3) (pv 6) (fun _ _=>rfl)) af)) aj)) (aa (pv 5) af)))))) aE))))))
   (ai (az (pv 3)))))),?_⟩
  dsimp only [de]
  walk_at "rd"
  refine fj ?_
  refine ⟨_,rfl,n,rfl,by omega,by omega,fun acc cB=>nH (fun i σ' ys H1=>∃ (as:List Addr) (v:Option V),σ' = [v]∧ys = as.map V.ref∧as.length = i∧ao H H1∧H1 acc = some (.lst ys)∧(acc :: as).Nodup∧(∀ b∈acc :: as,H b = none)∧∀ b∈as,H1 b = some (.lst [])) ⟨[],none,rfl,rfl,rfl,ao.upd cB,ak,by simp,by simpa using cB,by simp⟩ ?_ ?_⟩
  ·rintro i σ' ys H1 hi ⟨as,v,rfl,rfl,rfl,e1,h1,nd,fr,hb⟩
   walk_at "rd"
   refine ⟨Nat.zero_le _,fun p hp=>⟨by rw [aq (aB h1 hp)]; exact h1,by rw [List.length_map]; exact aX (by omega),gD hi ⟨as ++ [p],_,rfl,by simp,by simp,ao.fresh (ao.fresh e1 (e1.free hp)) cB,ak,?_,?_,?_⟩⟩⟩
   ·have np:p∉acc :: as:=fun z=>by
     rcases List.mem_cons.mp z with z | z
     ·rw [z,h1] at hp; cases hp
     ·rw [hb p z] at hp; cases hp
    have:=List.nodup_cons.mpr ⟨np,nd⟩
    have pm:(acc :: (as ++ [p])).Perm (p :: acc :: as):=by
     have:acc :: (as ++ [p]) = (acc :: as) ++ [p]:=rfl
     rw [this]
     exact List.perm_append_singleton _ _
    exact pm.nodup_iff.mpr this
   ·intro b tX
    rcases List.mem_cons.mp tX with z | z
    ·rw [z]; exact cB
    ·rcases List.mem_append.mp z with z | z
     ·exact fr b (List.mem_cons_of_mem _ z)
     ·rw [List.mem_singleton.mp z]; exact e1.free hp
   ·intro b tX
    have ba:b≠acc:=fun z=>by
     subst z
     rcases List.mem_append.mp tX with z | z
     ·exact (List.nodup_cons.mp nd).1 z
     ·exact aB h1 hp (List.mem_singleton.mp z)
    rw [aq ba]
    rcases List.mem_append.mp tX with z | z
    ·rw [aq (aB (hb b z) hp)]; exact hb b z
    ·rw [List.mem_singleton.mp z]; exact ak
  ·rintro σ' ys H1 ⟨as,v,rfl,rfl,has,e1,h1,nd,fr,hb⟩
   walk_at "rd"
   refine ⟨a,ns,st,rfl,e1.seq hS,by omega,by omega,fun n1 a0 a1=>?_⟩
   have GH:(0:Int) < 2 + n1 % 3:=by omega
   walk_at "rd"
   generalize 2 + n1 % 3 = th at GH ⊢
   refine dZ ?_
   refine ⟨_,rfl,n,rfl,by omega,by omega,cg (fun i σ H1=>∃ (L:List (List Int)) (v5 v6 v7:Option V),σ = [some (.ref a),some (.int st),some (.int n),some (.ref acc),some (.int th),v5,v6,v7]∧ao H H1∧cE H1 acc as L∧Made n.toNat i 0 L) ⟨List.replicate n.toNat [],none,none,none,rfl,e1,⟨h1,by simp [has],fun i b l h2 h3=>?_⟩,Made.start (by simp) fun i l h=>?_⟩ ?_ ?_⟩
   ·rw [List.getElem?_replicate] at h3
    split at h3
    ·cases h3; exact hb b (List.mem_of_getElem? h2)
    ·cases h3
   ·rw [List.getElem?_replicate] at h
    split at h
    ·cases h; rfl
    ·cases h
   ·rintro i σ H2 hi ⟨L,v5,v6,v7,rfl,e2,g2,m2⟩
    simp only [Int.zero_add]
    walk_at "rd"
    refine dZ ?_
    refine ⟨_,rfl,(i:Int),rfl,by omega,by omega,?_⟩
    rw [Int.toNat_natCast]
    refine cg (fun j σ H1=>∃ (L:List (List Int)) (v6 v7:Option V),σ = [some (.ref a),some (.int st),some (.int n),some (.ref acc),some (.int th),some (.int (i:Int)),v6,v7]∧ao H H1∧cE H1 acc as L∧Made n.toNat i j L) ⟨L,v6,v7,rfl,e2,g2,m2⟩ ?_ ?_
    ·rintro j σ H3 hj ⟨L3,w6,w7,rfl,e3,g3,m3⟩
     simp only [Int.zero_add]
     walk_at "rd"
     refine ⟨a,ns,_,rfl,e3.seq hS,by omega,by omega,fun nb b0 b1=>?_⟩
     walk_at "rd"
     refine xr (fun _=>?_) (fun _=>?_)
     ·have hL:=m3.len
      obtain ⟨p1,l1,xF,FI,De⟩:=g3.at (i:=i) (by omega)
      obtain ⟨p2,l2,gZ,ya,IK⟩:=g3.at (i:=j) (by omega)
      have z1:=m3.small FI
      have z2:=m3.small ya
      have HC:p2≠p1:=fun z=>by
       subst z
       obtain ⟨q1,w1⟩:=List.getElem?_eq_some_iff.mp xF
       obtain ⟨q2,w2⟩:=List.getElem?_eq_some_iff.mp gZ
       exact Nat.ne_of_lt hj ((List.getElem_inj (List.nodup_cons.mp nd).2).mp (w2.trans w1.symm))
      walk_at "rd"
      refine cw (aO.of g3.top) (g3.ix xF) ?_
      refine ⟨.inl ⟨rfl,_,aO.of De⟩,?_⟩
      walk_at "rd"
      refine cw (aO.of g3.top) (g3.ix xF) ?_
      walk_at "rd"
      refine ⟨_,_,rfl,.inl ⟨_,aO.of De,rfl⟩,?_⟩
      rw [List.length_map]
      have IQ:(0:Int) < (l1.length:Int) + 1:=by omega
      walk_at "rd"
      have d0:=Int.emod_nonneg (nb / 12) (show (l1.length:Int) + 1≠0 by omega)
      have d1:=Int.emod_lt_of_pos (nb / 12) IQ
      generalize nb / 12 % ((l1.length:Int) + 1) = k1 at d0 d1 ⊢
      refine lz (k:=k1.toNat) (by omega) De (by rw [List.length_map]; omega) (by rw [List.length_map]; exact aX (by omega)) ?_
      rw [map_put]
      have g4:=g3.set (l':=put l1 k1.toNat (j:Int)) nd xF
      have Jy:H p1 = none:=fr p1 (List.mem_cons_of_mem _ (List.mem_of_getElem? xF))
      have Jx:H p2 = none:=fr p2 (List.mem_cons_of_mem _ (List.mem_of_getElem? gZ))
      have xt:upd H3 p1 (.lst ((put l1 k1.toNat (j:Int)).map V.int)) p2 = some (.lst (l2.map V.int)):=by rw [aq HC]; exact IK
      have e4:ao H (upd H3 p1 (.lst ((put l1 k1.toNat (j:Int)).map V.int))):=ao.fresh e3 Jy
      walk_at "rd"
      refine cw (aO.of g4.top) (g4.ix gZ) ?_
      refine ⟨.inl ⟨rfl,_,aO.of xt⟩,?_⟩
      walk_at "rd"
      refine cw (aO.of g4.top) (g4.ix gZ) ?_
      walk_at "rd"
      refine ⟨_,_,rfl,.inl ⟨_,aO.of xt,rfl⟩,?_⟩
      rw [List.length_map]
      have zr:(0:Int) < (l2.length:Int) + 1:=by omega
      walk_at "rd"
      have c0:=Int.emod_nonneg (nb / 128) (show (l2.length:Int) + 1≠0 by omega)
      have c1:=Int.emod_lt_of_pos (nb / 128) zr
      generalize nb / 128 % ((l2.length:Int) + 1) = k2 at c0 c1 ⊢
      refine lz (k:=k2.toNat) (by omega) xt (by rw [List.length_map]; omega) (by rw [List.length_map]; exact aX (by omega)) ?_
      rw [map_put]
      exact ⟨_,_,_,rfl,ao.fresh e4 Jx,g4.set nd gZ,m3.step hj (by omega) FI ya⟩
     ·walk_at "rd"
      exact ⟨L3,_,_,rfl,e3,g3,m3.skip⟩
    ·rintro σ H3 ⟨L3,w6,w7,rfl,e3,g3,m3⟩
     exact ⟨L3,_,_,_,rfl,e3,g3,m3.next⟩
   ·rintro σ H2 ⟨L,v5,v6,v7,rfl,e2,g2,m2⟩
    walk_at "rd"
    exact q acc as L H2 e2 g2 nd fr (by have:=m2.len; omega) m2.map
theorem jc:aG ["self", "place"] ["self", "place"] (ah bM):=⟨rfl,rfl,rfl,by decide +kernel,rfl,by decide +kernel,by decide +kernel⟩
theorem jd {f:Addr} {fd:FuncData} (F:tV K "__init__" "NoMap.__init__" bM f fd) (c:mv K Z.bG Z.cI f "place") (T:Txt K mg Z):fA P w K mg base (bP P w) 1 f fd ["self", "place"] (fE Z.bG "place"):=by
 refine F.Fj jc (fun vs H Q E h=>?_) (fun ck A outer s H vs Q E hr h=>?_)
 ·obtain ⟨a,v,rfl,_⟩:=h; rfl
 ·obtain ⟨a,v,rfl,ha,q⟩:=h
  refine ⟨_,(ag (dF (lE c T.fu (aa (pv 0) (aa bI af)))) (ai (og c (pv 0) (pv 1) rfl))),?_⟩
  try dsimp only [de]
  walk_at "rd"
  refine ⟨a,none,_,rfl,ha,?_⟩
  walk_at "rd"
  exact ⟨a,rfl,ha,fun d hd nd=>q d hd nd⟩
theorem ic:aG ["self", "row"] ["self", "row"] (ah bH):=⟨rfl,rfl,rfl,by decide +kernel,rfl,by decide +kernel,by decide +kernel⟩
theorem iz {f:Addr} {fd:FuncData} (F:tV K "__init__" "NoText.__init__" bH f fd) (c:mv K Z.aN Z.cI f "row") (T:Txt K mg Z):fA P w K mg base (bP P w) 1 f fd ["self", "row"] (fE Z.aN "row"):=by
 refine F.Fj ic (fun vs H Q E h=>?_) (fun ck A outer s H vs Q E hr h=>?_)
 ·obtain ⟨a,v,rfl,_⟩:=h; rfl
 ·obtain ⟨a,v,rfl,ha,q⟩:=h
  refine ⟨_,(ag (dF (lE c T.fu (aa (pv 0) (aa bI af)))) (ai (og c (pv 0) (pv 1) rfl))),?_⟩
  try dsimp only [de]
  walk_at "rd"
  refine ⟨a,none,_,rfl,ha,?_⟩
  walk_at "rd"
  exact ⟨a,rfl,ha,fun d hd nd=>q d hd nd⟩
theorem eg:aG ["orders", "place", "order", "neighbour"] ["orders", "place"] (ah bV):=⟨rfl,rfl,rfl,by decide +kernel,rfl,by decide +kernel,by decide +kernel⟩
theorem lH (D:Def K mg "is_wrong" bV ["orders", "place"]) (T:Txt K mg Z):cP P w K mg base (bP P w) "is_wrong" 1 ["orders", "place"] lg:=by
 refine D.fe eg (fun vs H Q E h=>?_) (fun f ck A outer s H vs Q E hr h=>?_)
 ·obtain ⟨p,as,L,k,rfl,_⟩:=h; rfl
 ·obtain ⟨p,as,L,k,rfl,g,hk,hn,zp,q⟩:=h
  obtain ⟨b,l,ha,hl,gQ⟩:=g.at hk
  have ll:=zp l (List.mem_of_getElem? hl)
  have gl:=getD_at hl
  refine ⟨_,(ag (aM (i:=2) eg.nd rfl (by first | exact Or.inl rfl | exact Or.inr rfl) (cH bO (pv 0) (pv 1) (fun _ _=>rfl)))
   (ag (bC (aF jC (ar jO (by rfl) T.len bc (aa (cf (jN rfl) (by rfl) T.set tJ (aa (pv 2) af)) af)) (ar bF (by rfl) T.len bc (aa (pv 2) af)) (aP _)) (ai (az ey)) aE)
   (ag (cV PassesOwn.never rfl (eQ (pv 2)) (aW (i:=3) eg.nd rfl (by first | exact Or.inl rfl | exact Or.inr rfl))
   (ag (bC (PW.pt (pw_or (aF d3 (pv 3) (pv 1) (aP _)) (pw_or (aF ot (pv 3) aj (aP _)) (pw_or1 (aF vJ (pv 3) (ar bF (by rfl) T.len bc (aa (pv 0) af)) (aP _)))))) (ai (az ey)) aE)
   (ai (bC (aF fN (pv 1) (cH bO (pv 0) (pv 3) (fun _ _=>rfl)) (by with_unfolding_all rfl)) (ai (az ey)) aE))))
   (ai (az ey))))),?_⟩
  dsimp only [de]
  walk_at "rd"
  refine cw (aO.of g.top) (g.ix ha) ?_
  walk_at "rd"
  refine ⟨b,l,rfl,aO.of gQ,by omega,fun ps S pN=>?_⟩
  have e1:ao H (upd H ps (.set S (gu l).length)):=ao.upd pN
  refine ⟨ps,S,_,rfl,ak,?_⟩
  generalize upd H ps (.set S (gu l).length) = H1 at e1 ⊢
  walk_at "rd"
  refine ⟨_,_,rfl,.inl ⟨_,aO.of (e1 _ _ gQ),rfl⟩,?_⟩
  rw [List.length_map]
  have dl:=me l
  walk_at "rd"
  refine xr (fun z=>?_) (fun z=>?_)
  ·walk_at "rd"
   refine q _ _ e1 ⟨fun _ ⟨nd,_⟩=>z (by rw [gl] at nd; rw [dl.mpr nd]),fun _=>rfl⟩
  have nd:l.Nodup:=dl.mp (by omega)
  walk_at "rd"
  refine dZ ?_
  refine ⟨_,rfl,b,rfl,⟨_,aO.of (e1 _ _ gQ)⟩,lZ (K:=K) (a:=b) (xs:=l.map V.int) (fun i σ H2=>∃ v:Option V,σ = [some (.ref p),some (.int (k:Int)),some (.ref b),v]∧ao H H2∧∀ x∈l.take i,x≠(k:Int)∧0≤x∧x < L.length∧(k:Int)∈rowOf L x) ⟨none,rfl,e1,by simp⟩ (fun i σ H2 _ ⟨_,_,e,_⟩=>aO.of (e _ _ gQ)) ?_ ?_⟩
  ·rintro i x σ H2 hx ⟨v,rfl,e2,ok⟩
   obtain ⟨y,hy,rfl⟩:∃ y,l[i]? = some y∧x = V.int y:=by
    rw [List.getElem?_map] at hx
    cases e:l[i]? with
    | none=>rw [e] at hx; cases hx
    | some z=>rw [e] at hx; exact ⟨z,rfl,(Option.some.inj hx).symm⟩
   have ym:y∈L.getD k []:=by rw [gl]; exact List.mem_of_getElem? hy
   have bad:∀ {H':Hp},ao H H'→¬ (y≠(k:Int)∧0≤y∧y < L.length∧(k:Int)∈rowOf L y)→Q (.bl true) H':=fun e no=>q _ _ e ⟨fun _ ⟨_,h⟩=>no (h y ym),fun _=>rfl⟩
   refine r_seq (iq (fun H'=>ao H H'∧¬ (y≠(k:Int)∧0≤y∧y < L.length)) (fun H'=>ao H H'∧(y≠(k:Int)∧0≤y∧y < L.length)) (fun H3 ⟨e3,no⟩=>?_) (fun H3 ⟨e3,y0,y1,y2⟩=>?_) (fun RR yes no=>?_))
   ·walk_at "rd"
    exact bad e3 fun z=>no ⟨z.1,z.2.1,z.2.2.1⟩
   ·obtain ⟨yn,rfl⟩:=Int.eq_ofNat_of_zero_le y1
    obtain ⟨b2,l2,gZ,ya,sG⟩:=g.at (i:=yn) (by omega)
    have row:rowOf L (yn:Int) = l2:=by
     have:=lq (L:=L) (a:=(yn:Int)) (by omega) y2
     rw [Int.toNat_natCast,ya] at this
     exact (Option.some.inj this).symm
    walk_at "rd"
    refine cw (aO.of (e3 _ _ g.top)) (g.ix gZ) ?_
    refine ui (ns:=l2) (aO.of (e3 _ _ sG)) ?_
    rw [if_pos rfl]
    walk_at "rd"
    refine xr (fun z=>?_) (fun z=>?_)
    ·walk_at "rd"
     exact bad e3 fun w=>z (by rw [← row]; exact w.2.2.2)
    ·refine ⟨_,rfl,e3,fun x hx=>?_⟩
     rw [take_snoc hy] at hx
     rcases List.mem_append.mp hx with hx | hx
     ·exact ok x hx
     ·rw [List.mem_singleton.mp hx]
      exact ⟨y0,y1,y2,by rw [row]; exact z⟩
   ·walk_at "rd"
    refine if2 (fun z=>yes _ ⟨e2,fun w=>w.1 z⟩) (fun z=>?_)
    walk_at "rd"
    refine if2 (fun z2=>yes _ ⟨e2,fun w=>by omega⟩) (fun z2=>?_)
    walk_at "rd"
    refine ⟨_,_,rfl,.inl ⟨_,aO.of (e2 _ _ g.top),rfl⟩,?_⟩
    rw [List.length_map,g.len]
    walk_at "rd"
    by_cases z3:y≥(L.length:Int)
    ·rw [decide_eq_true z3]
     exact yes _ ⟨e2,fun w=>by omega⟩
    ·rw [decide_eq_false z3]
     exact no _ ⟨e2,z,by omega,by omega⟩
  ·rintro σ H2 ⟨v,rfl,e2,ok⟩
   walk_at "rd"
   rw [List.length_map,List.take_length] at ok
   refine q _ _ e2 ⟨fun z=>Bool.noConfusion z,fun z=>absurd ⟨by rw [gl]; exact nd,by rw [gl]; exact ok⟩ z⟩
theorem jz:aG ["orders", "place"] ["orders"] (ah cG):=⟨rfl,rfl,rfl,by decide +kernel,rfl,by decide +kernel,by decide +kernel⟩
theorem pj (D:Def K mg "looked" cG ["orders"]) (T:Txt K mg Z) (nA:cP P w K mg base (bP P w) "is_wrong" 1 ["orders", "place"] lg) (kR:xZ P w K mg base (bP P w) 1 Z.bG Z.cI "place" ["self", "place"]):cP P w K mg base (bP P w) "looked" 3 ["orders"] (jy Z.bG):=by
 refine D.xD jz (fun vs H Q E h=>?_) (fun f ck A outer s H vs Q E hr h=>?_)
 ·obtain ⟨p,as,L,rfl,_⟩:=h; rfl
 ·obtain ⟨p,as,L,rfl,g,hn,zp,q,qE⟩:=h
  refine ⟨_,(ai (cV PassesOwn.leaving rfl (cb rfl T.range (aa (ar bF (by rfl) T.len bc (aa (pv 0) af)) af)) (aW (i:=1) jz.nd rfl (by first | exact Or.inl rfl | exact Or.inr rfl))
   (ai (bC (cz (ax nA hr bq (aa (pv 0) (aa (pv 1) af)))) (ai (jB kR hr T.kM bq rfl (aa (pv 1) af) qW)) aE)))),?_⟩
  dsimp only [de]
  walk_at "rd"
  refine dZ ?_
  refine ⟨_,rfl,_,_,rfl,.inl ⟨_,aO.of g.top,rfl⟩,(L.length:Int),by rw [List.length_map,g.len],by omega,by omega,?_⟩
  rw [Int.toNat_natCast]
  refine cg (fun k σ H1=>∃ v:Option V,σ = [some (.ref p),v]∧ao H H1∧∀ j,j < k→¬ eJ L j) ⟨none,rfl,fun _ _ e=>e,fun j h=>absurd h (Nat.not_lt_zero _)⟩ ?_ ?_
  ·rintro k σ H1 hk ⟨v,rfl,e1,no⟩
   simp only [Int.zero_add]
   walk_at "rd"
   refine ⟨p,as,L,k,rfl,g.same e1,hk,hn,zp,fun H2 b e2 hb=>?_⟩
   cases b with
   | true=>
    walk_at "rd"
    refine ⟨_,rfl,fun d hd=>?_⟩
    exact qE k d _ ⟨hk,hb.mp rfl,no⟩ ((e1.trans e2).trans (ao.upd hd)) ((e1.trans e2).free hd) ak
   | false=>
    walk_at "rd"
    refine ⟨_,rfl,e1.trans e2,fun j hj=>?_⟩
    by_cases z:j = k
    ·rw [z]; exact fun w=>by have:=hb.mpr w; cases this
    ·exact no j (by omega)
  ·rintro σ H1 ⟨v,rfl,e1,no⟩
   exact q no _ e1
theorem mQ:aG ["text"] ["text"] (ah b9):=⟨rfl,rfl,rfl,by decide +kernel,rfl,by decide +kernel,by decide +kernel⟩
theorem ni (D:Def K mg "is_word" b9 ["text"]) (T:Txt K mg Z):cP P w K mg base (bP P w) "is_word" 1 ["text"] nW:=by
 refine D.fe mQ (fun vs H Q E h=>?_) (fun f ck A outer s H vs Q E hr h=>?_)
 ·obtain ⟨x,rfl,_⟩:=h; rfl
 ·obtain ⟨x,rfl,asc,hl,q⟩:=h
  refine ⟨_,(ag (bC (PW.pt (pw_or (aF d3 (ar bE (by rfl) T.len bc (aa (pv 0) af)) aj (aP _)) (pw_or1 (aF ou (ar bE (by rfl) T.len bc (aa (pv 0) af)) (rT rfl T.g_MOST_FIGURES) (aP _))))) (ai (az ey)) aE)
   (ai (az (fm (yX (dG d3 (pv 0) bI (aP _)) (gm (dG jC (cH sF (pv 0) aj (fun _ _=>rfl)) bI (aP _)))) (gm (ar (mj rfl) (by rfl) T.all tK (aa (gX (tg:=["sign"]) (fr:=[]) (by walk_at "blk_ok") rfl (rO (pv 0)) (fun _ _ _ _ _=>(aW (i:=0) (show [("sign" : Str)].Nodup by decide +kernel) rfl (by first | exact Or.inl rfl | exact Or.inr rfl))) (fun _ _ _ _ _=>cW) (fun _ _ _ _ _=>(dG ph (pv 0) (rS rfl T.g_FIGURES) (by with_unfolding_all rfl)))) af))))))),?_⟩
  dsimp only [de]
  refine r_seq (iq (fun H'=>H' = H∧(x.length = 0∨60 < x.length)) (fun H'=>H' = H∧x.length≠0∧x.length≤60) (fun H3 ⟨e3,no⟩=>?_) (fun H3 ⟨e3,y0,y1⟩=>?_) (fun RR yes no=>?_))
  ·subst e3
   walk_at "rd"
   have:gU x.cps.toList = false:=by
    unfold gU
    rcases no with z | z
    ·rw [show x.cps.toList = [] from List.length_eq_zero_iff.mp (by rw [str_len]; exact z)]; rfl
    ·rw [decide_eq_false (by rw [str_len]; omega),Bool.and_false]
   have q:=q _ (fun _ _ e=>e)
   rw [this] at q
   exact q
  ·subst e3
   have Ap:=wc y0 y1
   by_cases qu:(x.cps.toList == [48] || x.cps.toList.head? != some 48) = true
   ·rw [qu,Bool.true_and] at Ap
    walk_at "rd"
    refine C5 ?key (fun z k=>⟨true,rfl,pK k⟩) (fun z k=>?_)
    ·walk_at "rd"
     refine fj ?_
     refine ⟨_,rfl,x,rfl,asc,fun acc cB=>?_⟩
     refine tw (x:=x) (fun i σ' ys H1=>∃ v:Option V,σ' = [v]∧ys = ((x.cps.toList.take i).map kA).map V.bl∧ao H3 H1∧H1 acc = some (.lst ys))
      ⟨none,rfl,rfl,ao.upd cB,ak⟩ ?_ ?_
     ·rintro i c σ' ys H1 hc hi ⟨v,rfl,rfl,e1,a1⟩
      have hx:x.cps.size≤60:=y1
      have Jm:x.cps.toList[i]? = some c:=by rw [Array.getElem?_toList]; exact hc
      walk_at "rd"
      refine ⟨_,_,rfl,rfl,?_⟩
      rw [StrLaws.found_one,show decide (c∈(Str.ofString "0123456789").cps.toList) = kA c by rw [Bool.eq_iff_iff,decide_eq_true_iff]; exact sX]
      refine ⟨a1,by rw [List.length_map,List.length_map,List.length_take]; exact aX (by omega),gD hi ⟨_,rfl,?_,ao.fresh e1 cB,ak⟩⟩
      rw [take_snoc Jm,List.map_append,List.map_append]
      rfl
     ·rintro σ' ys H1 ⟨v,rfl,rfl,e1,a1⟩
      rw [List.take_of_length_le (by simp)] at a1
      walk_at "rd"
      refine ⟨acc,x.cps.toList.map kA,rfl,aO.of a1,?_⟩
      have q:=q _ e1
      rw [Ap] at q
      rw [List.all_map]
      exact q
    ·have z':¬ x.cps.toList = [48]:=fun w=>z ((jY x).mpr w)
     cases e:x.cps.toList with
     | nil=>exact absurd (by rw [← str_len,e]; rfl) y0
     | cons c r=>
      have ne:c≠48:=fun w=>by
       rw [e] at qu z'
       subst w
       simp at qu
       exact z' (by rw [qu])
      walk_at "rd"
      refine ⟨x,0,c,rfl,rfl,by rw [PySem.sizeLine_eq]; omega,dk (j:=0) (by rw [e]; rfl),?_⟩
      walk_at "rd"
      rw [decide_eq_false (fun w=>ne (by
       have:=(jY _).mp w
       simpa using this))]
      exact pK k
   ·have qu:(x.cps.toList == [48] || x.cps.toList.head? != some 48) = false:=Bool.eq_false_iff.mpr qu
    rw [qu,Bool.false_and] at Ap
    have q:=q H3 (fun _ _ e=>e)
    rw [Ap] at q
    walk_at "rd"
    refine if2 (fun z=>?_) (fun z=>?_)
    ·rw [(jY x).mp z] at qu
     exact absurd qu (by decide)
    ·cases e:x.cps.toList with
     | nil=>exact absurd (by rw [← str_len,e]; rfl) y0
     | cons c r=>
      have ec:c = 48:=by
       rw [e] at qu
       simp at qu
       exact qu.2
      subst ec
      walk_at "rd"
      refine ⟨x,0,48,rfl,rfl,by rw [PySem.sizeLine_eq]; omega,dk (j:=0) (by rw [e]; rfl),?_⟩
      walk_at "rd"
      rw [decide_eq_true (show (⟨#[48]⟩:Str) = Str.ofString "0" by decide +kernel)]
      walk_at "rd"
      exact q
  ·walk_at "rd"
   refine ⟨x,rfl,by rw [PySem.sizeLine_eq]; omega,?_⟩
   walk_at "rd"
   refine if2 (fun z=>yes _ ⟨rfl,.inl (by omega)⟩) (fun z=>?_)
   walk_at "rd"
   refine ⟨x,rfl,by rw [PySem.sizeLine_eq]; omega,?_⟩
   walk_at "rd"
   by_cases z2:(x.length:Int) > 60
   ·rw [decide_eq_true z2]
    exact yes _ ⟨rfl,.inr (by omega)⟩
   ·rw [decide_eq_false z2]
    exact no _ ⟨rfl,by omega,by omega⟩
theorem gC:aG ["row", "place", "parts"] ["row", "place"] (ah bU):=⟨rfl,rfl,rfl,by decide +kernel,rfl,by decide +kernel,by decide +kernel⟩
theorem lG (D:Def K mg "order_in" bU ["row", "place"]) (T:Txt K mg Z) (pS:cP P w K mg base (bP P w) "is_word" 1 ["text"] nW) (eK:xZ P w K mg base (bP P w) 1 Z.aN Z.cI "row" ["self", "row"]):cP P w K mg base (bP P w) "order_in" 3 ["row", "place"] (ib Z.aN):=by
 refine D.xD gC (fun vs H Q E h=>?_) (fun f ck A outer s H vs Q E hr h=>?_)
 ·obtain ⟨k,x,rfl,_⟩:=h; rfl
 ·obtain ⟨k,x,rfl,hk,asc,hl,q⟩:=h
  obtain ⟨t,ts,jJ⟩:∃ t ts,sp 32 x.cps.toList = t :: ts:=by
   cases e:sp 32 x.cps.toList with
   | nil=>exact absurd e (gA _ _)
   | cons t ts=>exact ⟨t,ts,rfl⟩
  have subs:∀ u∈t :: ts,u.Sublist x.cps.toList:=fun u hu=>h9 32 _ u (by rw [jJ]; exact hu)
  have hlen:(t :: ts).length≤501:=by
   have:=gj 32 x.cps.toList
   rw [jJ] at this
   have:=List.count_le_length (a:=32) (l:=x.cps.toList)
   have:=str_len (x:=x)
   omega
  have tl:ts.length≤500:=by simpa using hlen
  refine ⟨_,(ag (aM (i:=2) gC.nd rfl (by first | exact Or.inl rfl | exact Or.inr rfl) (ff PySem.F.plainAttrs_str PySem.F.slot_str_split PySem.F.type_str_split fS (pv 0) (aa bI af)))
   (ag (bC (PW.pt (pw_or (aF jC (cH bO (pv 2) aj (fun _ _=>rfl)) (wV (pv 1)) (aP _)) (pw_or1 (fk (cz (ar (mj rfl) (by rfl) T.all tK (aa (gX (tg:=["part"]) (fr:=[]) (by walk_at "blk_ok") rfl (eQ (bQ kd (pv 2) (b4 aj) b5)) (fun _ _ _ _ _=>(aW (i:=0) (show [("part" : Str)].Nodup by decide +kernel) rfl (by first | exact Or.inl rfl | exact Or.inr rfl))) (fun _ _ _ _ _=>cW) (fun _ _ _ _ _=>(ax pS hr bq (aa (pv 0) af)))) af))))))) (ai (jB eK hr T.gb bq rfl (aa (pv 1) af) qW)) aE)
   (ai (az (gX (tg:=["part"]) (fr:=[]) (by walk_at "blk_ok") rfl (eQ (bQ kd (pv 2) (b4 aj) b5)) (fun _ _ _ _ _=>(aW (i:=0) (show [("part" : Str)].Nodup by decide +kernel) rfl (by first | exact Or.inl rfl | exact Or.inr rfl))) (fun _ _ _ _ _=>cW) (fun _ _ _ _ _=>(cf jP (by rfl) T.int nN (aa (pv 0) af)))))))),?_⟩
  dsimp only [de]
  walk_at "rd"
  refine ⟨rfl,?_⟩
  walk_at "rd"
  refine ⟨_,mC,rfl,rfl,by decide +kernel,by omega,by have:=eR x mC; rw [PySem.sizeLine_eq]; omega,fun ps pN=>?_⟩
  rw [hZ,fD,jJ]
  have e1:ao H (upd H ps (.lst (((t :: ts).map st).map V.str))):=ao.upd pN
  have p1:upd H ps (.lst (((t :: ts).map st).map V.str)) ps = some (.lst (((t :: ts).map st).map V.str)):=ak
  generalize upd H ps (.lst (((t :: ts).map st).map V.str)) = H1 at e1 p1 ⊢
  have A0:st (hd k) = num (k:Int) ++ mB:=qH _
  refine r_seq (iq (fun H'=>ao H1 H'∧¬ (t = hd k∧ts.all gU = true)) (fun H'=>ao H1 H'∧t = hd k∧ts.all gU = true) (fun H3 ⟨e3,no⟩=>?_) (fun H3 ⟨e3,y0,y1⟩=>?_) (fun RR yes no=>?_))
  ·have no:=fI jJ no
   walk_at "rd"
   refine ⟨_,rfl,fun d hd=>?_⟩
   rcases q with ⟨l,z,_⟩ | ⟨_,qE⟩
   ·rw [no] at z; cases z
   ·exact qE d _ ((e1.trans e3).trans (ao.upd hd)) ((e1.trans e3).free hd) ak
  ·have yes:=ke jJ y0 y1
   have q:∀ (a:Addr) H',ao H H'→H a = none→H' a = some (.lst ((ts.map fun w=>((PySem.NumText.digitsVal w:Nat):Int)).map V.int))→Q (.ref a) H':=by
    rcases q with ⟨l,z,q⟩ | ⟨z,_⟩
    ·rw [yes] at z; cases z; exact q
    ·rw [yes] at z; cases z
   have Bd:=e1.trans e3
   have p3:=e3 _ _ p1
   walk_at "rd"
   refine fj ?_
   refine gW (mV (a:=ps) (i:=2) rfl (aO.of p3) fun p4 IP=>⟨p4,rfl,?_⟩)
   have e4:ao H3 (upd H3 p4 (.lst ((ts.map st).map V.str))):=ao.upd IP
   have q4:upd H3 p4 (.lst ((ts.map st).map V.str)) p4 = some (.lst ((ts.map st).map V.str)):=ak
   refine ⟨⟨_,aO.of q4⟩,fun Gi uK=>?_⟩
   generalize upd H3 p4 (.lst ((ts.map st).map V.str)) = H4 at e4 q4 uK ⊢
   have F2:=Bd.trans e4
   refine eT (K:=K) (a:=p4) (xs:=(ts.map st).map V.str) (fun j σ' ys H5=>∃ v:Option V,σ' = [v]∧ys = ((ts.take j).map fun w=>((PySem.NumText.digitsVal w:Nat):Int)).map V.int∧ao H4 H5∧H5 Gi = some (.lst ys))
    ⟨none,rfl,rfl,ao.upd uK,ak⟩ (fun j σ' ys H3 _ ⟨_,_,_,e,_⟩=>aO.of (e _ _ q4)) ?_ ?_
   ·rintro j x2 σ' ys H5 hx hj ⟨v,rfl,rfl,e5,a5⟩
    have jr:=hj
    rw [List.length_map,List.length_map] at jr
    obtain ⟨y,hy,rfl⟩:∃ y,ts[j]? = some y∧x2 = V.str (st y):=by
     rw [List.getElem?_map,List.getElem?_map] at hx
     cases e:ts[j]? with
     | none=>rw [e] at hx; cases hx
     | some z=>rw [e] at hx; exact ⟨z,rfl,(Option.some.inj hx).symm⟩
    have ym:=List.mem_of_getElem? hy
    have yw:=List.all_eq_true.mp y1 y ym
    unfold gU at yw
    rw [Bool.and_eq_true] at yw
    have yl:=of_decide_eq_true yw.2
    walk_at "rd"
    refine ⟨st y,rfl,mG yw.1,vi yw.1,by rw [dw]; omega,?_⟩
    refine ⟨a5,by rw [List.length_map,List.length_map,List.length_take]; exact aX (by omega),gD hj ⟨_,rfl,?_,ao.fresh e5 uK,ak⟩⟩
    rw [take_snoc hy,List.map_append,List.map_append]
    rfl
   ·rintro σ' ys H5 ⟨v,rfl,rfl,e5,a5⟩
    rw [List.length_map,List.length_map,List.take_length] at a5
    walk_at "rd"
    exact q Gi _ (F2.trans e5) (F2.free uK) a5
  ·walk_at "rd"
   refine cw (aO.of p1) (show qx (((t :: ts).map st).map V.str) ((0:Nat):Int) = some (V.str (st t)) from dk (by simp)) ?_
   walk_at "rd"
   refine ⟨_,rfl,kr (Nat.lt_trans hk (by decide)),by have:=(fQ (n:=k) (k:=2) (by decide)).mpr (by omega); exact Nat.le_trans (Nat.add_le_add this (show mB.length≤1 by decide +kernel)) (by decide),?_⟩
   walk_at "rd"
   by_cases z:st t = num (k:Int) ++ mB
   ·have zt:t = hd k:=by
     have:=congrArg (fun s:Str=>s.cps.toList) z
     exact this
    rw [decide_eq_true z]
    walk_at "rd"
    refine fj ?_
    refine gW (mV (a:=ps) (i:=2) rfl (aO.of p1) fun p2 zr=>⟨p2,rfl,?_⟩)
    have e2:ao H1 (upd H1 p2 (.lst ((ts.map st).map V.str))):=ao.upd zr
    have q2:upd H1 p2 (.lst ((ts.map st).map V.str)) p2 = some (.lst ((ts.map st).map V.str)):=ak
    refine ⟨⟨_,aO.of q2⟩,fun acc cB=>?_⟩
    generalize upd H1 p2 (.lst ((ts.map st).map V.str)) = H2 at e2 q2 cB ⊢
    refine eT (K:=K) (a:=p2) (xs:=(ts.map st).map V.str) (fun j σ' ys H3=>∃ v:Option V,σ' = [v]∧ys = ((ts.take j).map gU).map V.bl∧ao H2 H3∧H3 acc = some (.lst ys))
     ⟨none,rfl,rfl,ao.upd cB,ak⟩ (fun j σ' ys H3 _ ⟨_,_,_,e,_⟩=>aO.of (e _ _ q2)) ?_ ?_
    ·rintro j x2 σ' ys H3 hx hj ⟨v,rfl,rfl,e3,a3⟩
     have jr:=hj
     rw [List.length_map,List.length_map] at jr
     obtain ⟨y,hy,rfl⟩:∃ y,ts[j]? = some y∧x2 = V.str (st y):=by
      rw [List.getElem?_map,List.getElem?_map] at hx
      cases e:ts[j]? with
      | none=>rw [e] at hx; cases hx
      | some z=>rw [e] at hx; exact ⟨z,rfl,(Option.some.inj hx).symm⟩
     have ys:=subs y (List.mem_cons_of_mem _ (List.mem_of_getElem? hy))
     have yl:=ys.length_le
     walk_at "rd"
     refine ⟨st y,rfl,iR fun c hc=>kQ asc c (ys.subset hc),by rw [dw]; rw [str_len] at yl; omega,fun H4 e4=>?_⟩
     refine ⟨e4 _ _ a3,by rw [List.length_map,List.length_map,List.length_take]; exact aX (by omega),gD hj ⟨_,rfl,?_,ao.fresh (e3.trans e4) cB,ak⟩⟩
     rw [take_snoc hy,List.map_append,List.map_append]
     rfl
    ·rintro σ' ys H3 ⟨v,rfl,rfl,e3,a3⟩
     rw [List.length_map,List.length_map,List.take_length] at a3
     walk_at "rd"
     refine ⟨acc,ts.map gU,rfl,aO.of a3,?_⟩
     rw [List.all_map]
     by_cases z2:ts.all gU = true
     ·rw [show ts.all (id ∘ gU) = true from z2]
      exact ⟨_,rfl,no _ ⟨e2.trans e3,zt,z2⟩⟩
     ·rw [show ts.all (id ∘ gU) = false from Bool.eq_false_iff.mpr z2]
      exact ⟨_,rfl,yes _ ⟨e2.trans e3,fun w=>z2 w.2⟩⟩
   ·rw [decide_eq_false z]
    walk_at "rd"
    exact yes _ ⟨fun _ _ e=>e,fun w=>z (by rw [← A0,w.1])⟩
theorem nZ:aG ["text", "orders"] ["text"] (ah et):=⟨rfl,rfl,rfl,by decide +kernel,rfl,by decide +kernel,by decide +kernel⟩
theorem uu (D:Def K mg "read" et ["text"]) (T:Txt K mg Z) (sI:cP P w K mg base (bP P w) "looked" 3 ["orders"] (jy Z.bG)) (nz:cP P w K mg base (bP P w) "order_in" 3 ["row", "place"] (ib Z.aN)):cP P w K mg base (bP P w) "read" 4 ["text"] (j7 Z.aN Z.bG):=by
 refine D.xD nZ (fun vs H Q E h=>?_) (fun f ck A outer s H vs Q E hr h=>?_)
 ·obtain ⟨x,rfl,_⟩:=h; rfl
 ·obtain ⟨x,rfl,⟨asc,hl,LB⟩,q⟩:=h
  have rl:=gj 10 x.cps.toList
  have subs:=h9 10 x.cps.toList
  refine ⟨_,(ag (rM kP y9 (i:=1) nZ.nd rfl (by first | exact Or.inl rfl | exact Or.inr rfl) (tg:=["place", "row"]) (fr:=[]) (by walk_at "blk_ok") rfl (oj T.enumerate (aa (ff PySem.F.plainAttrs_str PySem.F.slot_str_split PySem.F.type_str_split fS (pv 0) (aa bI af)) af)) (fun _ _ _ _ _=>(uk (K:=K) rfl (n:=2) rfl (fK (aW (i:=0) (show [("place" : Str),("row" : Str)].Nodup by decide +kernel) rfl (by first | exact Or.inl rfl | exact Or.inr rfl)) (fK (aW (i:=1) (show [("place" : Str),("row" : Str)].Nodup by decide +kernel) rfl (by first | exact Or.inl rfl | exact Or.inr rfl)) om)))) (fun _ _ _ _ _=>cW) (fun _ _ _ _ _=>(ax nz hr yZ (aa (pv 1) (aa (pv 0) af)))))
   (ag (dF (ax sI hr yY (aa (pv 1) af)))
   (ai (az (pv 1))))),?_⟩
  dsimp only [de]
  walk_at "rd"
  refine fj ?_
  refine n6 ?_
  walk_at "rd"
  refine ⟨rfl,?_⟩
  walk_at "rd"
  refine ⟨_,qG,rfl,rfl,by decide +kernel,by omega,by have:=eR x qG; rw [PySem.sizeLine_eq]; omega,fun ps pN=>?_⟩
  rw [mL,fD]
  generalize hR:sp 10 x.cps.toList = R at rl subs q ⊢
  have e1:ao H (upd H ps (.lst ((R.map st).map V.str))):=ao.upd pN
  have p1:upd H ps (.lst ((R.map st).map V.str)) ps = some (.lst ((R.map st).map V.str)):=ak
  generalize upd H ps (.lst ((R.map st).map V.str)) = H1 at e1 p1 ⊢
  walk_at "rd"
  refine ⟨ps,rfl,⟨_,aO.of p1⟩,fun acc cB=>?_⟩
  refine p5 (K:=K) (a:=ps) (xs:=(R.map st).map V.str) (fun i σ' ys H2=>∃ (v v2:Option V) (bs:List Addr) (L:List (List Int)),σ' = [v,v2]∧ys = bs.map V.ref∧bs.length = i∧ao H1 H2∧cE H2 acc bs L∧acc∉bs∧fB (R.take i) L)
   ⟨none,none,[],[],rfl,rfl,rfl,ao.upd cB,⟨ak,rfl,fun i a l z=>by simp at z⟩,by simp,rfl,fun i r z=>by simp at z⟩ (fun i σ' ys H2 _ ⟨_,_,_,_,_,_,_,e,_⟩=>aO.of (e _ _ p1)) ?_ ?_
  ·rintro i x2 pr σ' ys H2 hx hi ⟨v,v2,bs,L,rfl,rfl,zH,e2,g2,na,al⟩ Df
   have Jb:=hi
   rw [List.length_map,List.length_map] at Jb
   obtain ⟨r,uE,rfl⟩:∃ r,R[i]? = some r∧x2 = V.str (st r):=by
    rw [List.getElem?_map,List.getElem?_map] at hx
    cases e:R[i]? with
    | none=>rw [e] at hx; cases hx
    | some z=>rw [e] at hx; exact ⟨z,rfl,(Option.some.inj hx).symm⟩
   have rs:=subs r (List.mem_of_getElem? uE)
   have wD:=rs.length_le
   rw [str_len] at wD
   have e3:ao H2 (upd H2 pr (.tup [.int i,.str (st r)])):=ao.upd Df
   refine ir (SqT.of ak) rfl ?_
   generalize upd H2 pr (.tup [.int i,.str (st r)]) = H3 at e3 ⊢
   have DA:L.length = i:=by rw [al.1,List.length_take]; omega
   have Bc:=(e1.trans e2).trans e3
   walk_at "rd"
   refine ⟨i,st r,rfl,by omega,iR fun c hc=>kQ asc c (rs.subset hc),by rw [dw]; omega,?_⟩
   rw [cL]
   cases Dd:ro i r with
   | some l=>
    refine .inl ⟨l,rfl,fun b H4 e4 fb hb=>?_⟩
    have g4:=(g2.same e3).same e4
    have nb:b≠acc:=fun z=>by rw [z] at fb; exact absurd (e3 _ _ g2.top) (by rw [fb]; simp)
    refine ⟨g4.top,by rw [List.length_map]; exact aX (by omega),gD hi ⟨_,_,bs ++ [b],L ++ [l],rfl,by simp,by simp [zH],ao.fresh ((e2.trans e3).trans e4) cB,?_,?_,?_⟩⟩
    ·exact g4.snoc na nb hb
    ·intro z
     rcases List.mem_append.mp z with z | z
     ·exact na z
     ·exact nb (List.mem_singleton.mp z).symm
    ·rw [take_snoc uE]
     exact al.snoc (by rw [DA]; exact Dd)
   | none=>
    refine .inr ⟨rfl,fun d H4 e4 fd hd=>?_⟩
    rcases q with ⟨i',fn,qE⟩ | ⟨L',xT,_⟩
    ·obtain ⟨row,h1,h2,h3⟩:=fn
     have:i' = i:=by
      rcases Nat.lt_trichotomy i i' with z | z | z
      ·exact absurd Dd (h3 i z r uE)
      ·exact z.symm
      ·obtain ⟨l,_,e⟩:=al.2 i' row (by rw [List.getElem?_take,if_pos z]; exact h1)
       rw [h2] at e; cases e
     subst this
     exact qE d _ (Bc.trans e4) (Bc.free fd) hd
    ·obtain ⟨l,_,e⟩:=xT.2 i r uE
     rw [Dd] at e; cases e
  ·rintro σ' ys H2 ⟨v,v2,bs,L,rfl,rfl,zH,e2,g2,na,al⟩
   rw [List.length_map,List.length_map,List.take_length] at al
   have Ll:=al.1
   have rows:∀ r∈L,r.length≤500:=fun r hr=>by
    obtain ⟨k,hk⟩:=List.mem_iff_getElem?.mp hr
    have kl:=(List.getElem?_eq_some_iff.mp hk).1
    obtain ⟨l,h1,h2⟩:=al.2 k R[k] (by simp)
    rw [hk] at h1
    cases h1
    have:=qT h2
    have s1:=(subs R[k] (List.getElem_mem _)).length_le
    rw [str_len] at s1
    omega
   walk_at "rd"
   refine ⟨acc,bs,L,rfl,g2,by omega,rows,fun no H3 e3=>?_,fun i d H3 fw e3 fd hd=>?_⟩
   ·walk_at "rd"
    rcases q with ⟨i',⟨row,h1,h2,_⟩,_⟩ | ⟨L',xT,⟨i',yd,_⟩ | ⟨_,q⟩⟩
    ·obtain ⟨l,_,e⟩:=al.2 i' row h1
     rw [h2] at e; cases e
    ·rw [xT.uniq al] at yd
     exact absurd yd.wr (no _ yd.lt)
    ·rw [xT.uniq al] at q
     exact q acc bs H3 ((e1.trans e2).trans e3) (g2.same e3)
   ·rcases q with ⟨i',⟨row,h1,h2,_⟩,_⟩ | ⟨L',xT,⟨i',yd,q⟩ | ⟨no,_⟩⟩
    ·obtain ⟨l,_,e⟩:=al.2 i' row h1
     rw [h2] at e; cases e
    ·rw [xT.uniq al] at yd
     rw [yd.uniq fw] at q
     exact q d _ ((e1.trans e2).trans e3) ((e1.trans e2).free fd) hd
    ·rw [xT.uniq al] at no
     exact absurd fw.wr (no _ fw.lt)
theorem dE:aG ["_law_orders", "_law_rows_here", "_law_place"] ["_law_orders"] (ah bL):=⟨rfl,rfl,rfl,by decide +kernel,rfl,by decide +kernel,by decide +kernel⟩
theorem kn (D:Def K mg "_law_rows" bL ["_law_orders"]) (T:Txt K mg Z):cP P w K mg base (bP P w) "_law_rows" 1 ["_law_orders"] nX:=by
 refine D.fe dE (fun vs H Q E h=>?_) (fun f ck A outer s H vs Q E hr h=>?_)
 ·obtain ⟨p,as,L,rfl,_⟩:=h; rfl
 ·obtain ⟨p,as,L,rfl,g,sm,q⟩:=h
  have hL:=sm.len
  refine ⟨_,(ag (aM (i:=1) dE.nd rfl (by first | exact Or.inl rfl | exact Or.inr rfl) (nh af))
   (ag (cV PassesOwn.never rfl (cb rfl T.range (aa (ar bF (by rfl) T.len bc (aa (pv 0) af)) af)) (aW (i:=2) dE.nd rfl (by first | exact Or.inl rfl | exact Or.inr rfl))
   (ai (dF (ff PySem.F.plainAttrs_list PySem.F.slot_list_append PySem.F.type_list_append eS (pv 1) (aa (av aY (av aY (cf cO (by rfl) T.str kO (aa (pv 2) af)) bI) (ff PySem.F.plainAttrs_str PySem.F.slot_str_join PySem.F.type_str_join ox bI (aa (gX (tg:=["_law_other"]) (fr:=[]) (by walk_at "blk_ok") rfl (eQ (cH bO (pv 0) (pv 2) (fun _ _=>rfl))) (fun _ _ _ _ _=>(aW (i:=0) (show [("_law_other" : Str)].Nodup by decide +kernel) rfl (by first | exact Or.inl rfl | exact Or.inr rfl))) (fun _ _ _ _ _=>cW) (fun _ _ _ _ _=>(av aY bI (cf cO (by rfl) T.str kO (aa (pv 0) af))))) af))) af)))))
   (ai (az (ff PySem.F.plainAttrs_str PySem.F.slot_str_join PySem.F.type_str_join ox bI (aa (pv 1) af)))))),?_⟩
  dsimp only [de]
  walk_at "rd"
  refine ⟨Nat.zero_le _,fun rs FD=>?_⟩
  have e0:ao H (upd H rs (.lst [])):=ao.upd FD
  have r0:upd H rs (.lst []) rs = some (.lst []):=ak
  generalize upd H rs (.lst []) = H0 at e0 r0 ⊢
  walk_at "rd"
  refine dZ ?_
  refine ⟨_,rfl,_,_,rfl,.inl ⟨_,aO.of (e0 _ _ g.top),rfl⟩,(L.length:Int),by rw [List.length_map,g.len],by omega,by omega,?_⟩
  rw [Int.toNat_natCast]
  refine cg (fun i σ H1=>∃ v2:Option V,σ = [some (.ref p),some (.ref rs),v2]∧ao H H1∧H1 rs = some (.lst ((cU (L.take i)).map V.str)))
   ⟨none,rfl,e0,r0⟩ ?_ ?_
  ·rintro i σ H1 hi ⟨v2,rfl,e1,a1⟩
   simp only [Int.zero_add]
   obtain ⟨b,l,hb,hl,gQ⟩:=g.at hi
   have fl:=sm.zP l (List.mem_of_getElem? hl)
   have I8:=fl.1
   have i0:(0:Int)≤i:=by omega
   have i1:(i:Int) < 14:=by omega
   have vP:=e1 _ _ gQ
   have zF:=lS i0 i1
   walk_at "rd"
   refine ⟨.inl ⟨rfl,_,aO.of a1⟩,?_⟩
   walk_at "rd"
   refine ⟨_,rfl,jI i0 i1,?_⟩
   walk_at "rd"
   refine ⟨_,_,rfl,rfl,by rw [Str.length_append] at zF; rw [PySem.sizeLine_eq]; exact Nat.le_trans zF (by decide),?_⟩
   walk_at "rd"
   refine ⟨rfl,?_⟩
   walk_at "rd"
   refine fj ?_
   refine gW ?_
   walk_at "rd"
   refine cw (aO.of (e1 _ _ g.top)) (g.ix hb) ?_
   refine ⟨b,rfl,⟨_,aO.of vP⟩,fun acc cB=>?_⟩
   refine eT (K:=K) (a:=b) (xs:=(l).map V.int) (fun j σ' ys H6=>∃ v:Option V,σ' = [v]∧ys = (((l).take j).map fun x=>mC ++ num x).map V.str∧ao H1 H6∧H6 acc = some (.lst ys))
    ⟨none,rfl,rfl,ao.upd cB,ak⟩ (fun j σ' ys H6 _ ⟨_,_,_,e,_⟩=>aO.of (e _ _ vP)) ?_ ?_
   ·rintro j x σ' ys H6 hx hj ⟨v,rfl,rfl,e6,a6⟩
    obtain ⟨y,hy,rfl⟩:∃ y,(l)[j]? = some y∧x = V.int y:=by
     rw [List.getElem?_map] at hx
     cases e:(l)[j]? with
     | none=>rw [e] at hx; cases hx
     | some z=>rw [e] at hx; exact ⟨z,rfl,(Option.some.inj hx).symm⟩
    have jr:=hj
    rw [List.length_map] at jr
    have yr:=fl.2 y (List.mem_of_getElem? hy)
    have yl:=(gn yr.1 yr.2).l2
    walk_at "rd"
    refine ⟨y,rfl,jI yr.1 yr.2,?_⟩
    walk_at "rd"
    refine ⟨_,_,rfl,rfl,by rw [PySem.sizeLine_eq]; exact Nat.le_trans (Nat.add_le_add (Nat.le_refl _) yl) (by decide),?_⟩
    refine ⟨a6,by rw [List.length_map,List.length_map,List.length_take]; exact aX (by omega),gD hj ⟨_,rfl,?_,ao.fresh e6 cB,ak⟩⟩
    rw [List.take_succ,hy,Option.toList_some,List.map_append,List.map_append]
    rfl
   ·rintro σ' ys H6 ⟨v,rfl,rfl,e6,a6⟩
    rw [List.length_map,List.take_length] at a6
    walk_at "rd"
    refine ⟨t0,acc,_,rfl,rfl,aO.of a6,mF fl,?_⟩
    walk_at "rd"
    refine ⟨_,_,rfl,rfl,by have:=oS fl; rw [PySem.sizeLine_eq]; exact Nat.le_trans (Nat.add_le_add zF this) (by decide),?_⟩
    walk_at "rd"
    have Kh:=e6 _ _ a1
    refine lB Kh (by rw [List.length_map,eO,List.length_take]; exact aX (by omega)) ?_
    refine ⟨_,rfl,ao.fresh (e1.trans e6) FD,?_⟩
    rw [take_snoc hl,mR,List.map_append,List.length_take,Nat.min_eq_left (by omega),wC]
    exact ak
  ·rintro σ H1 ⟨v2,rfl,e1,a1⟩
   rw [List.take_length] at a1
   walk_at "rd"
   refine ⟨rfl,?_⟩
   walk_at "rd"
   refine ⟨qG,rs,_,rfl,rfl,aO.of a1,sf sm,?_⟩
   exact q _ e1
theorem wz:(Str.ofString "0123456789  ::\n+-_.a").length = 20:=by decide +kernel
theorem yK {j:Nat} (h:j < 20):∃ c,(Str.ofString "0123456789  ::\n+-_.a").cps.toList[j]? = some c∧c < 128:=by
 have e:(Str.ofString "0123456789  ::\n+-_.a").cps.toList = [48,49,50,51,52,53,54,55,56,57,32,32,58,58,10,43,45,95,46,97]:=by decide +kernel
 rw [e]
 have:∀ c∈[48,49,50,51,52,53,54,55,56,57,32,32,58,58,10,43,45,95,46,97],c < 128:=by decide
 refine ⟨_,List.getElem?_eq_getElem h,this _ (List.getElem_mem _)⟩
theorem bZ:aG ["_law_text", "_law_number_here", "_law_signs", "_law_sign", "_law_at"] ["_law_text", "_law_number_here"] (ah aS):=⟨rfl,rfl,rfl,by decide +kernel,rfl,by decide +kernel,by decide +kernel⟩
theorem gM (D:Def K mg "_law_spoiled" aS ["_law_text", "_law_number_here"]) (T:Txt K mg Z):cP P w K mg base (bP P w) "_law_spoiled" 1 ["_law_text", "_law_number_here"] ia:=by
 refine D.fe bZ (fun vs H Q E h=>?_) (fun f ck A outer s H vs Q E hr h=>?_)
 ·obtain ⟨x,n,m,rfl,_⟩:=h; rfl
 ·obtain ⟨x,n,m,rfl,n0,Lh,tx,q⟩:=h
  have xl:=tx.l
  rw [str_len] at xl
  have bz:∀ j:Nat,j≤1000→j≤sizeLine:=fun j h=>by rw [PySem.sizeLine_eq]; omega
  refine ⟨_,(ag (aM (i:=2) bZ.nd rfl (by first | exact Or.inl rfl | exact Or.inr rfl) bI)
   (ag (aM (i:=3) bZ.nd rfl (by first | exact Or.inl rfl | exact Or.inr rfl) (cH sF (pv 2) (av bJ (av dH (pv 1) aj) (ar bE (by rfl) T.len bc (aa (pv 2) af))) (fun _ _=>rfl)))
   (ag (aM (i:=4) bZ.nd rfl (by first | exact Or.inl rfl | exact Or.inr rfl) (av bJ (av dH (pv 1) aj) (av bN (ar bE (by rfl) T.len bc (aa (pv 0) af)) aj)))
   (ag (bC (PW.pt (pw_or (aF d3 (av bJ (pv 1) aj) aj (aP _)) (pw_or1 (aF d3 (pv 4) (ar bE (by rfl) T.len bc (aa (pv 0) af)) (aP _))))) (ai (az (av aY (av aY (bQ dD (pv 0) b5 (b4 (pv 4))) (pv 3)) (bQ dD (pv 0) (b4 (pv 4)) b5)))) aE)
   (ag (bC (aF d3 (av bJ (pv 1) aj) aj (aP _)) (ai (az (av aY (bQ dD (pv 0) b5 (b4 (pv 4))) (bQ dD (pv 0) (b4 (av bN (pv 4) aj)) b5)))) aE)
   (ai (az (av aY (av aY (bQ dD (pv 0) b5 (b4 (pv 4))) (pv 3)) (bQ dD (pv 0) (b4 (av bN (pv 4) aj)) b5))))))))),?_⟩
  try dsimp only [de]
  walk_at "rd"
  refine ⟨_,rfl,bz _ (by decide +kernel),?_⟩
  walk_at "rd"
  rw [wz]
  have k0:=Int.emod_nonneg (n / 3) (show ((20:Nat):Int)≠0 by decide)
  have k1:=Int.emod_lt_of_pos (n / 3) (show (0:Int) < ((20:Nat):Int) by decide)
  obtain ⟨j,hj⟩:=Int.eq_ofNat_of_zero_le k0
  rw [hj] at k1 ⊢
  obtain ⟨c,hc,c1⟩:=yK (j:=j) (by omega)
  refine ⟨_,_,c,rfl,rfl,bz _ (by decide +kernel),dk hc,?_⟩
  walk_at "rd"
  refine ⟨x,rfl,bz _ (by omega),?_⟩
  walk_at "rd"
  refine rh (show (0:Int) < (x.length:Int) + 1 by omega) ?_
  obtain ⟨b,hb⟩:=Int.eq_ofNat_of_zero_le (Int.emod_nonneg (n / 64) (show (x.length:Int) + 1≠0 by omega))
  have b1:=Int.emod_lt_of_pos (n / 64) (show (0:Int) < (x.length:Int) + 1 by omega)
  rw [hb] at b1 ⊢
  have sl:∀ l u,(Txt.slice x l u).length≤400:=fun l u=>Nat.le_trans (Txt.slice_le x l u) (by omega)
  have cl:(⟨#[c]⟩:Str).length = 1:=rfl
  have fin:∀ (y z:Str) (j:Nat),b≤j→y.cps.toList = x.cps.toList.take b→z.cps.toList = x.cps.toList.drop j→Tx (m + 1) (y ++ ⟨#[c]⟩ ++ z).cps.toList∧Tx (m + 1) (y ++ z).cps.toList:=fun y z j h1 h2 h3=>by
   rw [bK,bK,bK,h2,h3]
   exact ⟨tx.put h1 c1,tx.cut h1⟩
  refine r_gname (r_seq (iq (fun H'=>H' = H) (fun H'=>H' = H) (fun H3 e3=>?_) (fun H3 e3=>?_) (fun RR yes no=>?_)))
  ·subst e3
   walk_at "rd"
   refine ⟨_,rfl,x,rfl,bz _ (by omega),?_⟩
   walk_at "rd"
   refine ⟨_,_,rfl,rfl,bz _ (by have:=sl none (some (b:Int)); omega),?_⟩
   walk_at "rd"
   refine ⟨_,rfl,x,rfl,bz _ (by omega),?_⟩
   refine ⟨_,_,rfl,rfl,bz _ (by have:=sl none (some (b:Int)); have:=sl (some (b:Int)) none; rw [Str.length_append]; omega),?_⟩
   exact q _ (fin _ _ b (Nat.le_refl _) (ef x b) (dC x b)).1
  ·subst e3
   walk_at "rd"
   refine if2 (fun z=>?_) (fun z=>?_)
   ·walk_at "rd"
    refine ⟨_,rfl,x,rfl,bz _ (by omega),?_⟩
    walk_at "rd"
    refine ⟨_,rfl,x,rfl,bz _ (by omega),?_⟩
    refine ⟨_,_,rfl,rfl,bz _ (by have:=sl none (some (b:Int)); have:=sl (some ((b:Int) + 1)) none; omega),?_⟩
    exact q _ (fin _ _ (b + 1) (Nat.le_succ _) (ef x b) (dC x (b + 1))).2
   ·walk_at "rd"
    refine ⟨_,rfl,x,rfl,bz _ (by omega),?_⟩
    walk_at "rd"
    refine ⟨_,_,rfl,rfl,bz _ (by have:=sl none (some (b:Int)); omega),?_⟩
    walk_at "rd"
    refine ⟨_,rfl,x,rfl,bz _ (by omega),?_⟩
    refine ⟨_,_,rfl,rfl,bz _ (by have:=sl none (some (b:Int)); have:=sl (some ((b:Int) + 1)) none; rw [Str.length_append]; omega),?_⟩
    exact q _ (fin _ _ (b + 1) (Nat.le_succ _) (ef x b) (dC x (b + 1))).1
  ·walk_at "rd"
   refine if2 (fun z=>yes _ rfl) (fun z=>?_)
   walk_at "rd"
   refine ⟨x,rfl,bz _ (by omega),?_⟩
   walk_at "rd"
   by_cases z2:(b:Int) = (x.length:Int)
   ·rw [decide_eq_true z2]
    exact yes _ rfl
   ·rw [decide_eq_false z2]
    exact no _ rfl
theorem ej:aG ["_law_word", "_law_sign"] ["_law_word"] (ah bh):=⟨rfl,rfl,rfl,by decide +kernel,rfl,by decide +kernel,by decide +kernel⟩
theorem iA (D:Def K mg "_law_number" bh ["_law_word"]) (T:Txt K mg Z):cP P w K mg base (bP P w) "_law_number" 1 ["_law_word"] jw:=by
 refine D.fe ej (fun vs H Q E h=>?_) (fun f ck A outer s H vs Q E hr h=>?_)
 ·obtain ⟨x,rfl,_⟩:=h; rfl
 ·obtain ⟨x,rfl,asc,hl,q1,q2⟩:=h
  have bz:∀ j:Nat,j≤1000→j≤sizeLine:=fun j h=>by rw [PySem.sizeLine_eq]; omega
  have lx:=str_len (x:=x)
  refine ⟨_,(ag (bC (PW.pt (pw_or (aF d3 (pv 0) bI (aP _)) (pw_or1 (PW.pt (pw_and (aF ou (ar bE (by rfl) T.len bc (aa (pv 0) af)) aj (aP _)) (pw_and1 (aF d3 (bQ dD (pv 0) b5 (b4 aj)) bI (aP _)))))))) (ai (az (rQ mI aj))) aE)
   (ag (cV PassesOwn.never rfl (rO (pv 0)) (aW (i:=1) ej.nd rfl (by first | exact Or.inl rfl | exact Or.inr rfl))
   (ai (bC (aF km (pv 1) bI (by with_unfolding_all rfl)) (ai (az (rQ mI aj))) aE)))
   (ai (az (cf jP (by rfl) T.int nN (aa (pv 0) af)))))),?_⟩
  try dsimp only [de]
  refine r_seq (iq (fun H'=>H' = H∧(x.cps.toList = []∨(1 < x.length∧x.cps.toList.head? = some 48))) (fun H'=>H' = H∧x.cps.toList≠[]∧(x.cps.toList = [48]∨x.cps.toList.head?≠some 48)) (fun H3 ⟨e3,no⟩=>?_) (fun H3 ⟨e3,y0,y1⟩=>?_) (fun RR yes no=>?_))
  ·subst e3
   walk_at "rd"
   refine q2 ?_
   unfold wd
   rcases no with z | ⟨z1,z2⟩
   ·rw [z]; rfl
   ·rw [z2]
    have:(x.cps.toList == [48]) = false:=by
     rw [beq_eq_false_iff_ne]
     intro w
     rw [w] at lx
     simp at lx
     omega
    rw [this]
    simp
  ·subst e3
   have key:wd x.cps.toList = x.cps.toList.all kA:=by
    unfold wd
    have a1:(!x.cps.toList.isEmpty) = true:=by
     cases e:x.cps.toList with
     | nil=>exact absurd e y0
     | cons a r=>rfl
    have a2:(x.cps.toList == [48] || x.cps.toList.head? != some 48) = true:=by
     rw [Bool.or_eq_true,beq_iff_eq,bne_iff_ne]
     exact y1
    rw [a1,a2]
    rfl
   walk_at "rd"
   refine dZ ?_
   refine ⟨_,rfl,x,rfl,asc,uN (x:=x) (fun i σ H2=>∃ v:Option V,σ = [some (.str x),v]∧H2 = H3∧(x.cps.toList.take i).all kA = true) ⟨none,rfl,rfl,rfl⟩ ?_ ?_⟩
   ·rintro i c σ H2 hc ⟨v,rfl,rfl,ok⟩
    walk_at "rd"
    refine ⟨_,_,rfl,rfl,?_⟩
    rw [StrLaws.found_one,show decide (c∈(Str.ofString "0123456789").cps.toList) = kA c by rw [Bool.eq_iff_iff,decide_eq_true_iff]; exact sX]
    cases hd:kA c with
    | true=>
     walk_at "rd"
     refine ⟨_,rfl,rfl,?_⟩
     rw [take_snoc hc,List.all_append,ok]
     simp [hd]
    | false=>
     walk_at "rd"
     refine q2 ?_
     rw [key]
     refine Bool.eq_false_iff.mpr fun w=>?_
     have:=List.all_eq_true.mp w c (List.mem_of_getElem? hc)
     rw [hd] at this
     cases this
   ·rintro σ H2 ⟨v,rfl,rfl,ok⟩
    rw [List.take_length] at ok
    have w:wd x.cps.toList = true:=by rw [key]; exact ok
    walk_at "rd"
    exact ⟨x,rfl,mG w,vi w,by omega,q1 w⟩
  ·have e0:∀ y:Str,y = Str.ofString ""↔y.cps.toList = []:=fun y=>by
    have z0:(Str.ofString "").cps.toList = []:=by decide +kernel
    exact ⟨fun h=>by rw [h,z0],fun h=>dh (h.trans z0.symm)⟩
   walk_at "rd"
   refine if2 (fun z=>yes _ ⟨rfl,.inl ((e0 x).mp z)⟩) (fun z=>?_)
   have z':x.cps.toList≠[]:=fun w=>z ((e0 x).mpr w)
   walk_at "rd"
   refine ⟨x,rfl,bz _ (by omega),?_⟩
   walk_at "rd"
   have o0:Str.ofString "0" = ⟨#[48]⟩:=by decide +kernel
   by_cases z1:(1:Int) < (x.length:Int)
   ·rw [decide_eq_true z1]
    walk_at "rd"
    refine ⟨_,rfl,x,rfl,bz _ (by omega),?_⟩
    have t1:=ef x 1
    walk_at "rd"
    by_cases z2:Txt.slice x none (some 1) = Str.ofString "0"
    ·rw [decide_eq_true z2]
     refine yes _ ⟨rfl,.inr ⟨by omega,?_⟩⟩
     have t2:(Txt.slice x none (some 1)).cps.toList = x.cps.toList.take 1:=t1
     rw [z2,o0] at t2
     cases e:x.cps.toList with
     | nil=>exact absurd e z'
     | cons a r=>rw [e] at t2; simp at t2; rw [t2]; rfl
    ·rw [decide_eq_false z2]
     refine no _ ⟨rfl,z',.inr fun w=>z2 ?_⟩
     refine dh ?_
     have t2:(Txt.slice x none (some 1)).cps.toList = x.cps.toList.take 1:=t1
     rw [t2,o0]
     cases e:x.cps.toList with
     | nil=>exact absurd e z'
     | cons a r=>rw [e] at w; simp at w; simp [w]
   ·rw [decide_eq_false z1]
    walk_at "rd"
    refine no _ ⟨rfl,z',?_⟩
    cases e:x.cps.toList with
    | nil=>exact absurd e z'
    | cons a r=>
     rw [e] at lx
     simp at lx
     have:r = []:=List.length_eq_zero_iff.mp (by omega)
     subst this
     by_cases w:a = 48
     ·exact .inl (by rw [w])
     ·exact .inr (by simpa using w)
theorem cF:aG ["_law_row", "_law_place", "_law_head", "_law_words", "_law_found"] ["_law_row", "_law_place"] (ah bx):=⟨rfl,rfl,rfl,by decide +kernel,rfl,by decide +kernel,by decide +kernel⟩
theorem jf (D:Def K mg "_law_order" bx ["_law_row", "_law_place"]) (T:Txt K mg Z) (jk:cP P w K mg base (bP P w) "_law_number" 1 ["_law_word"] jw):cP P w K mg base (bP P w) "_law_order" 2 ["_law_row", "_law_place"] lh:=by
 refine D.fe cF (fun vs H Q E h=>?_) (fun f ck A outer s H vs Q E hr h=>?_)
 ·obtain ⟨k,x,rfl,_⟩:=h; rfl
 ·obtain ⟨k,x,rfl,hk,asc,hl,Jg,q1,q2⟩:=h
  have bz:∀ j:Nat,j≤1000→j≤sizeLine:=fun j h=>by rw [PySem.sizeLine_eq]; omega
  have lx:=str_len (x:=x)
  have nl:(num (k:Int)).length≤2:=(fQ (n:=k) (k:=2) (by decide)).mpr (by omega)
  have t1:mB.length = 1:=by decide +kernel
  have A0:st (hd k) = num (k:Int) ++ mB:=qH _
  have zF:(num (k:Int) ++ mB).length = (hd k).length:=by rw [← A0,dw]
  have FR:(hd k).length≤3:=by rw [← zF,Str.length_append]; omega
  refine ⟨_,(ag (aM (i:=2) cF.nd rfl (by first | exact Or.inl rfl | exact Or.inr rfl) (av aY (cf cO (by rfl) T.str kO (aa (pv 1) af)) bI))
   (ag (bC (aF jC (bQ dD (pv 0) b5 (b4 (ar bE (by rfl) T.len bc (aa (pv 2) af)))) (pv 2) (aP _)) (ai (az iw)) aE)
   (ag (aM (i:=3) cF.nd rfl (by first | exact Or.inl rfl | exact Or.inr rfl) (ff PySem.F.plainAttrs_str PySem.F.slot_str_split PySem.F.type_str_split fS (bQ dD (pv 0) (b4 (ar bE (by rfl) T.len bc (aa (pv 2) af))) b5) (aa bI af)))
   (ag (bC (aF jC (cH bO (pv 3) aj (fun _ _=>rfl)) bI (aP _)) (ai (az iw)) aE)
   (ag (oh (i:=4) cF.nd rfl (by first | exact Or.inl rfl | exact Or.inr rfl) (tg:=["_law_word"]) (fr:=[]) (by walk_at "blk_ok") rfl (eQ (bQ kd (pv 3) (b4 aj) b5)) (fun _ _ _ _ _=>(aW (i:=0) (show [("_law_word" : Str)].Nodup by decide +kernel) rfl (by first | exact Or.inl rfl | exact Or.inr rfl))) (fun _ _ _ _ _=>cW) (fun _ _ _ _ _=>(ax jk hr bq (aa (pv 0) af))))
   (ag (bC (aF jD (rQ mI aj) (pv 4) (by with_unfolding_all rfl)) (ai (az iw)) aE)
   (ai (az (pv 4))))))))),?_⟩
  dsimp only [de]
  walk_at "rd"
  refine ⟨_,rfl,kr (Nat.lt_trans hk (by decide)),?_⟩
  walk_at "rd"
  refine ⟨_,_,rfl,rfl,bz _ (by have:(Str.ofString ":").length = 1:=t1; have:(toString (k:Int):Str).length≤2:=nl; omega),?_⟩
  rw [show Str.ofString (toString (k:Int)) ++ Str.ofString ":" = st (hd k) from A0.symm]
  walk_at "rd"
  refine ⟨_,rfl,by rw [dw]; exact bz _ (by omega),_,rfl,x,rfl,bz _ (by omega),?_⟩
  rw [dw]
  have BE:=ef x (hd k).length
  walk_at "rd"
  by_cases z:Txt.slice x none (some ((hd k).length:Int)) = st (hd k)
  ·rw [decide_eq_true z]
   rw [z,cL] at BE
   have xe:x.cps.toList = hd k ++ x.cps.toList.drop (hd k).length:=by
    have:=List.take_append_drop (hd k).length x.cps.toList
    rw [← BE] at this
    exact this.symm
   obtain ⟨t0,ts,s1,s2⟩:=ka (c:=32) (x.cps.toList.drop (hd k).length) (hd k) (uI (by decide))
   rw [← xe] at s2
   have subs:∀ u∈ts,u.Sublist x.cps.toList:=fun u hu=>h9 32 _ u (by rw [s2]; exact List.mem_cons_of_mem _ hu)
   have tl:ts.length≤500:=by
    have:=gj 32 x.cps.toList
    rw [s2,List.length_cons] at this
    have:=List.count_le_length (a:=32) (l:=x.cps.toList)
    omega
   have G5:=dC x (hd k).length
   have K6:=Txt.slice_le x (some ((hd k).length:Int)) none
   walk_at "rd"
   refine ⟨st (hd k),rfl,by rw [dw]; exact bz _ (by omega),_,rfl,x,rfl,bz _ (by omega),?_⟩
   rw [dw]
   refine ⟨rfl,?_⟩
   walk_at "rd"
   refine ⟨_,mC,rfl,rfl,by decide +kernel,by omega,by have:=eR (Txt.slice x (some ((hd k).length:Int)) none) mC; exact Nat.le_trans this (bz _ (by omega)),fun ps pN=>?_⟩
   rw [hZ,fD,G5,s1]
   have e1:ao H (upd H ps (.lst (((t0 :: ts).map st).map V.str))):=ao.upd pN
   have p1:upd H ps (.lst (((t0 :: ts).map st).map V.str)) ps = some (.lst (((t0 :: ts).map st).map V.str)):=ak
   generalize upd H ps (.lst (((t0 :: ts).map st).map V.str)) = H1 at e1 p1 ⊢
   walk_at "rd"
   refine cw (aO.of p1) (show qx (((t0 :: ts).map st).map V.str) ((0:Nat):Int) = some (V.str (st t0)) from dk (by simp)) ?_
   walk_at "rd"
   have z0:(Str.ofString "") = st []:=by decide +kernel
   by_cases y:st t0 = Str.ofString ""
   ·rw [decide_eq_true y]
    have y':t0 = []:=by
     have:=congrArg (fun s:Str=>s.cps.toList) (y.trans z0)
     exact this
    subst y'
    rw [List.append_nil] at s2
    walk_at "rd"
    refine fj ?_
    refine gW (mV (a:=ps) (i:=3) rfl (aO.of p1) fun p2 zr=>⟨p2,rfl,?_⟩)
    have e2:ao H1 (upd H1 p2 (.lst ((ts.map st).map V.str))):=ao.upd zr
    have B8:upd H1 p2 (.lst ((ts.map st).map V.str)) p2 = some (.lst ((ts.map st).map V.str)):=ak
    refine ⟨⟨_,aO.of B8⟩,fun acc cB=>?_⟩
    generalize upd H1 p2 (.lst ((ts.map st).map V.str)) = H2 at e2 B8 cB ⊢
    have F3:=e1.trans e2
    refine eT (K:=K) (a:=p2) (xs:=(ts.map st).map V.str) (fun j σ' ys H3=>∃ v:Option V,σ' = [v]∧ys = ((ts.take j).map fun w=>if wd w = true then ((PySem.NumText.digitsVal w:Nat):Int) else -1).map V.int∧ao H2 H3∧H3 acc = some (.lst ys))
     ⟨none,rfl,rfl,ao.upd cB,ak⟩ (fun j σ' ys H3 _ ⟨_,_,_,e,_⟩=>aO.of (e _ _ B8)) ?_ ?_
    ·rintro j x2 σ' ys H3 hx hj ⟨v,rfl,rfl,e3,a3⟩
     have jr:=hj
     rw [List.length_map,List.length_map] at jr
     obtain ⟨u,hu,rfl⟩:∃ u,ts[j]? = some u∧x2 = V.str (st u):=by
      rw [List.getElem?_map,List.getElem?_map] at hx
      cases e:ts[j]? with
      | none=>rw [e] at hx; cases hx
      | some z=>rw [e] at hx; exact ⟨z,rfl,(Option.some.inj hx).symm⟩
     have us:=subs u (List.mem_of_getElem? hu)
     have ul:=us.length_le
     walk_at "rd"
     refine ⟨st u,rfl,iR fun c hc=>kQ asc c (us.subset hc),by rw [dw]; omega,fun w=>?_,fun w=>?_⟩
     ·rw [cL] at w ⊢
      refine ⟨a3,by rw [List.length_map,List.length_map,List.length_take]; exact aX (by omega),gD hj ⟨_,rfl,?_,ao.fresh e3 cB,ak⟩⟩
      rw [take_snoc hu,List.map_append,List.map_append]
      show _ = _ ++ [V.int (if wd u = true then ((PySem.NumText.digitsVal u:Nat):Int) else -1)]
      rw [if_pos w]
     ·rw [cL] at w
      refine ⟨a3,by rw [List.length_map,List.length_map,List.length_take]; exact aX (by omega),gD hj ⟨_,rfl,?_,ao.fresh e3 cB,ak⟩⟩
      rw [take_snoc hu,List.map_append,List.map_append]
      show _ = _ ++ [V.int (if wd u = true then ((PySem.NumText.digitsVal u:Nat):Int) else -1)]
      rw [if_neg (by rw [w]; simp)]
    ·rintro σ' ys H3 ⟨v,rfl,rfl,e3,a3⟩
     rw [List.length_map,List.length_map,List.take_length] at a3
     have Bd:=F3.trans e3
     walk_at "rd"
     refine ui (ns:=ts.map fun w=>if wd w = true then ((PySem.NumText.digitsVal w:Nat):Int) else -1) (aO.of a3) ?_
     rw [if_neg (by decide)]
     walk_at "rd"
     refine if2 (fun y2=>?_) (fun y2=>?_)
     ·walk_at "rd"
      refine q1 (fI s2 fun ⟨_,w⟩=>?_) _ Bd
      obtain ⟨u,hu,e⟩:=List.mem_map.mp y2
      have:=List.all_eq_true.mp w u hu
      unfold gU at this
      rw [Bool.and_eq_true] at this
      rw [if_pos this.1] at e
      omega
     ·walk_at "rd"
      have all:∀ u∈ts,wd u = true:=fun u hu=>by
       cases hw:wd u with
       | true=>rfl
       | false=>exact absurd (List.mem_map.mpr ⟨u,hu,by rw [if_neg (by rw [hw]; simp)]⟩) y2
      have eqs:(ts.map fun w=>if wd w = true then ((PySem.NumText.digitsVal w:Nat):Int) else -1) = ts.map fun w=>((PySem.NumText.digitsVal w:Nat):Int):=List.map_congr_left fun u hu=>if_pos (all u hu)
      rw [eqs] at a3
      refine q2 _ (ke s2 rfl (List.all_eq_true.mpr fun u hu=>?_)) acc _ Bd (F3.free cB) a3
      unfold gU
      rw [all u hu,decide_eq_true (qy (all u hu) (subs u hu) Jg)]
      rfl
   ·rw [decide_eq_false y]
    walk_at "rd"
    refine q1 (fI s2 fun ⟨w,_⟩=>y ?_) _ e1
    have:t0 = []:=by
     have:=congrArg List.length w
     rw [List.length_append] at this
     exact List.length_eq_zero_iff.mp (by omega)
    rw [this,z0]
  ·rw [decide_eq_false z]
   walk_at "rd"
   refine q1 ?_ _ (fun _ _ e=>e)
   cases e:sp 32 x.cps.toList with
   | nil=>exact absurd e (gA _ _)
   | cons t ts=>
    refine fI e fun ⟨w,_⟩=>z ?_
    obtain ⟨r,hr⟩:=wx e
    refine dh ?_
    rw [BE,hr,w,cL]
    simp
theorem bT:aG ["_law_orders", "_law_place", "_law_order_here", "_law_other"] ["_law_orders"] (ah aL):=⟨rfl,rfl,rfl,by decide +kernel,rfl,by decide +kernel,by decide +kernel⟩
theorem fP (D:Def K mg "_law_bad_place" aL ["_law_orders"]) (T:Txt K mg Z):cP P w K mg base (bP P w) "_law_bad_place" 1 ["_law_orders"] qM:=by
 refine D.fe bT (fun vs H Q E h=>?_) (fun f ck A outer s H vs Q E hr h=>?_)
 ·obtain ⟨p,as,L,rfl,_⟩:=h; rfl
 ·obtain ⟨p,as,L,rfl,g,hn,zp,pos,q,qi⟩:=h
  refine ⟨_,(ag (cV PassesOwn.never rfl (cb rfl T.range (aa (ar bF (by rfl) T.len bc (aa (pv 0) af)) af)) (aW (i:=1) bT.nd rfl (by first | exact Or.inl rfl | exact Or.inr rfl))
   (ag (aM (i:=2) bT.nd rfl (by first | exact Or.inl rfl | exact Or.inr rfl) (cH bO (pv 0) (pv 1) (fun _ _=>rfl)))
   (ag (bC (PW.pt (pw_or (aF jD (pv 1) (pv 2) (by with_unfolding_all rfl)) (pw_or1 (aF ot (ar jO (by rfl) T.len bc (aa (cf (jN rfl) (by rfl) T.set tJ (aa (pv 2) af)) af)) (ar bF (by rfl) T.len bc (aa (pv 2) af)) (aP _))))) (ai (az (pv 1))) aE)
   (ai (cV PassesOwn.never rfl (eQ (pv 2)) (aW (i:=3) bT.nd rfl (by first | exact Or.inl rfl | exact Or.inr rfl))
   (ai (bC (PW.pt (pw_or (aF vJ (pv 3) (ar bF (by rfl) T.len bc (aa (pv 0) af)) (aP _)) (pw_or1 (aF fN (pv 1) (cH bO (pv 0) (pv 3) (fun _ _=>rfl)) (by with_unfolding_all rfl))))) (ai (az (pv 1))) aE)))))))
   (ai (az iw))),?_⟩
  dsimp only [de]
  walk_at "rd"
  refine dZ ?_
  refine ⟨_,rfl,_,_,rfl,.inl ⟨_,aO.of g.top,rfl⟩,(L.length:Int),by rw [List.length_map,g.len],by omega,by omega,?_⟩
  rw [Int.toNat_natCast]
  refine cg (fun k σ H1=>∃ v2 v3 v4:Option V,σ = [some (.ref p),v2,v3,v4]∧ao H H1∧∀ j,j < k→¬ eJ L j) ⟨none,none,none,rfl,fun _ _ e=>e,fun j h=>absurd h (Nat.not_lt_zero _)⟩ ?_ ?_
  ·rintro k σ H1 hk ⟨v2,v3,v4,rfl,e1,no⟩
   simp only [Int.zero_add]
   obtain ⟨b,l,ha,hl,gQ⟩:=g.at hk
   have ll:=zp l (List.mem_of_getElem? hl)
   have gl:=getD_at hl
   have dl:=me l
   have bad:∀ {H':Hp},ao H H'→eJ L k→Q (.int (k:Int)) H':=fun e w=>qi k _ ⟨hk,w,no⟩ e
   refine r_gname ?_
   refine wG (fun σ H'=>σ = [some (.ref p),some (.int (k:Int)),some (.ref b),v4]∧H' = H1) ?_ (fun N hN=>?_)
   rotate_left
   ·walk_at "rd"
    refine cw (aO.of (e1 _ _ g.top)) (g.ix ha) ?_
    walk_at "rd"
    exact hN _ _ ⟨rfl,rfl⟩
   rintro σ H0 ⟨rfl,rfl⟩
   refine r_seq (iq (fun H'=>ao H H'∧eJ L k) (fun H'=>ao H H'∧(k:Int)∉l∧l.Nodup) (fun H3 ⟨e3,no⟩=>?_) (fun H3 ⟨e3,nk,nd⟩=>?_) (fun RR yes CQ=>?_))
   ·walk_at "rd"
    exact bad e3 no
   ·walk_at "rd"
    refine dZ ?_
    refine ⟨_,rfl,b,rfl,⟨_,aO.of (e3 _ _ gQ)⟩,lZ (K:=K) (a:=b) (xs:=l.map V.int) (fun i σ H2=>∃ v:Option V,σ = [some (.ref p),some (.int (k:Int)),some (.ref b),v]∧ao H H2∧∀ x∈l.take i,0≤x∧x < L.length∧(k:Int)∈rowOf L x) ⟨v4,rfl,e3,by simp⟩ (fun i σ H2 _ ⟨_,_,e,_⟩=>aO.of (e _ _ gQ)) ?_ ?_⟩
    ·rintro i x σ H2 hx ⟨v,rfl,e2,ok⟩
     obtain ⟨y,hy,rfl⟩:∃ y,l[i]? = some y∧x = V.int y:=by
      rw [List.getElem?_map] at hx
      cases e:l[i]? with
      | none=>rw [e] at hx; cases hx
      | some z=>rw [e] at hx; exact ⟨z,rfl,(Option.some.inj hx).symm⟩
     have ym:y∈L.getD k []:=by rw [gl]; exact List.mem_of_getElem? hy
     refine r_gname (iq (fun H'=>ao H H'∧¬ (0≤y∧y < L.length∧(k:Int)∈rowOf L y)) (fun H'=>ao H H'∧(0≤y∧y < L.length∧(k:Int)∈rowOf L y)) (fun H4 ⟨e4,no⟩=>?_) (fun H4 ⟨e4,y0⟩=>?_) (fun RR yes CQ=>?_))
     ·walk_at "rd"
      exact bad e4 fun ⟨_,z⟩=>no ⟨(z y ym).2.1,(z y ym).2.2.1,(z y ym).2.2.2⟩
     ·walk_at "rd"
      refine ⟨_,rfl,e4,fun x hx=>?_⟩
      rw [take_snoc hy] at hx
      rcases List.mem_append.mp hx with hx | hx
      ·exact ok x hx
      ·rw [List.mem_singleton.mp hx]; exact y0
     ·walk_at "rd"
      have y0:0≤y:=pos l (List.mem_of_getElem? hl) y (List.mem_of_getElem? hy)
      refine ⟨_,_,rfl,.inl ⟨_,aO.of (e2 _ _ g.top),rfl⟩,?_⟩
      rw [List.length_map,g.len]
      walk_at "rd"
      refine if2 (fun z2=>yes _ ⟨e2,fun w=>by omega⟩) (fun z2=>?_)
      obtain ⟨yn,rfl⟩:=Int.eq_ofNat_of_zero_le (show 0≤y by omega)
      obtain ⟨b2,l2,gZ,ya,sG⟩:=g.at (i:=yn) (by omega)
      have row:rowOf L (yn:Int) = l2:=by
       have:=lq (L:=L) (a:=(yn:Int)) (by omega) (by omega)
       rw [Int.toNat_natCast,ya] at this
       exact (Option.some.inj this).symm
      walk_at "rd"
      refine cw (aO.of (e2 _ _ g.top)) (g.ix gZ) ?_
      refine ui (ns:=l2) (aO.of (e2 _ _ sG)) ?_
      rw [if_pos rfl]
      by_cases z3:(k:Int)∈l2
      ·rw [decide_eq_true z3]
       exact ⟨_,rfl,CQ _ ⟨e2,by omega,by omega,by rw [row]; exact z3⟩⟩
      ·rw [decide_eq_false z3]
       exact ⟨_,rfl,yes _ ⟨e2,fun w=>z3 (by rw [← row]; exact w.2.2)⟩⟩
    ·rintro σ H2 ⟨v,rfl,e2,ok⟩
     rw [List.length_map,List.take_length] at ok
     refine ⟨_,_,_,rfl,e2,fun j hj=>?_⟩
     by_cases z:j = k
     ·rw [z]
      intro w
      refine w ⟨by rw [gl]; exact nd,fun x hx=>?_⟩
      rw [gl] at hx
      exact ⟨fun z=>nk (z▸hx),ok x hx⟩
     ·exact no j (by omega)
   ·walk_at "rd"
    refine ui (ns:=l) (aO.of (e1 _ _ gQ)) ?_
    rw [if_neg (by decide)]
    walk_at "rd"
    refine if2 (fun z=>yes _ ⟨e1,fun ⟨_,w⟩=>(w _ (by rw [gl]; exact z)).1 rfl⟩) (fun z=>?_)
    walk_at "rd"
    refine ⟨b,l,rfl,aO.of (e1 _ _ gQ),by omega,fun ps S pN=>?_⟩
    have e2:ao H0 (upd H0 ps (.set S (gu l).length)):=ao.upd pN
    refine ⟨ps,S,_,rfl,ak,?_⟩
    generalize upd H0 ps (.set S (gu l).length) = H2 at e2 ⊢
    walk_at "rd"
    refine ⟨_,_,rfl,.inl ⟨_,aO.of (e2 _ _ (e1 _ _ gQ)),rfl⟩,?_⟩
    rw [List.length_map]
    have le:=u0 l
    walk_at "rd"
    by_cases z2:((gu l).length:Int) < (l.length:Int)
    ·rw [decide_eq_true z2]
     refine yes _ ⟨e1.trans e2,fun ⟨w,_⟩=>?_⟩
     rw [gl] at w
     have:=dl.mpr w
     omega
    ·rw [decide_eq_false z2]
     exact CQ _ ⟨e1.trans e2,z,dl.mp (by omega)⟩
  ·rintro σ H1 ⟨v2,v3,v4,rfl,e1,no⟩
   walk_at "rd"
   exact q no _ e1
theorem cn:aG ["_law_text", "_law_caught_here", "e"] ["_law_text"] (ah bo):=⟨rfl,rfl,rfl,by decide +kernel,rfl,by decide +kernel,by decide +kernel⟩
theorem iC (D:Def K mg "_law_caught" bo ["_law_text"]) (T:Txt K mg Z) (ny:cP P w K mg base (bP P w) "read" 4 ["text"] (j7 Z.aN Z.bG)):cP P w K mg base (bP P w) "_law_caught" 5 ["_law_text"] (eN Z.aN Z.bG):=by
 refine D.fe cn (fun vs H Q E h=>?_) (fun f ck A outer s H vs Q E hr h=>?_)
 ·obtain ⟨x,rfl,_⟩:=h; rfl
 ·obtain ⟨x,rfl,qU,q⟩:=h
  refine ⟨_,(ag (aM (i:=1) cn.nd rfl (by first | exact Or.inl rfl | exact Or.inr rfl) iw)
   (ag (rL ny hr (aa (pv 0) af) tM T.fu cn.nd (jn:=2) rfl rfl (fun _=>(ai (aM (i:=1) cn.nd rfl (by first | exact Or.inl rfl | exact Or.inr rfl) (pv 2)))))
   (ai (az (pv 1))))),?_⟩
  dsimp only [de]
  walk_at "rd"
  refine ⟨x,rfl,qU,?_⟩
  rcases q with ⟨i,fn,q⟩ | ⟨L,al,⟨i,fw,q⟩ | ⟨no,q⟩⟩
  ·refine .inl ⟨i,fn,fun d H1 e1 fd hd=>⟨_,rfl,T.t1,fun y hy=>?_⟩⟩
   walk_at "rd"
   refine q y d _ (e1.trans (ao.upd hy)) ak ?_
   have nd:d≠y:=fun z=>by rw [z] at hd; rw [hy] at hd; cases hd
   rw [aq nd]
   exact hd
  ·refine .inr ⟨L,al,.inl ⟨i,fw,fun d H1 e1 fd hd=>⟨_,rfl,T.m1,fun y hy=>?_⟩⟩⟩
   walk_at "rd"
   refine q y d _ (e1.trans (ao.upd hy)) ak ?_
   have nd:d≠y:=fun z=>by rw [z] at hd; rw [hy] at hd; cases hd
   rw [aq nd]
   exact hd
  ·refine .inr ⟨L,al,.inr ⟨no,fun t bs H1 e1 g1=>?_⟩⟩
   walk_at "rd"
   exact q _ e1
theorem gI:aG ["_law_caught_here"] ["_law_caught_here"] (ah aR):=⟨rfl,rfl,rfl,by decide +kernel,rfl,by decide +kernel,by decide +kernel⟩
theorem gL (D:Def K mg "_law_strange" aR ["_law_caught_here"]) (T:Txt K mg Z):cP P w K mg base (bP P w) "_law_strange" 1 ["_law_caught_here"] (fi Z.aN Z.bG):=by
 refine D.fe gI (fun vs H Q E h=>?_) (fun f ck A outer s H vs Q E hr h=>?_)
 ·obtain ⟨a,d,N,_,rfl,_⟩:=h; rfl
 ·obtain ⟨a,d,N,hN,rfl,ha,q⟩:=h
  have f1:dq K N:=hN.elim (fun z=>z▸T.cS) fun z=>z▸T.eM
  have f2:PySem.W.kitAny K (.ref N) [.ref Z.Flat,.ref Z.dW,.ref Z.fv,.ref Z.dU,.ref Z.cZ,.ref Z.iV,.ref Z.dS] = some false:=hN.elim (fun z=>z▸T.t3) fun z=>z▸T.m3
  have f3:PySem.W.kitAny K (.ref N) [.ref Z.eZ,.ref Z.gy,.ref Z.eY,.ref Z.jW,.ref Z.cR,.ref Z.gx] = some false:=hN.elim (fun z=>z▸T.t4) fun z=>z▸T.m4
  refine ⟨_,(ag (bC (cz (ar iQ (by rfl) T.isinstance aK (aa (pv 0) (aa (rR (aa (aZ (v:=.ref Z.Flat) rfl T.xQ rfl) (aa (aZ (v:=.ref Z.dW) rfl T.qg rfl) (aa (aZ (v:=.ref Z.fv) rfl T.tI rfl) (aa (aZ (v:=.ref Z.dU) rfl T.qf rfl) (aa (aZ (v:=.ref Z.cZ) rfl T.nM rfl) (aa (aZ (v:=.ref Z.iV) rfl T.u5 rfl) (aa (aZ (v:=.ref Z.dS) rfl T.qd rfl) af)))))))) af)))) (ai (az ey)) aE)
   (ai (az (ar iQ (by rfl) T.isinstance aK (aa (pv 0) (aa (rR (aa (aZ (v:=.ref Z.eZ) rfl T.qc rfl) (aa (aZ (v:=.ref Z.gy) rfl T.tH rfl) (aa (aZ (v:=.ref Z.eY) rfl T.qb rfl) (aa (aZ (v:=.ref Z.jW) rfl T.u4 rfl) (aa (aZ (v:=.ref Z.cR) rfl T.mq rfl) (aa (aZ (v:=.ref Z.gx) rfl T.tG rfl) af))))))) af)))))),?_⟩
  dsimp only [de]
  walk_at "rd"
  refine ⟨by rw [PySem.sizeLine_eq]; simp,fun tp zj=>?_⟩
  walk_at "rd"
  have e1:ao H (upd H tp (.tup [.ref Z.Flat,.ref Z.dW,.ref Z.fv,.ref Z.dU,.ref Z.cZ,.ref Z.iV,.ref Z.dS])):=ao.upd zj
  refine n4 (.dM (e1 _ _ ha) f1) ak (.cons (.ref _) (.cons (.ref _) (.cons (.ref _) (.cons (.ref _) (.cons (.ref _) (.cons (.ref _) (.cons (.ref _) .nil))))))) f2 ?_
  generalize upd H tp (.tup [.ref Z.Flat,.ref Z.dW,.ref Z.fv,.ref Z.dU,.ref Z.cZ,.ref Z.iV,.ref Z.dS]) = H1 at e1 ⊢
  walk_at "rd"
  refine ⟨by rw [PySem.sizeLine_eq]; simp,fun t2 IH=>?_⟩
  walk_at "rd"
  have e2:ao H1 (upd H1 t2 (.tup [.ref Z.eZ,.ref Z.gy,.ref Z.eY,.ref Z.jW,.ref Z.cR,.ref Z.gx])):=ao.upd IH
  refine n4 (.dM (e2 _ _ (e1 _ _ ha)) f1) ak (.cons (.ref _) (.cons (.ref _) (.cons (.ref _) (.cons (.ref _) (.cons (.ref _) (.cons (.ref _) .nil)))))) f3 ?_
  exact q _ (e1.trans e2)
theorem dY:aG ["_law_text", "_law_row", "_law_caught_here"] ["_law_text", "_law_row"] (ah aT):=⟨rfl,rfl,rfl,by decide +kernel,rfl,by decide +kernel,by decide +kernel⟩
theorem gN (D:Def K mg "_law_no_text" aT ["_law_text", "_law_row"]) (T:Txt K mg Z) (dJ:cP P w K mg base (bP P w) "_law_whole" 1 ["_law_found"] h8) (bY:cP P w K mg base (bP P w) "_law_caught" 5 ["_law_text"] (eN Z.aN Z.bG)) (cX:cP P w K mg base (bP P w) "_law_strange" 1 ["_law_caught_here"] (fi Z.aN Z.bG)) (eK:xZ P w K mg base (bP P w) 1 Z.aN Z.cI "row" ["self", "row"]):cP P w K mg base (bP P w) "_law_no_text" 6 ["_law_text", "_law_row"] jx:=by
 refine D.fe dY (fun vs H Q E h=>?_) (fun f ck A outer s H vs Q E hr h=>?_)
 ·obtain ⟨x,i,rfl,_⟩:=h; rfl
 ·obtain ⟨x,i,rfl,qU,fn,q⟩:=h
  refine ⟨_,(ag (aM (i:=2) dY.nd rfl (by first | exact Or.inl rfl | exact Or.inr rfl) (ax bY hr bq (aa (pv 0) af)))
   (ag (bC (PW.pt (pw_or (cz (ax cX hr bq (aa (pv 2) af))) (pw_or1 (cz (ar cD (by rfl) T.isinstance aK (aa (pv 2) (aa (aZ (v:=.ref Z.bG) rfl T.kM rfl) af))))))) (ai (az ey)) aE)
   (ag (bC (PW.pt (pw_or (fk (cz (ar cD (by rfl) T.isinstance aK (aa (pv 2) (aa (aZ (v:=.ref Z.aN) rfl T.gb rfl) af))))) (pw_or1 (fk (cz (ar cD (by rfl) T.isinstance aK (aa (pv 2) (aa (fM (v:=.ty "ValueError") rfl T.ValueError fh rfl) af)))))))) (ai (az ey)) aE)
   (ai (az (fm (ax dJ hr bq (aa (iu (pv 2) rfl) af)) (fm (dG d3 (iu (pv 2) rfl) (pv 1) (aP _)) (gm (dG d3 (iu (wU eK hr T.gb bq (aa (av bN (pv 1) aj) af)) rfl) (av bN (pv 1) aj) (aP _)))))))))),?_⟩
  dsimp only [de]
  walk_at "rd"
  refine ⟨x,rfl,qU,.inl ⟨i,fn,fun a d H1 e1 ha hd=>?_⟩⟩
  walk_at "rd"
  refine ⟨a,d,_,.inl rfl,rfl,ha,fun H2 e2=>?_⟩
  have gZ:=e2 _ _ ha
  have hd2:=e2 _ _ hd
  walk_at "rd"
  refine eP (.dM gZ T.cS) (.ref _) T.t6 ?_
  walk_at "rd"
  refine eP (.dM gZ T.cS) (.ref _) T.t2 ?_
  walk_at "rd"
  refine eP (.dM gZ T.cS) (.ty _) T.t5 ?_
  walk_at "rd"
  refine ⟨a,_,d,_,_,rfl,.inl gZ,hd2,T.cS,T.iO,T.iS,rfl,?_⟩
  walk_at "rd"
  refine ⟨_,rfl,?_⟩
  walk_at "rd"
  refine ⟨a,_,d,_,_,rfl,.inl gZ,hd2,T.cS,T.iO,T.iS,rfl,?_⟩
  walk_at "rd"
  refine if2 (fun _=>?_) (fun h=>absurd rfl h)
  walk_at "rd"
  refine ⟨_,rfl,fun y d2 hy FR Fu=>?_⟩
  refine ⟨y,_,d2,_,_,rfl,.inr (by rw [aq (Ne.symm Fu)]; exact ak),ak,T.cS,T.iO,T.iS,rfl,?_⟩
  walk_at "rd"
  rw [decide_eq_true rfl]
  refine q _ ((e1.trans e2).trans ((ao.upd hy).trans (ao.upd ?_)))
  rw [aq Fu]
  exact FR
theorem el:aG ["_law_text", "_law_place", "_law_caught_here"] ["_law_text", "_law_place"] (ah bj):=⟨rfl,rfl,rfl,by decide +kernel,rfl,by decide +kernel,by decide +kernel⟩
theorem iB (D:Def K mg "_law_no_map" bj ["_law_text", "_law_place"]) (T:Txt K mg Z) (dJ:cP P w K mg base (bP P w) "_law_whole" 1 ["_law_found"] h8) (bY:cP P w K mg base (bP P w) "_law_caught" 5 ["_law_text"] (eN Z.aN Z.bG)) (cX:cP P w K mg base (bP P w) "_law_strange" 1 ["_law_caught_here"] (fi Z.aN Z.bG)):cP P w K mg base (bP P w) "_law_no_map" 6 ["_law_text", "_law_place"] lj:=by
 refine D.fe el (fun vs H Q E h=>?_) (fun f ck A outer s H vs Q E hr h=>?_)
 ·obtain ⟨x,i,L,rfl,_⟩:=h; rfl
 ·obtain ⟨x,i,L,rfl,qU,al,fw,q⟩:=h
  refine ⟨_,(ag (aM (i:=2) el.nd rfl (by first | exact Or.inl rfl | exact Or.inr rfl) (ax bY hr bq (aa (pv 0) af)))
   (ag (bC (PW.pt (pw_or (cz (ax cX hr bq (aa (pv 2) af))) (pw_or1 (cz (ar cD (by rfl) T.isinstance aK (aa (pv 2) (aa (aZ (v:=.ref Z.aN) rfl T.gb rfl) af))))))) (ai (az ey)) aE)
   (ag (bC (PW.pt (pw_or (fk (cz (ar cD (by rfl) T.isinstance aK (aa (pv 2) (aa (aZ (v:=.ref Z.bG) rfl T.kM rfl) af))))) (pw_or1 (fk (cz (ar cD (by rfl) T.isinstance aK (aa (pv 2) (aa (fM (v:=.ty "ValueError") rfl T.ValueError fh rfl) af)))))))) (ai (az ey)) aE)
   (ai (az (fm (ax dJ hr bq (aa (iu (pv 2) rfl) af)) (gm (dG d3 (iu (pv 2) rfl) (pv 1) (aP _))))))))),?_⟩
  dsimp only [de]
  walk_at "rd"
  refine ⟨x,rfl,qU,.inr ⟨L,al,.inl ⟨i,fw,fun a d H1 e1 ha hd=>?_⟩⟩⟩
  walk_at "rd"
  refine ⟨a,d,_,.inr rfl,rfl,ha,fun H2 e2=>?_⟩
  have gZ:=e2 _ _ ha
  have hd2:=e2 _ _ hd
  walk_at "rd"
  refine eP (.dM gZ T.eM) (.ref _) T.m6 ?_
  walk_at "rd"
  refine eP (.dM gZ T.eM) (.ref _) T.m2 ?_
  walk_at "rd"
  refine eP (.dM gZ T.eM) (.ty _) T.m5 ?_
  walk_at "rd"
  refine ⟨a,_,d,_,_,rfl,.inl gZ,hd2,T.eM,T.oJ,T.oP,rfl,?_⟩
  walk_at "rd"
  refine ⟨_,rfl,?_⟩
  walk_at "rd"
  refine ⟨a,_,d,_,_,rfl,.inl gZ,hd2,T.eM,T.oJ,T.oP,rfl,?_⟩
  walk_at "rd"
  rw [decide_eq_true rfl]
  exact q _ (e1.trans e2)
theorem va (n:Int):∃ m:Nat,100000000000000000000000000000000000000000000000000000000000 + n % 100000000000000000000000000000000000000000000000000000000000 = (m:Int)∧10 ^ 59≤m∧m < 10 ^ 60:=by
 refine ⟨(100000000000000000000000000000000000000000000000000000000000 + n % 100000000000000000000000000000000000000000000000000000000000).toNat,?_,?_,?_⟩
 ·omega
 ·show 100000000000000000000000000000000000000000000000000000000000≤_
  omega
 ·show _ < 1000000000000000000000000000000000000000000000000000000000000
  omega
theorem uY {w:List Nat} (h:PySem.NumText.AllDigits w):∀ c∈[48,58,32] ++ w,c < 128:=fun c hc=>by
 rcases List.mem_append.mp hc with z | z
 ·have:∀ c∈[48,58,32],c < 128:=by decide
  exact this c z
 ·have:=(h c z).2; omega
theorem oG {x:Str} {w:List Nat} (e:x.cps.toList = [48,58,32] ++ w) (h:PySem.NumText.AllDigits w) (hl:w.length≤100):yf x:=by
 refine ⟨?_,?_,?_⟩
 ·rw [← qH x,e]
  exact iR (uY h)
 ·rw [← str_len,e,List.length_append]
  simp
  omega
 ·rw [e,List.count_eq_zero.mpr]
  ·decide
  ·intro z
   rcases List.mem_append.mp z with z | z
   ·exact absurd z (by decide)
   ·exact eE h (by decide) z
theorem wj {m:Nat} {x:Str} (t:Tx m x.cps.toList) (h:m≤10):yf x:=⟨t.ascii,by have:=t.l; rw [str_len] at this; omega,by have:=t.n; omega⟩
theorem cT:aG ["_law_script", "_law_word", "_law_text", "_law_k", "_law_due", "_law_row", "_law_words", "_law_order_here", "_law_place", "_law_found"] ["_law_script"] (ah fH):=⟨rfl,rfl,rfl,by decide +kernel,rfl,by decide +kernel,by decide +kernel⟩
theorem wZ {fa:Addr} {fd:FuncData} (F:tV K "law" "law" fH fa fd) (T:Txt K mg Z) (ny:cP P w K mg base (bP P w) "read" 4 ["text"] (j7 Z.aN Z.bG)) (eD:cP P w K mg base (bP P w) "_law_cell_at" 1 ["_law_script", "_law_k"] (nY K)) (cq:cP P w K mg base (bP P w) "_law_mixed" 2 ["_law_script", "_law_k"] (d9 K)) (nB:cP P w K mg base (bP P w) "_law_any" 3 ["_law_script", "_law_start", "_law_many"] (qN K)) (lV:cP P w K mg base (bP P w) "_law_rows" 1 ["_law_orders"] nX) (iJ:cP P w K mg base (bP P w) "_law_spoiled" 1 ["_law_text", "_law_number_here"] ia) (kE:cP P w K mg base (bP P w) "_law_order" 2 ["_law_row", "_law_place"] lh) (gq:cP P w K mg base (bP P w) "_law_bad_place" 1 ["_law_orders"] qM) (bY:cP P w K mg base (bP P w) "_law_caught" 5 ["_law_text"] (eN Z.aN Z.bG)) (eC:cP P w K mg base (bP P w) "_law_no_text" 6 ["_law_text", "_law_row"] jx) (fg:cP P w K mg base (bP P w) "_law_no_map" 6 ["_law_text", "_law_place"] lj):fA P w K mg base (bP P w) 10 fa fd ["_law_script"] (j8 K):=by
 refine F.okN cT (fun vs H Q E h=>?_) (fun ck A outer s H vs Q E hr h=>?_)
 ·obtain ⟨a,ns,rfl,_⟩:=h; rfl
 ·obtain ⟨a,ns,rfl,hS,hlen,kq⟩:=h
  refine ⟨_,(ag (aM (i:=1) cT.nd rfl (by first | exact Or.inl rfl | exact Or.inr rfl) (cf cO (by rfl) T.str kO (aa (av bN (fL (v:=100000000000000000000000000000000000000000000000000000000000) iy aj aj ⟨by decide,by decide,by decide⟩ (by decide +kernel)) (av bJ (ax eD hr bq (aa (pv 0) (aa aj af))) (fL (v:=100000000000000000000000000000000000000000000000000000000000) iy aj aj ⟨by decide,by decide,by decide⟩ (by decide +kernel)))) af)))
   (ag (bC (PW.pt (pw_or (fk (cz (ax fg hr bq (aa (av aY bI (pv 1)) (aa aj af))))) (pw_or1 (fk (cz (ax eC hr bq (aa (av aY (av aY bI (pv 1)) bI) (aa aj af)))))))) (ai (az ey)) aE)
   (ag (aM (i:=2) cT.nd rfl (by first | exact Or.inl rfl | exact Or.inr rfl) (ax lV hr bq (aa (ax nB hr bq (aa (pv 0) (aa aj (aa (av bN aj (av bJ (ax eD hr bq (aa (pv 0) (aa aj af))) aj)) af)))) af)))
   (ag (cV PassesOwn.never rfl (cb rfl T.range (aa (av bJ (ax cq hr bq (aa (pv 0) (aa aj af))) aj) af)) (aW (i:=3) cT.nd rfl (by first | exact Or.inl rfl | exact Or.inr rfl))
   (ai (aM (i:=2) cT.nd rfl (by first | exact Or.inl rfl | exact Or.inr rfl) (ax iJ hr bq (aa (pv 2) (aa (ax cq hr bq (aa (pv 0) (aa (av bN aj (pv 3)) af))) af))))))
   (ag (aM (i:=4) cT.nd rfl (by first | exact Or.inl rfl | exact Or.inr rfl) (nh af))
   (ag (cV PassesOwn.never rfl (oj T.enumerate (aa (ff PySem.F.plainAttrs_str PySem.F.slot_str_split PySem.F.type_str_split fS (pv 2) (aa bI af)) af)) (rP (n:=2) rfl (fK (aW (i:=5) cT.nd rfl (by first | exact Or.inl rfl | exact Or.inr rfl)) (fK (aW (i:=6) cT.nd rfl (by first | exact Or.inl rfl | exact Or.inr rfl)) om)))
   (ag (aM (i:=7) cT.nd rfl (by first | exact Or.inl rfl | exact Or.inr rfl) (ax kE hr bq (aa (pv 6) (aa (pv 5) af))))
   (ag (bC (rK (rV (pv 7))) (ai (az (ax eC hr bq (aa (pv 2) (aa (pv 5) af))))) aE)
   (ai (dF (ff PySem.F.plainAttrs_list PySem.F.slot_list_append PySem.F.type_list_append eS (pv 4) (aa (pv 7) af)))))))
   (ag (aM (i:=8) cT.nd rfl (by first | exact Or.inl rfl | exact Or.inr rfl) (ax gq hr bq (aa (pv 4) af)))
   (ag (bC (rK (uo (pv 8))) (ai (az (ax fg hr bq (aa (pv 2) (aa (pv 8) af))))) aE)
   (ag (aM (i:=9) cT.nd rfl (by first | exact Or.inl rfl | exact Or.inr rfl) (ax ny hr bq (aa (pv 2) af)))
   (ai (az (fm (ar gw (by rfl) T.isinstance aK (aa (pv 9) (aa (fM (v:=.ty "list") rfl T.list u6 rfl) af))) (fm (dG (wX hr.units) (pv 9) (pv 4) (aP _)) (gm (wW (rV (ax bY hr bq (aa (pv 2) af)))))))))))))))))),?_⟩
  dsimp only [de]
  walk_at "rd"
  refine ⟨a,ns,1,rfl,hS,by decide,fun n1=>?_⟩
  walk_at "rd"
  obtain ⟨m,hm,m0,m1⟩:=va n1
  rw [hm]
  obtain ⟨wl,w1,w2⟩:=wa m0 m1
  have Ar:=fR m
  have Gz:(num (m:Int)).cps.toList.length = 60:=by rw [str_len]; exact wl
  have o3:(Str.ofString "0: ").cps.toList = [48,58,32]:=by decide +kernel
  have o7:(Str.ofString "7").cps.toList = [55]:=by decide +kernel
  have l3:(Str.ofString "0: ").length = 3:=by decide +kernel
  have l7:(Str.ofString "7").length = 1:=by decide +kernel
  have bz:∀ j:Nat,j≤1000→j≤sizeLine:=fun j h=>by rw [PySem.sizeLine_eq]; omega
  refine ⟨_,rfl,kr (Nat.lt_trans m1 (by decide)),?_⟩
  walk_at "rd"
  refine ⟨_,_,rfl,rfl,bz _ (by have:(Str.ofString (toString (m:Int))).length = 60:=wl; omega),?_⟩
  walk_at "rd"
  have x1:(Str.ofString "0: " ++ Str.ofString (toString (m:Int))).cps.toList = [48,58,32] ++ (num (m:Int)).cps.toList:=by rw [bK,o3]
  have Aq:PySem.NumText.AllDigits ((num (m:Int)).cps.toList ++ [55]):=fun c hc=>by
   rcases List.mem_append.mp hc with z | z
   ·exact Ar c z
   ·rw [List.mem_singleton.mp z]; decide
  have x2:(Str.ofString "0: " ++ Str.ofString (toString (m:Int)) ++ Str.ofString "7").cps.toList = [48,58,32] ++ ((num (m:Int)).cps.toList ++ [55]):=by rw [bK,x1,o7,List.append_assoc]
  have os:=rX w1 (eE Ar (by decide)) (eE Ar (by decide))
  have on:=rY w2 (eE Aq (by decide)) (eE Aq (by decide))
  rw [← x1] at os
  rw [← x2] at on
  refine ⟨_,0,_,rfl,oG x1 Ar (by omega),os.1,os.2,fun H1 e1=>?_⟩
  walk_at "rd"
  refine ⟨_,_,rfl,rfl,bz _ (by have:(Str.ofString (toString (m:Int))).length = 60:=wl; omega),?_⟩
  walk_at "rd"
  refine ⟨_,_,rfl,rfl,bz _ (by have:(Str.ofString (toString (m:Int))).length = 60:=wl; rw [Str.length_append]; omega),?_⟩
  walk_at "rd"
  refine ⟨_,0,rfl,oG x2 Aq (by rw [List.length_append,Gz]; simp),on,fun H2 e2=>?_⟩
  clear os on x1 x2 Aq o3 o7
  have DL:=e1.trans e2
  walk_at "rd"
  refine ⟨a,ns,0,rfl,DL.seq hS,by decide,fun n0=>?_⟩
  have z0:=Int.emod_nonneg n0 (show (6:Int)≠0 by decide)
  have z1:=Int.emod_lt_of_pos n0 (show (0:Int) < 6 by decide)
  walk_at "rd"
  refine ⟨a,ns,3,1 + n0 % 6,rfl,DL.seq hS,by decide,by decide,by omega,by omega,fun p as L H3 e3 g3 Ig A2 hL im=>?_⟩
  have Bc:=DL.trans e3
  refine ⟨p,as,L,rfl,g3,vy im (by omega),fun H4 e4=>?_⟩
  have F1:=Bc.trans e4
  have EO:=xc im (by omega)
  generalize ji L = x at EO ⊢
  clear g3 im Ig A2 hL
  walk_at "rd"
  refine r_seq (dZ ?_)
  refine eu (r_op (ki (eu (r_var rfl (eu (r_c (ip ⟨a,ns,2,rfl,F1.seq hS,by decide,by decide,fun n2 Lf Ld=>r_c (rh (by first | decide | walk_at "side") (ip ?_))⟩)))))))
  have t0:=Int.emod_nonneg n2 (show (3:Int)≠0 by decide)
  have t1:=Int.emod_lt_of_pos n2 (show (0:Int) < 3 by decide)
  obtain ⟨c,hc⟩:=Int.eq_ofNat_of_zero_le t0
  rw [hc] at t1 ⊢
  refine ⟨(c:Int),rfl,by omega,by omega,?_⟩
  rw [Int.toNat_natCast]
  generalize Str.ofString (toString (m:Int)) = wo
  refine cg (fun k σ H5=>∃ (v:Option V) (y:Str),σ = [some (.ref a),some (.str wo),some (.str y),v,none,none,none,none,none,none]∧ao H H5∧Tx k y.cps.toList) ⟨none,x,rfl,F1,EO⟩ ?_ ?_
  ·rintro k σ H5 hk ⟨v,y,rfl,e5,ty⟩
   simp only [Int.zero_add]
   walk_at "rd"
   refine ⟨a,ns,80 + k,rfl,e5.seq hS,by omega,by omega,fun nn na nb=>?_⟩
   walk_at "rd"
   refine ⟨y,nn,k,rfl,na,by omega,ty,fun y2 GC=>?_⟩
   walk_at "rd"
   exact ⟨_,y2,rfl,e5,GC⟩
  ·rintro σ H5 ⟨v,y,rfl,e5,ty⟩
   have ty:=ty.mono (show c≤2 by omega)
   have qU:=wj ty (by decide)
   have yl:=ty.l
   rw [str_len] at yl
   walk_at "rd"
   refine ⟨Nat.zero_le _,fun du FP=>?_⟩
   have e6:ao H5 (upd H5 du (.lst [])):=ao.upd FP
   have d6:upd H5 du (.lst []) du = some (.lst []):=ak
   have f6:=e5.free FP
   generalize upd H5 du (.lst []) = H6 at e6 d6 ⊢
   refine r_gname (r_seq (dZ ?_))
   refine n6 (eu (uj (r_var rfl ⟨rfl,eu (r_c (ip ⟨y,qG,rfl,rfl,by decide +kernel,by omega,by have:=eR y qG; exact Nat.le_trans this (bz _ (by omega)),fun ps pN=>ip ?_⟩))⟩)))
   rw [mL,fD]
   have rl:=gj 10 y.cps.toList
   have AJ:=ty.n
   have subs:=h9 10 y.cps.toList
   have hR:sp 10 y.cps.toList = sp 10 y.cps.toList:=rfl
   generalize hR:sp 10 y.cps.toList = R at rl subs ⊢
   have Ib:ps≠du:=fun z=>by rw [z,d6] at pN; cases pN
   have e7:ao H6 (upd H6 ps (.lst ((R.map st).map V.str))):=ao.upd pN
   have p7:upd H6 ps (.lst ((R.map st).map V.str)) ps = some (.lst ((R.map st).map V.str)):=ak
   generalize upd H6 ps (.lst ((R.map st).map V.str)) = H7 at e7 p7 ⊢
   refine ⟨ps,rfl,⟨_,aO.of p7⟩,sM (K:=K) (a:=ps) (xs:=(R.map st).map V.str) (fun i σ H8=>∃ (v5 v6 v7:Option V) (bs:List Addr) (L:List (List Int)),σ = [some (.ref a),some (.str wo),some (.str y),v,some (.ref du),v5,v6,v7,none,none]∧ao H H8∧H8 ps = some (.lst ((R.map st).map V.str))∧cE H8 du bs L∧bs.length = i∧fB (R.take i) L∧du∉bs)
    ⟨none,none,none,[],[],rfl,(e5.trans e6).trans e7,p7,⟨e7 _ _ d6,rfl,fun i a l z=>by simp at z⟩,rfl,⟨rfl,fun i r z=>by simp at z⟩,by simp⟩ (fun i σ H8 _ ⟨_,_,_,_,_,_,_,p8,_⟩=>aO.of p8) ?_ ?_⟩
   ·rintro i x2 pr σ H8 hx ⟨v5,v6,v7,bs,L,rfl,e8,p8,g8,zH,al,nd⟩ Df
    obtain ⟨r,uE,rfl⟩:∃ r,R[i]? = some r∧x2 = V.str (st r):=by
     rw [List.getElem?_map,List.getElem?_map] at hx
     cases e:R[i]? with
     | none=>rw [e] at hx; cases hx
     | some z=>rw [e] at hx; exact ⟨z,rfl,(Option.some.inj hx).symm⟩
    have il:=(List.getElem?_eq_some_iff.mp uE).1
    have rs:=subs r (List.mem_of_getElem? uE)
    have wD:=rs.length_le
    have K7:=rs.countP_le (p:=kA)
    have Gy:=ty.d
    unfold dg at Gy
    rw [str_len] at wD
    have DA:L.length = i:=by rw [al.1,List.length_take]; omega
    have e9:ao H8 (upd H8 pr (.tup [.int i,.str (st r)])):=ao.upd Df
    refine ir (SqT.of ak) rfl ?_
    generalize upd H8 pr (.tup [.int i,.str (st r)]) = H9 at e9 ⊢
    walk_at "rd"
    refine ⟨i,st r,rfl,by omega,iR fun c hc=>kQ qU.1 c (rs.subset hc),by rw [dw]; omega,by unfold dg; rw [cL]; omega,fun hn x6 sV=>?_,fun l hl b x6 sV fb hb=>?_⟩
    ·rw [cL] at hn
     walk_at "rd"
     rw [decide_eq_true rfl]
     walk_at "rd"
     refine ⟨y,i,rfl,qU,by rw [hR]; exact al.pre uE hn,fun x5 JA=>?_⟩
     exact kq _
    ·rw [cL] at hl
     have yc:=(g8.same e9).same sV
     have nb:b≠du:=fun z=>by rw [z] at fb; exact absurd (e9 _ _ g8.top) (by rw [fb]; simp)
     walk_at "rd"
     rw [decide_eq_false (fun z=>by cases z)]
     walk_at "rd"
     refine ⟨.inl ⟨rfl,_,aO.of yc.top⟩,?_⟩
     walk_at "rd"
     refine lB yc.top (by rw [List.length_map]; exact aX (by omega)) ?_
     refine ⟨_,_,_,bs ++ [b],L ++ [l],rfl,ao.fresh ((e8.trans e9).trans sV) f6,by rw [aq Ib]; exact sV _ _ (e9 _ _ p8),?_,by simp [zH],by rw [take_snoc uE]; exact al.snoc (by rw [DA]; exact hl),fun z=>?_⟩
     ·exact yc.snoc nd nb hb
     ·rcases List.mem_append.mp z with z | z
      ·exact nd z
      ·exact nb (List.mem_singleton.mp z).symm
   ·rintro σ H8 ⟨v5,v6,v7,bs,L,rfl,e8,p8,g8,zH,al,nd⟩
    rw [List.length_map,List.length_map,List.take_length] at al
    have Ll:=al.1
    have at':∀ r∈L,∃ (k:Nat) (u:List Nat),u∈R∧ro k u = some r:=fun r hr=>by
     obtain ⟨k,hk⟩:=List.mem_iff_getElem?.mp hr
     have kl:=(List.getElem?_eq_some_iff.mp hk).1
     obtain ⟨l,h1,h2⟩:=al.2 k R[k] (by simp)
     rw [hk] at h1
     cases h1
     exact ⟨k,R[k],List.getElem_mem _,h2⟩
    have al:fB (sp 10 y.cps.toList) L:=by rw [hR]; exact al
    walk_at "rd"
    refine ⟨du,bs,L,rfl,g8,by omega,fun r hr=>?_,fun r hr=>?_,fun no H9 e9=>?_,fun i H9 fw e9=>?_⟩
    ·obtain ⟨k,u,hu,e⟩:=at' r hr
     have:=qT e
     have s1:=(subs u hu).length_le
     rw [str_len] at s1
     omega
    ·obtain ⟨k,u,hu,e⟩:=at' r hr
     exact o8 e
    ·walk_at "rd"
     rw [decide_eq_true rfl]
     walk_at "rd"
     refine ⟨y,rfl,qU,.inr ⟨L,al,.inr ⟨no,fun t ts x6 sV yc=>?_⟩⟩⟩
     walk_at "rd"
     refine m7 (.lst yc.top) (.ty _) xg ?_
     walk_at "rd"
     refine ⟨eG L,eG L,yc.Fc,((g8.same e9).same sV).Fc,gB _,gB _,?_⟩
     rw [if_neg (by decide),sT,decide_eq_true rfl]
     walk_at "rd"
     refine ⟨y,rfl,qU,.inr ⟨L,al,.inr ⟨no,fun x5 JA=>?_⟩⟩⟩
     dsimp only
     rw [decide_eq_true rfl]
     exact kq _
    ·walk_at "rd"
     rw [decide_eq_false (fun z=>by cases z)]
     walk_at "rd"
     refine ⟨y,i,L,rfl,qU,al,fw,fun x6 sV=>?_⟩
     exact kq _
end
end xV
end
namespace xV
open PySem L2 Fr Gm
local macro_rules | `(tactic| walk_at "rd1")=>`(tactic| first
 | with_reducible refine r_seq ?_ | with_reducible refine r_asg ?_ | with_reducible refine r_gname ?_ | with_reducible refine r_op ?_ | with_reducible refine r_c ?_
 | ((with_reducible refine' r_var ?hv ?_); case' hv=>exact rfl)
 | with_reducible refine rf ?_ | with_reducible refine wF ?_ | with_reducible refine wH ?_ | with_reducible refine rD ?_ | with_reducible refine rm ?_
 | with_reducible refine q5 ?_ | with_reducible refine q0 ?_ | with_reducible refine m9 ?_ | with_reducible refine n5 ?_ | with_reducible refine mU ?_ | with_reducible refine BW ?_ | with_reducible refine wK ?_
 | with_reducible refine rj ?_ | with_reducible refine rF ?_ | with_reducible refine wI ?_ | with_reducible refine ng ?_ | with_reducible refine ri ?_ | with_reducible refine mX ?_ | with_reducible refine vE ?_
 | with_reducible refine ip ?_ | with_reducible refine eu ?_ | with_reducible refine ki ?_ | with_reducible refine wJ ?_ | with_reducible refine qY ?_ | with_reducible refine rq ?_ | with_reducible refine mZ ?_
 | with_reducible refine kh ?_ | with_reducible refine m8 ?_ | with_reducible refine vC ?_ | with_reducible refine AS ?_ | with_reducible refine AU ?_ | with_reducible refine xp ?_ | with_reducible refine xq ?_
 | ((with_reducible refine rh ?hc ?_); case' hc=>walk_at "side")
 | ((with_reducible refine' vD ?hp ?hi ?_); (case' hp=>walk_at "seq"); (case' hi=>exact rfl))
 | ((with_reducible refine' cw ?hp ?hi ?_); (case' hp=>walk_at "seq"); (case' hi=>exact rfl))
 | ((with_reducible refine' ir ?hp ?hi ?_); (case' hp=>walk_at "seq"); (case' hi=>exact rfl))
 | ((with_reducible refine And.intro ?hl ?_); case' hl=>(first | exact vz | exact yI))
 | with_reducible refine uj ?_ | with_reducible refine vG ?_ | with_reducible refine mT ?_ | with_reducible refine rz ?_ | with_reducible refine mY ?_ | with_reducible refine n3 ?_ | with_reducible refine kj ?_ | with_reducible refine mS ?_ | with_reducible refine rp ?_ | with_reducible refine ig ?_ | with_reducible refine qX ?_ | with_reducible refine kg ?_ | with_reducible refine lA ?_ | with_reducible refine vF ?_ | with_reducible refine rE ?_ | with_reducible refine rB ?_ | with_reducible refine rC ?_ | with_reducible refine rk ?_ | with_reducible refine rA ?_ | with_reducible refine qZ ?_ | with_reducible refine ij ?_ | with_reducible refine mW ?_
 | dsimp only)
local macro_rules | `(tactic| walk_at "rd")=>`(tactic| repeat walk_at "rd1")
local macro_rules | `(tactic| walk_at "blk_vis")=>`(tactic| first | exact Or.inl rfl | exact Or.inr (Or.inl rfl) | exact Or.inr (Or.inr rfl))
local macro_rules | `(tactic| walk_at "blk_ok")=>`(tactic| exact ⟨rfl,by decide +kernel,by decide +kernel,rfl,by (first | exact trivial | exact ⟨rfl,trivial⟩ | exact ⟨rfl,rfl,trivial⟩ | exact ⟨rfl,rfl,rfl,trivial⟩ | exact ⟨rfl,rfl,rfl,rfl,trivial⟩ | exact ⟨rfl,rfl,rfl,rfl,rfl,trivial⟩),rfl,
 by (first | exact au | exact ae ⟨rfl,by walk_at "blk_vis",rfl,rfl⟩ au | exact ae ⟨rfl,by walk_at "blk_vis",rfl,rfl⟩ (ae ⟨rfl,by walk_at "blk_vis",rfl,rfl⟩ au) | exact ae ⟨rfl,by walk_at "blk_vis",rfl,rfl⟩ (ae ⟨rfl,by walk_at "blk_vis",rfl,rfl⟩ (ae ⟨rfl,by walk_at "blk_vis",rfl,rfl⟩ au)) | exact ae ⟨rfl,by walk_at "blk_vis",rfl,rfl⟩ (ae ⟨rfl,by walk_at "blk_vis",rfl,rfl⟩ (ae ⟨rfl,by walk_at "blk_vis",rfl,rfl⟩ (ae ⟨rfl,by walk_at "blk_vis",rfl,rfl⟩ au)))),
 by (first | exact ae rfl (ae rfl (ae rfl (ae rfl au))) | exact au | exact ae rfl au | exact ae rfl (ae rfl au) | exact ae rfl (ae rfl (ae rfl au)))⟩)
local macro_rules | `(tactic| walk_at "blk_ok1")=>`(tactic| exact ⟨rfl,fun _=>rfl,fun _=>rfl,by decide +kernel,rfl,by (first | exact trivial | exact ⟨rfl,trivial⟩ | exact ⟨rfl,rfl,trivial⟩ | exact ⟨rfl,rfl,rfl,trivial⟩ | exact ⟨rfl,rfl,rfl,rfl,trivial⟩),rfl,
 by (first | exact au | exact ae ⟨rfl,by walk_at "blk_vis",⟨rfl,rfl⟩,rfl⟩ au | exact ae ⟨rfl,by walk_at "blk_vis",⟨rfl,rfl⟩,rfl⟩ (ae ⟨rfl,by walk_at "blk_vis",⟨rfl,rfl⟩,rfl⟩ au) | exact ae ⟨rfl,by walk_at "blk_vis",⟨rfl,rfl⟩,rfl⟩ (ae ⟨rfl,by walk_at "blk_vis",⟨rfl,rfl⟩,rfl⟩ (ae ⟨rfl,by walk_at "blk_vis",⟨rfl,rfl⟩,rfl⟩ au))),
 by (first | exact au | exact ae rfl au | exact ae rfl (ae rfl au) | exact ae rfl (ae rfl (ae rfl au)))⟩)
local macro_rules | `(tactic| walk_at "side")=>`(tactic| first | assumption | exact (show (0:Int) < _ by decide) | exact kK (by decide) (by decide) | exact kL (by decide) (by decide) | exact mulL (by decide) (by decide))
local macro_rules | `(tactic| walk_at "seq")=>`(tactic| first | assumption | exact SqT.of (by assumption))
theorem all_mk {l:PySem.W.OpenLaw} {w:World} {K:PySem.W.Frag} {h:Heap} {mg:Str→Option Value} {fa:Addr} (X:K.In h) (G:h.Ns mainGlobals mg) (Je:mg "law" = some (.ref fa))
  {aI di fZ fY dP dQ eW dR dN hV cN eV aw aA dO eU:Addr}
  (e_MapError:PySem.W.nsIn K mainGlobals "MapError" = some (some (.ref aI)))
  (e_NoNumber:PySem.W.nsIn K mainGlobals "NoNumber" = some (some (.ref di)))
  (e_NoOne:PySem.W.nsIn K mainGlobals "NoOne" = some (some (.ref fZ)))
  (e_NoTie:PySem.W.nsIn K mainGlobals "NoTie" = some (some (.ref fY)))
  (e_NoOther:PySem.W.nsIn K mainGlobals "NoOther" = some (some (.ref dP)))
  (e_NoNames:PySem.W.nsIn K mainGlobals "NoNames" = some (some (.ref dQ)))
  (e_NoLand:PySem.W.nsIn K mainGlobals "NoLand" = some (some (.ref eW)))
  (e_NoFrame:PySem.W.nsIn K mainGlobals "NoFrame" = some (some (.ref dR)))
  (e_NoThree:PySem.W.nsIn K mainGlobals "NoThree" = some (some (.ref dN)))
  (e_Flat:PySem.W.nsIn K mainGlobals "Flat" = some (some (.ref hV)))
  (e_NotInside:PySem.W.nsIn K mainGlobals "NotInside" = some (some (.ref cN)))
  (e_NoStep:PySem.W.nsIn K mainGlobals "NoStep" = some (some (.ref eV)))
  (e_NoText:PySem.W.nsIn K mainGlobals "NoText" = some (some (.ref aw)))
  (e_NoMap:PySem.W.nsIn K mainGlobals "NoMap" = some (some (.ref aA)))
  (e_NoSheet:PySem.W.nsIn K mainGlobals "NoSheet" = some (some (.ref dO)))
  (e_Parted:PySem.W.nsIn K mainGlobals "Parted" = some (some (.ref eU)))
  {f0:Addr} {HN Kg:Option Addr} {G4:Array (Option Value)} {Ia Iz JF Hz Gg JQ:Value}
  (a0:PySem.W.nsIn K mainGlobals "is_wrong" = some (some (.ref f0))) (l0:K.lookup f0 = some ⟨Ia,HN,.func (PySem.W.fnOf "is_wrong" "is_wrong" (aH bV) (aD bV) (ah bV) .none Iz JF Hz Kg Gg JQ),G4⟩) (c0:PySem.W.codeIn K Gg "is_wrong" = true) (k0:PySem.W.keepIn K (.ref f0) = true)
  {f1:Addr} {HM Kf:Option Addr} {G3:Array (Option Value)} {HZ Iy JE Hy Gf JP:Value}
  (a1:PySem.W.nsIn K mainGlobals "looked" = some (some (.ref f1))) (l1:K.lookup f1 = some ⟨HZ,HM,.func (PySem.W.fnOf "looked" "looked" (aH cG) (aD cG) (ah cG) .none Iy JE Hy Kf Gf JP),G3⟩) (c1:PySem.W.codeIn K Gf "looked" = true) (k1:PySem.W.keepIn K (.ref f1) = true)
  {f2:Addr} {HL Ke:Option Addr} {vz:Array (Option Value)} {HY Iw DP Hx Ge JO:Value}
  (a2:PySem.W.nsIn K mainGlobals "is_word" = some (some (.ref f2))) (l2:K.lookup f2 = some ⟨HY,HL,.func (PySem.W.fnOf "is_word" "is_word" (aH b9) (aD b9) (ah b9) .none Iw DP Hx Ke Ge JO),vz⟩) (c2:PySem.W.codeIn K Ge "is_word" = true) (k2:PySem.W.keepIn K (.ref f2) = true)
  {f3:Addr} {HK Kc:Option Addr} {yI:Array (Option Value)} {HX Iv DO Hw Gd zV:Value}
  (a3:PySem.W.nsIn K mainGlobals "order_in" = some (some (.ref f3))) (l3:K.lookup f3 = some ⟨HX,HK,.func (PySem.W.fnOf "order_in" "order_in" (aH bU) (aD bU) (ah bU) .none Iv DO Hw Kc Gd zV),yI⟩) (c3:PySem.W.codeIn K Gd "order_in" = true) (k3:PySem.W.keepIn K (.ref f3) = true)
  {f4:Addr} {HJ Kb:Option Addr} {G2:Array (Option Value)} {HW Iu zS Hv Gb JN:Value}
  (a4:PySem.W.nsIn K mainGlobals "read" = some (some (.ref f4))) (l4:K.lookup f4 = some ⟨HW,HJ,.func (PySem.W.fnOf "read" "read" (aH et) (aD et) (ah et) .none Iu zS Hv Kb Gb JN),G2⟩) (c4:PySem.W.codeIn K Gb "read" = true) (k4:PySem.W.keepIn K (.ref f4) = true)
  {f5:Addr} {HI Ka:Option Addr} {G1:Array (Option Value)} {HV Ir zR Hu Ga JM:Value}
  (a5:PySem.W.nsIn K mainGlobals "_law_cell_at" = some (some (.ref f5))) (l5:K.lookup f5 = some ⟨HV,HI,.func (PySem.W.fnOf "_law_cell_at" "_law_cell_at" (aH aU) (aD aU) (ah aU) .none Ir zR Hu Ka Ga JM),G1⟩) (c5:PySem.W.codeIn K Ga "_law_cell_at" = true) (k5:PySem.W.keepIn K (.ref f5) = true)
  {f6:Addr} {HH J3:Option Addr} {G0:Array (Option Value)} {HU Iq DN Ht F9 JL:Value}
  (a6:PySem.W.nsIn K mainGlobals "_law_whole" = some (some (.ref f6))) (l6:K.lookup f6 = some ⟨HU,HH,.func (PySem.W.fnOf "_law_whole" "_law_whole" (aH bw) (aD bw) (ah bw) .none Iq DN Ht J3 F9 JL),G0⟩) (c6:PySem.W.codeIn K F9 "_law_whole" = true) (k6:PySem.W.keepIn K (.ref f6) = true)
  {f7:Addr} {HG JZ:Option Addr} {GZ:Array (Option Value)} {HS Ip JD Hs F8 JK:Value}
  (a7:PySem.W.nsIn K mainGlobals "_law_block" = some (some (.ref f7))) (l7:K.lookup f7 = some ⟨HS,HG,.func (PySem.W.fnOf "_law_block" "_law_block" (aH bB) (aD bB) (ah bB) .none Ip JD Hs JZ F8 JK),GZ⟩) (c7:PySem.W.codeIn K F8 "_law_block" = true) (k7:PySem.W.keepIn K (.ref f7) = true)
  {f8:Addr} {HF JY:Option Addr} {GY:Array (Option Value)} {HR Io JC Hr F7 JJ:Value}
  (a8:PySem.W.nsIn K mainGlobals "_law_mixed" = some (some (.ref f8))) (l8:K.lookup f8 = some ⟨HR,HF,.func (PySem.W.fnOf "_law_mixed" "_law_mixed" (aH bA) (aD bA) (ah bA) .none Io JC Hr JY F7 JJ),GY⟩) (c8:PySem.W.codeIn K F7 "_law_mixed" = true) (k8:PySem.W.keepIn K (.ref f8) = true)
  {f9:Addr} {HE JW:Option Addr} {GX:Array (Option Value)} {HQ Im JB Hq F6 JI:Value}
  (a9:PySem.W.nsIn K mainGlobals "_law_any" = some (some (.ref f9))) (l9:K.lookup f9 = some ⟨HQ,HE,.func (PySem.W.fnOf "_law_any" "_law_any" (aH bW) (aD bW) (ah bW) .none Im JB Hq JW F6 JI),GX⟩) (c9:PySem.W.codeIn K F6 "_law_any" = true) (k9:PySem.W.keepIn K (.ref f9) = true)
  {Bb:Addr} {CA Es:Option Addr} {BP:Array (Option Value)} {CL C4 DY Cm Af Ei:Value}
  (a10:PySem.W.nsIn K mainGlobals "_law_rows" = some (some (.ref Bb))) (l10:K.lookup Bb = some ⟨CL,CA,.func (PySem.W.fnOf "_law_rows" "_law_rows" (aH bL) (aD bL) (ah bL) .none C4 DY Cm Es Af Ei),BP⟩) (c10:PySem.W.codeIn K Af "_law_rows" = true) (k10:PySem.W.keepIn K (.ref Bb) = true)
  {Ba:Addr} {Cz Er:Option Addr} {BO:Array (Option Value)} {CK C3 DX Ck Ae Eh:Value}
  (a11:PySem.W.nsIn K mainGlobals "_law_spoiled" = some (some (.ref Ba))) (l11:K.lookup Ba = some ⟨CK,Cz,.func (PySem.W.fnOf "_law_spoiled" "_law_spoiled" (aH aS) (aD aS) (ah aS) .none C3 DX Ck Er Ae Eh),BO⟩) (c11:PySem.W.codeIn K Ae "_law_spoiled" = true) (k11:PySem.W.keepIn K (.ref Ba) = true)
  {A9:Addr} {Cy Ep:Option Addr} {BN:Array (Option Value)} {CJ C2 DW Cj Ad Eg:Value}
  (a12:PySem.W.nsIn K mainGlobals "_law_number" = some (some (.ref A9))) (l12:K.lookup A9 = some ⟨CJ,Cy,.func (PySem.W.fnOf "_law_number" "_law_number" (aH bh) (aD bh) (ah bh) .none C2 DW Cj Ep Ad Eg),BN⟩) (c12:PySem.W.codeIn K Ad "_law_number" = true) (k12:PySem.W.keepIn K (.ref A9) = true)
  {A8:Addr} {Cw Eo:Option Addr} {BM:Array (Option Value)} {CI C1 DV Ci Ac Ef:Value}
  (a13:PySem.W.nsIn K mainGlobals "_law_order" = some (some (.ref A8))) (l13:K.lookup A8 = some ⟨CI,Cw,.func (PySem.W.fnOf "_law_order" "_law_order" (aH bx) (aD bx) (ah bx) .none C1 DV Ci Eo Ac Ef),BM⟩) (c13:PySem.W.codeIn K Ac "_law_order" = true) (k13:PySem.W.keepIn K (.ref A8) = true)
  {A7:Addr} {Cv En:Option Addr} {BL:Array (Option Value)} {CH C0 DU Cg Ab Ee:Value}
  (a14:PySem.W.nsIn K mainGlobals "_law_bad_place" = some (some (.ref A7))) (l14:K.lookup A7 = some ⟨CH,Cv,.func (PySem.W.fnOf "_law_bad_place" "_law_bad_place" (aH aL) (aD aL) (ah aL) .none C0 DU Cg En Ab Ee),BL⟩) (c14:PySem.W.codeIn K Ab "_law_bad_place" = true) (k14:PySem.W.keepIn K (.ref A7) = true)
  {A6:Addr} {Cu Em:Option Addr} {BK:Array (Option Value)} {CG CZ DT Cf Aa Ed:Value}
  (a15:PySem.W.nsIn K mainGlobals "_law_caught" = some (some (.ref A6))) (l15:K.lookup A6 = some ⟨CG,Cu,.func (PySem.W.fnOf "_law_caught" "_law_caught" (aH bo) (aD bo) (ah bo) .none CZ DT Cf Em Aa Ed),BK⟩) (c15:PySem.W.codeIn K Aa "_law_caught" = true) (k15:PySem.W.keepIn K (.ref A6) = true)
  {A5:Addr} {Ct El:Option Addr} {BJ:Array (Option Value)} {CF CY DS Ce zZ Ec:Value}
  (a16:PySem.W.nsIn K mainGlobals "_law_strange" = some (some (.ref A5))) (l16:K.lookup A5 = some ⟨CF,Ct,.func (PySem.W.fnOf "_law_strange" "_law_strange" (aH aR) (aD aR) (ah aR) .none CY DS Ce El zZ Ec),BJ⟩) (c16:PySem.W.codeIn K zZ "_law_strange" = true) (k16:PySem.W.keepIn K (.ref A5) = true)
  {A4:Addr} {Cs Ek:Option Addr} {BI:Array (Option Value)} {CD CW DR Cd zY Eb:Value}
  (a17:PySem.W.nsIn K mainGlobals "_law_no_text" = some (some (.ref A4))) (l17:K.lookup A4 = some ⟨CD,Cs,.func (PySem.W.fnOf "_law_no_text" "_law_no_text" (aH aT) (aD aT) (ah aT) .none CW DR Cd Ek zY Eb),BI⟩) (c17:PySem.W.codeIn K zY "_law_no_text" = true) (k17:PySem.W.keepIn K (.ref A4) = true)
  {A3:Addr} {Cr Ej:Option Addr} {BH:Array (Option Value)} {CC CV DQ Cc zX Ea:Value}
  (a18:PySem.W.nsIn K mainGlobals "_law_no_map" = some (some (.ref A3))) (l18:K.lookup A3 = some ⟨CC,Cr,.func (PySem.W.fnOf "_law_no_map" "_law_no_map" (aH bj) (aD bj) (ah bj) .none CV DQ Cc Ej zX Ea),BH⟩) (c18:PySem.W.codeIn K zX "_law_no_map" = true) (k18:PySem.W.keepIn K (.ref A3) = true)
  {DH:Addr} {Cq Ah:Option Addr} {BG:Array (Option Value)} {CB zg zT yU xP zW:Value}
  (a19:PySem.W.nsIn K mainGlobals "law" = some (some (.ref DH))) (l19:K.lookup DH = some ⟨CB,Cq,.func (PySem.W.fnOf "law" "law" (aH fH) (aD fH) (ah fH) .none zg zT yU Ah xP zW),BG⟩) (c19:PySem.W.codeIn K xP "law" = true) (k19:PySem.W.keepIn K (.ref DH) = true)
  (z0:PySem.W.nsIn K mainGlobals "len" = some none)
  (z1:PySem.W.nsIn K mainGlobals "isinstance" = some none)
  (z2:PySem.W.nsIn K mainGlobals "int" = some none)
  (z3:PySem.W.nsIn K mainGlobals "bool" = some none)
  (z4:PySem.W.nsIn K mainGlobals "enumerate" = some none)
  (z5:PySem.W.nsIn K mainGlobals "range" = some none)
  (z6:PySem.W.nsIn K mainGlobals "min" = some none)
  (z7:PySem.W.nsIn K mainGlobals "list" = some none)
  (z8:PySem.W.nsIn K mainGlobals "str" = some none)
  (z9:PySem.W.nsIn K mainGlobals "all" = some none)
  (z10:PySem.W.nsIn K mainGlobals "set" = some none)
  (z11:PySem.W.nsIn K mainGlobals "ValueError" = some none)
  (t1_NoText:PySem.W.findIn K (.ref aw) "__getattribute__" = some (some (.builtin "BaseException.__getattribute__"))) (t7_NoText:PySem.W.findIn K (.ref aw) "__getattr__" = some none) (t8_NoText:PySem.W.mroIn K aw (.type "BaseException") = some true) {p9:ClassData} (t2_NoText:PySem.W.clsIn K aw = some p9) (t3_NoText:PySem.W.findIn K (.ref aw) "__class__" = some (some (.builtin "object.__class__"))) (t6_NoText:PySem.W.mroIn K aw (.type "object") = some true)
  (t1_NoMap:PySem.W.findIn K (.ref aA) "__getattribute__" = some (some (.builtin "BaseException.__getattribute__"))) (t7_NoMap:PySem.W.findIn K (.ref aA) "__getattr__" = some none) (t8_NoMap:PySem.W.mroIn K aA (.type "BaseException") = some true) {tF:ClassData} (t2_NoMap:PySem.W.clsIn K aA = some tF) (t3_NoMap:PySem.W.findIn K (.ref aA) "__class__" = some (some (.builtin "object.__class__"))) (t6_NoMap:PySem.W.mroIn K aA (.type "object") = some true)
  (t4:PySem.W.specialIn K (.builtin "object.__class__") "__get__" = some (some (.builtin "getset_descriptor.__get__"))) (t5:PySem.W.takesIn K (.builtin "object.__class__") = some true)
  (f_m1:PySem.W.exmOne K (.ref aA) (.ref aI) = some true)
  (f_m2:PySem.W.kitOne K (.ref aA) (.ref aA) = some true)
  (f_m3:PySem.W.kitAny K (.ref aA) [.ref hV,.ref dR,.ref eW,.ref dQ,.ref di,.ref fZ,.ref dP] = some false)
  (f_m4:PySem.W.kitAny K (.ref aA) [.ref dO,.ref eV,.ref dN,.ref fY,.ref cN,.ref eU] = some false)
  (f_m5:PySem.W.kitOne K (.ref aA) (.type "ValueError") = some true)
  (f_m6:PySem.W.kitOne K (.ref aA) (.ref aw) = some false)
  (f_t1:PySem.W.exmOne K (.ref aw) (.ref aI) = some true)
  (f_t2:PySem.W.kitOne K (.ref aw) (.ref aw) = some true)
  (f_t3:PySem.W.kitAny K (.ref aw) [.ref hV,.ref dR,.ref eW,.ref dQ,.ref di,.ref fZ,.ref dP] = some false)
  (f_t4:PySem.W.kitAny K (.ref aw) [.ref dO,.ref eV,.ref dN,.ref fY,.ref cN,.ref eU] = some false)
  (f_t5:PySem.W.kitOne K (.ref aw) (.type "ValueError") = some true)
  (f_t6:PySem.W.kitOne K (.ref aw) (.ref aA) = some false)
  (x_MapError:PySem.W.excIn K aI [.type "ValueError",.type "Exception",.type "BaseException",.type "object"] "ValueError.__new__" = true)
  (b1:PySem.W.readsIn K aI (.type "type") = true) (b2:PySem.W.specialIn K (.ref aI) "__getattribute__" = some (some (.builtin "type.__getattribute__"))) (b3:PySem.W.findCls K (.ref aI) (.type "type") "__init__" = some (.val (.builtin "ValueError.__init__")))
  {nm_NoText pd:Str} {eK cQ:Addr} {qh mM:List Value} {o1:List Str} {ql:Bool} {nK:Option Bool} {pW pw qk:Option Addr} {pJ pI pH pG pF:Option Value} {o4:Array (Option Value)} {pz pE pX pf iP pZ:Value}
  (lk_NoText:K.lookup aw = some (excClassObj nm_NoText pd aw eK qh (.ref aI :: EM) true o1 mM ql nK pW pJ pI pH pG pF "ValueError.__new__"))
  (i1_NoText:PySem.W.findIn K (.ref aw) "__init__" = some (some (.ref cQ))) (i2_NoText:PySem.W.typeIn K (.ref cQ) = some (.type "function")) (i3_NoText:PySem.W.keepIn K (.ref aw) = true) (i4_NoText:PySem.W.findIn K (.ref aw) "__setattr__" = some (some (.builtin "object.__setattr__"))) (i5_NoText:PySem.W.mroIn K aw (.type "object") = some true) (i6_NoText:PySem.W.findIn K (.ref aw) "row" = some none) (i7_NoText:PySem.W.hasDictIn K aw = true)
  (li_NoText:K.lookup cQ = some ⟨pz,pw,.func (PySem.W.fnOf "__init__" "NoText.__init__" (aH bH) (aD bH) (ah bH) .none pE pX pf qk iP pZ),o4⟩) (ci_NoText:PySem.W.codeIn K iP "NoText.__init__" = true) (ki_NoText:PySem.W.keepIn K (.ref cQ) = true)
  {nm_NoMap rJ:Str} {kR dA:Addr} {tL oZ:List Value} {qO:List Str} {tP:Bool} {p6:Option Bool} {tf rZ tN:Option Addr} {sC sA sx sv su:Option Value} {qP:Array (Option Value)} {r6 sr tm rN jM tu:Value}
  (lk_NoMap:K.lookup aA = some (excClassObj nm_NoMap rJ aA kR tL (.ref aI :: EM) true qO oZ tP p6 tf sC sA sx sv su "ValueError.__new__"))
  (i1_NoMap:PySem.W.findIn K (.ref aA) "__init__" = some (some (.ref dA))) (i2_NoMap:PySem.W.typeIn K (.ref dA) = some (.type "function")) (i3_NoMap:PySem.W.keepIn K (.ref aA) = true) (i4_NoMap:PySem.W.findIn K (.ref aA) "__setattr__" = some (some (.builtin "object.__setattr__"))) (i5_NoMap:PySem.W.mroIn K aA (.type "object") = some true) (i6_NoMap:PySem.W.findIn K (.ref aA) "place" = some none) (i7_NoMap:PySem.W.hasDictIn K aA = true)
  (li_NoMap:K.lookup dA = some ⟨r6,rZ,.func (PySem.W.fnOf "__init__" "NoMap.__init__" (aH bM) (aD bM) (ah bM) .none sr tm rN tN jM tu),qP⟩) (ci_NoMap:PySem.W.codeIn K jM "NoMap.__init__" = true) (ki_NoMap:PySem.W.keepIn K (.ref dA) = true)
  {mK:Tok} (g_FIGURES:PySem.W.nsIn K mainGlobals "FIGURES" = some (some (.str "0123456789" mK)))
  {gG:Tok} (g_MOST_FIGURES:PySem.W.nsIn K mainGlobals "MOST_FIGURES" = some (some (.int 60 gG)))
  : ∃ fd:FuncData,(∀ (s:Shared) (v:Value),BindsTo s fd ⟨[v],[]⟩ [("_law_script",v)])∧∀ base:Heap,K.In base→base.Ns mainGlobals mg→fA l.prog w K mg base (bP l.prog w) 10 fa fd ["_law_script"] (j8 K):=by
 have e:=Je.symm.trans (PySem.W.mg_of X G a19)
 cases e
 have T:Txt K mg ⟨aI,di,fZ,fY,dP,dQ,eW,dR,dN,hV,cN,eV,aw,aA,dO,eU⟩:=⟨PySem.W.mg_none_of X G z0,PySem.W.mg_none_of X G z1,PySem.W.mg_none_of X G z2,PySem.W.mg_none_of X G z3,PySem.W.mg_none_of X G z4,PySem.W.mg_none_of X G z5,PySem.W.mg_none_of X G z6,PySem.W.mg_none_of X G z7,PySem.W.mg_none_of X G z8,PySem.W.mg_none_of X G z9,PySem.W.mg_none_of X G z10,PySem.W.mg_none_of X G z11,PySem.W.mg_of X G e_MapError,PySem.W.mg_of X G e_NoNumber,PySem.W.mg_of X G e_NoOne,PySem.W.mg_of X G e_NoTie,PySem.W.mg_of X G e_NoOther,PySem.W.mg_of X G e_NoNames,PySem.W.mg_of X G e_NoLand,PySem.W.mg_of X G e_NoFrame,PySem.W.mg_of X G e_NoThree,PySem.W.mg_of X G e_Flat,PySem.W.mg_of X G e_NotInside,PySem.W.mg_of X G e_NoStep,PySem.W.mg_of X G e_NoText,PySem.W.mg_of X G e_NoMap,PySem.W.mg_of X G e_NoSheet,PySem.W.mg_of X G e_Parted,⟨t1_NoText,t7_NoText,t8_NoText,by rw [t2_NoText]; rfl,t3_NoText,t4,t5,t6_NoText⟩,⟨t1_NoMap,t7_NoMap,t8_NoMap,by rw [t2_NoMap]; rfl,t3_NoMap,t4,t5,t6_NoMap⟩,f_m1,f_m2,f_m3,f_m4,f_m5,f_m6,f_t1,f_t2,f_t3,f_t4,f_t5,f_t6,i7_NoText,i6_NoText,i7_NoMap,i6_NoMap,⟨_,PySem.W.mg_of X G g_FIGURES⟩,⟨_,PySem.W.mg_of X G g_MOST_FIGURES⟩⟩
 have D0:Def K mg "is_wrong" bV ["orders", "place"]:=⟨⟨f0,_,ay (st:=bV) l0 c0 k0,PySem.W.mg_of X G a0,(ay (st:=bV) l0 c0 k0).binds (ps:=["orders", "place"]) fun _ _ _ _ _ _ us hl=>match us,hl with | [_,_],_=>rfl⟩⟩
 have D1:Def K mg "looked" cG ["orders"]:=⟨⟨f1,_,ay (st:=cG) l1 c1 k1,PySem.W.mg_of X G a1,(ay (st:=cG) l1 c1 k1).binds (ps:=["orders"]) fun _ _ _ _ _ _ us hl=>match us,hl with | [_],_=>rfl⟩⟩
 have D2:Def K mg "is_word" b9 ["text"]:=⟨⟨f2,_,ay (st:=b9) l2 c2 k2,PySem.W.mg_of X G a2,(ay (st:=b9) l2 c2 k2).binds (ps:=["text"]) fun _ _ _ _ _ _ us hl=>match us,hl with | [_],_=>rfl⟩⟩
 have D3:Def K mg "order_in" bU ["row", "place"]:=⟨⟨f3,_,ay (st:=bU) l3 c3 k3,PySem.W.mg_of X G a3,(ay (st:=bU) l3 c3 k3).binds (ps:=["row", "place"]) fun _ _ _ _ _ _ us hl=>match us,hl with | [_,_],_=>rfl⟩⟩
 have D4:Def K mg "read" et ["text"]:=⟨⟨f4,_,ay (st:=et) l4 c4 k4,PySem.W.mg_of X G a4,(ay (st:=et) l4 c4 k4).binds (ps:=["text"]) fun _ _ _ _ _ _ us hl=>match us,hl with | [_],_=>rfl⟩⟩
 have D5:Def K mg "_law_cell_at" aU ["_law_script", "_law_k"]:=⟨⟨f5,_,ay (st:=aU) l5 c5 k5,PySem.W.mg_of X G a5,(ay (st:=aU) l5 c5 k5).binds (ps:=["_law_script", "_law_k"]) fun _ _ _ _ _ _ us hl=>match us,hl with | [_,_],_=>rfl⟩⟩
 have D6:Def K mg "_law_whole" bw ["_law_found"]:=⟨⟨f6,_,ay (st:=bw) l6 c6 k6,PySem.W.mg_of X G a6,(ay (st:=bw) l6 c6 k6).binds (ps:=["_law_found"]) fun _ _ _ _ _ _ us hl=>match us,hl with | [_],_=>rfl⟩⟩
 have D7:Def K mg "_law_block" bB ["_law_script", "_law_k"]:=⟨⟨f7,_,ay (st:=bB) l7 c7 k7,PySem.W.mg_of X G a7,(ay (st:=bB) l7 c7 k7).binds (ps:=["_law_script", "_law_k"]) fun _ _ _ _ _ _ us hl=>match us,hl with | [_,_],_=>rfl⟩⟩
 have D8:Def K mg "_law_mixed" bA ["_law_script", "_law_k"]:=⟨⟨f8,_,ay (st:=bA) l8 c8 k8,PySem.W.mg_of X G a8,(ay (st:=bA) l8 c8 k8).binds (ps:=["_law_script", "_law_k"]) fun _ _ _ _ _ _ us hl=>match us,hl with | [_,_],_=>rfl⟩⟩
 have D9:Def K mg "_law_any" bW ["_law_script", "_law_start", "_law_many"]:=⟨⟨f9,_,ay (st:=bW) l9 c9 k9,PySem.W.mg_of X G a9,(ay (st:=bW) l9 c9 k9).binds (ps:=["_law_script", "_law_start", "_law_many"]) fun _ _ _ _ _ _ us hl=>match us,hl with | [_,_,_],_=>rfl⟩⟩
 have KR:Def K mg "_law_rows" bL ["_law_orders"]:=⟨⟨Bb,_,ay (st:=bL) l10 c10 k10,PySem.W.mg_of X G a10,(ay (st:=bL) l10 c10 k10).binds (ps:=["_law_orders"]) fun _ _ _ _ _ _ us hl=>match us,hl with | [_],_=>rfl⟩⟩
 have KQ:Def K mg "_law_spoiled" aS ["_law_text", "_law_number_here"]:=⟨⟨Ba,_,ay (st:=aS) l11 c11 k11,PySem.W.mg_of X G a11,(ay (st:=aS) l11 c11 k11).binds (ps:=["_law_text", "_law_number_here"]) fun _ _ _ _ _ _ us hl=>match us,hl with | [_,_],_=>rfl⟩⟩
 have KP:Def K mg "_law_number" bh ["_law_word"]:=⟨⟨A9,_,ay (st:=bh) l12 c12 k12,PySem.W.mg_of X G a12,(ay (st:=bh) l12 c12 k12).binds (ps:=["_law_word"]) fun _ _ _ _ _ _ us hl=>match us,hl with | [_],_=>rfl⟩⟩
 have KO:Def K mg "_law_order" bx ["_law_row", "_law_place"]:=⟨⟨A8,_,ay (st:=bx) l13 c13 k13,PySem.W.mg_of X G a13,(ay (st:=bx) l13 c13 k13).binds (ps:=["_law_row", "_law_place"]) fun _ _ _ _ _ _ us hl=>match us,hl with | [_,_],_=>rfl⟩⟩
 have KN:Def K mg "_law_bad_place" aL ["_law_orders"]:=⟨⟨A7,_,ay (st:=aL) l14 c14 k14,PySem.W.mg_of X G a14,(ay (st:=aL) l14 c14 k14).binds (ps:=["_law_orders"]) fun _ _ _ _ _ _ us hl=>match us,hl with | [_],_=>rfl⟩⟩
 have KL:Def K mg "_law_caught" bo ["_law_text"]:=⟨⟨A6,_,ay (st:=bo) l15 c15 k15,PySem.W.mg_of X G a15,(ay (st:=bo) l15 c15 k15).binds (ps:=["_law_text"]) fun _ _ _ _ _ _ us hl=>match us,hl with | [_],_=>rfl⟩⟩
 have KJ:Def K mg "_law_strange" aR ["_law_caught_here"]:=⟨⟨A5,_,ay (st:=aR) l16 c16 k16,PySem.W.mg_of X G a16,(ay (st:=aR) l16 c16 k16).binds (ps:=["_law_caught_here"]) fun _ _ _ _ _ _ us hl=>match us,hl with | [_],_=>rfl⟩⟩
 have KI:Def K mg "_law_no_text" aT ["_law_text", "_law_row"]:=⟨⟨A4,_,ay (st:=aT) l17 c17 k17,PySem.W.mg_of X G a17,(ay (st:=aT) l17 c17 k17).binds (ps:=["_law_text", "_law_row"]) fun _ _ _ _ _ _ us hl=>match us,hl with | [_,_],_=>rfl⟩⟩
 have KH:Def K mg "_law_no_map" bj ["_law_text", "_law_place"]:=⟨⟨A3,_,ay (st:=bj) l18 c18 k18,PySem.W.mg_of X G a18,(ay (st:=bj) l18 c18 k18).binds (ps:=["_law_text", "_law_place"]) fun _ _ _ _ _ _ us hl=>match us,hl with | [_,_],_=>rfl⟩⟩
 refine ⟨PySem.W.fnOf "law" "law" (aH fH) (aD fH) (ah fH) .none zg zT yU Ah xP zW,fun s v=>.of_eq rfl,fun base hK hG=>?_⟩
 have jV:mv K aw aI cQ "row":=⟨oE lk_NoText x_MapError,i1_NoText,i2_NoText,i3_NoText,i4_NoText,i5_NoText,i6_NoText,i7_NoText,b1,b2,b3⟩
 have jX:xZ l.prog w K mg base (bP l.prog w) 1 aw aI "row" ["self", "row"]:=⟨⟨cQ,_,jV,iz (ay (st:=bH) li_NoText ci_NoText ki_NoText) jV T,(ay (st:=bH) li_NoText ci_NoText ki_NoText).binds (ps:=["self", "row"]) fun _ _ _ _ _ _ us hl=>match us,hl with | [_,_],_=>rfl⟩⟩
 have mw:mv K aA aI dA "place":=⟨oE lk_NoMap x_MapError,i1_NoMap,i2_NoMap,i3_NoMap,i4_NoMap,i5_NoMap,i6_NoMap,i7_NoMap,b1,b2,b3⟩
 have tS:xZ l.prog w K mg base (bP l.prog w) 1 aA aI "place" ["self", "place"]:=⟨⟨dA,_,mw,jd (ay (st:=bM) li_NoMap ci_NoMap ki_NoMap) mw T,(ay (st:=bM) li_NoMap ci_NoMap ki_NoMap).binds (ps:=["self", "place"]) fun _ _ _ _ _ _ us hl=>match us,hl with | [_,_],_=>rfl⟩⟩
 have nQ:=lH (P:=l.prog) (w:=w) (base:=base) D0 T
 have tU:=pj (P:=l.prog) (w:=w) (base:=base) D1 T nQ tS
 have qq:=ni (P:=l.prog) (w:=w) (base:=base) D2 T
 have nP:=lG (P:=l.prog) (w:=w) (base:=base) D3 T qq jX
 have tT:=uu (P:=l.prog) (w:=w) (base:=base) D4 T tU nP
 have iZ:=gO (P:=l.prog) (w:=w) (base:=base) D5 T
 have gf:=je (P:=l.prog) (w:=w) (base:=base) D6 T
 have kT:=jh (P:=l.prog) (w:=w) (base:=base) D7 T
 have gg:=jg (P:=l.prog) (w:=w) (base:=base) D8 T kT
 have nR:=lI (P:=l.prog) (w:=w) (base:=base) D9 T gg
 have mz:=kn (P:=l.prog) (w:=w) (base:=base) KR T
 have iX:=gM (P:=l.prog) (w:=w) (base:=base) KQ T
 have jo:=iA (P:=l.prog) (w:=w) (base:=base) KP T
 have kS:=jf (P:=l.prog) (w:=w) (base:=base) KO T jo
 have gz:=fP (P:=l.prog) (w:=w) (base:=base) KN T
 have dz:=iC (P:=l.prog) (w:=w) (base:=base) KL T tT
 have eL:=gL (P:=l.prog) (w:=w) (base:=base) KJ T
 have iY:=gN (P:=l.prog) (w:=w) (base:=base) KI T gf dz eL jX
 have jq:=iB (P:=l.prog) (w:=w) (base:=base) KH T gf dz eL
 exact wZ (ay (st:=fH) l19 c19 k19) T tT iZ gg nR mz iX kS gz dz iY jq
theorem walk {l:PySem.W.OpenLaw} {q:Program} {loose:List Str} {XP:(Str→Option Value)→Heap→Prop} {YP:World→Heap→Prop} {d:DefRec} {K:Params→PySem.W.Frag} (hn:l.most = some 63) (xA:d.params.defaults = [])
  (hY:∀ (w:World) (h:Heap),YP w h→(K w.params).In h)
  (F:∀ (w:World) (mg:Str→Option Value) (fa:Addr) (h:Heap),(K w.params).In h→h.Ns mainGlobals mg→mg d.name = some (.ref fa)→
   ∃ fd:FuncData,(∀ (s:Shared) (u:Value),BindsTo s fd ⟨[u],[]⟩ [("_law_script",u)])∧∀ base:Heap,(K w.params).In base→base.Ns mainGlobals mg→fA l.prog w (K w.params) mg base (bP l.prog w) 10 fa fd ["_law_script"] (j8 (K w.params))) :
  PySem.W.WalkO q loose XP YP l.row.toRowW d [] (fun f vs=>PySem.call f vs):=
 L2.t9 (n:=63) (k:=10) (x:= "_law_script") (CX:=fun w=>bP l.prog w) (sp:=fun w=>j8 (K w.params)) hn (by decide) xA ⟨rfl,by decide,by decide⟩ hY F (fun _ _ a ns hl _ hS=>⟨a,ns,rfl,hS,hl,fun _=>rfl⟩) fun _ _ _ _ _ z=>pY z
end xV
theorem PySem.W.Fast.tw7971172046782966194:True:=trivial
theorem PySem.W.Fast.tw1194097180507578954:True:=trivial
theorem PySem.W.Fast.tw2829370370439901381:True:=trivial
theorem PySem.W.Fast.tw9025199961504667611:True:=trivial
theorem PySem.W.Fast.tw2765017713104184592:True:=trivial
theorem PySem.W.Fast.tw724555748681703557:True:=trivial
theorem PySem.W.Fast.tw3504026166727689891:True:=trivial
theorem PySem.W.Fast.tw13502263696605162545:True:=trivial
theorem PySem.W.Fast.tw6177956874412462899:True:=trivial
theorem PySem.W.Fast.tw15905379451264198923:True:=trivial
theorem PySem.W.Fast.tw7690303963205869388:True:=trivial
theorem PySem.W.Fast.tw8556449626053851376:True:=trivial
theorem PySem.W.Fast.tw16743337371434692471:True:=trivial
theorem PySem.W.Fast.tw1950060915061391618:True:=trivial
theorem PySem.W.Fast.tw3155224941364154579:True:=trivial
theorem PySem.W.Fast.tw17856306478592190344:True:=trivial
theorem PySem.W.Fast.tw4220412409592398221:True:=trivial
theorem PySem.W.Fast.tw5818047856625659851:True:=trivial
theorem PySem.W.Fast.tw213597463555053336:True:=trivial
theorem PySem.W.Fast.tw12014829125408271204:True:=trivial
theorem PySem.W.Fast.tw4296463196016658823:True:=trivial
theorem PySem.W.Fast.tw13987302185606594855:True:=trivial
theorem PySem.W.Fast.tw9618996190496273947:True:=trivial
theorem PySem.W.Fast.tw3810452315319376948:True:=trivial
theorem PySem.W.Fast.tw18220458176303415815:True:=trivial
theorem PySem.W.Fast.tw11339217209358575954:True:=trivial
theorem PySem.W.Fast.tw13672194835863848112:True:=trivial
theorem PySem.W.Fast.tw7266072056055939774:True:=trivial
theorem PySem.W.Fast.tw109050644464961093:True:=trivial
theorem PySem.W.Fast.tw6837559259942455956:True:=trivial
theorem PySem.W.Fast.tw2373453125987828941:True:=trivial
theorem PySem.W.Fast.tw17149890730678013951:True:=trivial
theorem PySem.W.Fast.tw13837420985896882808:True:=trivial
theorem PySem.W.Fast.tw3365594460300981667:True:=trivial
theorem PySem.W.Fast.tw7191976639113729625:True:=trivial
theorem PySem.W.Fast.tw13434505222833567345:True:=trivial
theorem PySem.W.Fast.tw17907362386820293470:True:=trivial
theorem PySem.W.Fast.tw2796345223170020134:True:=trivial
theorem PySem.W.Fast.tw4257954111312661286:True:=trivial
theorem PySem.W.Fast.tw8004392474822356715:True:=trivial
theorem PySem.W.Fast.tw6384222964639158134:True:=trivial
theorem PySem.W.Fast.tw4248460532725214571:True:=trivial
theorem PySem.W.Fast.tw1856198586351836722:True:=trivial
open PySem PySem.W PyProof.Rows
set_option maxRecDepth 100000 in
set_option maxHeartbeats 0 in
theorem PySem.Challenge.cw_standup_k97_no_text_holds : PySem.Challenge.rw_standup_k97_no_text.Holds := by
 w_on; o_law; k_head; (case hw=>w_witness2)
 k_fill
 refine xV.walk (l:=PySem.Challenge.rw_standup_k97_no_text) rfl rfl (fun w h Y=>PySem.W.kIn_of Y) ?F
 case F=>
  intro w mg fa h KX G zy
  refine' xV.all_mk KX G zy ?e_MapError ?e_NoNumber ?e_NoOne ?e_NoTie ?e_NoOther ?e_NoNames ?e_NoLand ?e_NoFrame ?e_NoThree ?e_Flat ?e_NotInside ?e_NoStep ?e_NoText ?e_NoMap ?e_NoSheet ?e_Parted ?a0 ?l0 ?c0 ?k0 ?a1 ?l1 ?c1 ?k1 ?a2 ?l2 ?c2 ?k2 ?a3 ?l3 ?c3 ?k3 ?a4 ?l4 ?c4 ?k4 ?a5 ?l5 ?c5 ?k5 ?a6 ?l6 ?c6 ?k6 ?a7 ?l7 ?c7 ?k7 ?a8 ?l8 ?c8 ?k8 ?a9 ?l9 ?c9 ?k9 ?a10 ?l10 ?c10 ?k10 ?a11 ?l11 ?c11 ?k11 ?a12 ?l12 ?c12 ?k12 ?a13 ?l13 ?c13 ?k13 ?a14 ?l14 ?c14 ?k14 ?a15 ?l15 ?c15 ?k15 ?a16 ?l16 ?c16 ?k16 ?a17 ?l17 ?c17 ?k17 ?a18 ?l18 ?c18 ?k18 ?a19 ?l19 ?c19 ?k19 ?z0 ?z1 ?z2 ?z3 ?z4 ?z5 ?z6 ?z7 ?z8 ?z9 ?z10 ?z11 ?t1_NoText ?t7_NoText ?t8_NoText ?t2_NoText ?t3_NoText ?t6_NoText ?t1_NoMap ?t7_NoMap ?t8_NoMap ?t2_NoMap ?t3_NoMap ?t6_NoMap ?t4 ?t5 ?f_m1 ?f_m2 ?f_m3 ?f_m4 ?f_m5 ?f_m6 ?f_t1 ?f_t2 ?f_t3 ?f_t4 ?f_t5 ?f_t6 ?x_MapError ?b1 ?b2 ?b3 ?lk_NoText ?i1_NoText ?i2_NoText ?i3_NoText ?i4_NoText ?i5_NoText ?i6_NoText ?i7_NoText ?li_NoText ?ci_NoText ?ki_NoText ?lk_NoMap ?i1_NoMap ?i2_NoMap ?i3_NoMap ?i4_NoMap ?i5_NoMap ?i6_NoMap ?i7_NoMap ?li_NoMap ?ci_NoMap ?ki_NoMap ?g_FIGURES ?g_MOST_FIGURES
  (case e_MapError=>k_is)
  (case e_NoNumber=>k_is)
  (case e_NoOne=>k_is)
  (case e_NoTie=>k_is)
  (case e_NoOther=>k_is)
  (case e_NoNames=>k_is)
  (case e_NoLand=>k_is)
  (case e_NoFrame=>k_is)
  (case e_NoThree=>k_is)
  (case e_Flat=>k_is)
  (case e_NotInside=>k_is)
  (case e_NoStep=>k_is)
  (case e_NoText=>k_is)
  (case e_NoMap=>k_is)
  (case e_NoSheet=>k_is)
  (case e_Parted=>k_is)
  (case a0=>k_is)
  (case l0=>k_is)
  (case c0=>k_is)
  (case k0=>k_is)
  (case a1=>k_is)
  (case l1=>k_is)
  (case c1=>k_is)
  (case k1=>k_is)
  (case a2=>k_is)
  (case l2=>k_is)
  (case c2=>k_is)
  (case k2=>k_is)
  (case a3=>k_is)
  (case l3=>k_is)
  (case c3=>k_is)
  (case k3=>k_is)
  (case a4=>k_is)
  (case l4=>k_is)
  (case c4=>k_is)
  (case k4=>k_is)
  (case a5=>k_is)
  (case l5=>k_is)
  (case c5=>k_is)
  (case k5=>k_is)
  (case a6=>k_is)
  (case l6=>k_is)
  (case c6=>k_is)
  (case k6=>k_is)
  (case a7=>k_is)
  (case l7=>k_is)
  (case c7=>k_is)
  (case k7=>k_is)
  (case a8=>k_is)
  (case l8=>k_is)
  (case c8=>k_is)
  (case k8=>k_is)
  (case a9=>k_is)
  (case l9=>k_is)
  (case c9=>k_is)
  (case k9=>k_is)
  (case a10=>k_is)
  (case l10=>k_is)
  (case c10=>k_is)
  (case k10=>k_is)
  (case a11=>k_is)
  (case l11=>k_is)
  (case c11=>k_is)
  (case k11=>k_is)
  (case a12=>k_is)
  (case l12=>k_is)
  (case c12=>k_is)
  (case k12=>k_is)
  (case a13=>k_is)
  (case l13=>k_is)
  (case c13=>k_is)
  (case k13=>k_is)
  (case a14=>k_is)
  (case l14=>k_is)
  (case c14=>k_is)
  (case k14=>k_is)
  (case a15=>k_is)
  (case l15=>k_is)
  (case c15=>k_is)
  (case k15=>k_is)
  (case a16=>k_is)
  (case l16=>k_is)
  (case c16=>k_is)
  (case k16=>k_is)
  (case a17=>k_is)
  (case l17=>k_is)
  (case c17=>k_is)
  (case k17=>k_is)
  (case a18=>k_is)
  (case l18=>k_is)
  (case c18=>k_is)
  (case k18=>k_is)
  (case a19=>k_is)
  (case l19=>k_is)
  (case c19=>k_is)
  (case k19=>k_is)
  (case z0=>k_is)
  (case z1=>k_is)
  (case z2=>k_is)
  (case z3=>k_is)
  (case z4=>k_is)
  (case z5=>k_is)
  (case z6=>k_is)
  (case z7=>k_is)
  (case z8=>k_is)
  (case z9=>k_is)
  (case z10=>k_is)
  (case z11=>k_is)
  (case t1_NoText=>k_is)
  (case t7_NoText=>k_is)
  (case t8_NoText=>k_is)
  (case t2_NoText=>k_is)
  (case t3_NoText=>k_is)
  (case t6_NoText=>k_is)
  (case t1_NoMap=>k_is)
  (case t7_NoMap=>k_is)
  (case t8_NoMap=>k_is)
  (case t2_NoMap=>k_is)
  (case t3_NoMap=>k_is)
  (case t6_NoMap=>k_is)
  (case t4=>k_is)
  (case t5=>k_is)
  (case f_m1=>kts_exm)
  (case f_m2=>kit_is)
  (case f_m3=>kit_is)
  (case f_m4=>kit_is)
  (case f_m5=>kit_is)
  (case f_m6=>kit_is)
  (case f_t1=>kts_exm)
  (case f_t2=>kit_is)
  (case f_t3=>kit_is)
  (case f_t4=>kit_is)
  (case f_t5=>kit_is)
  (case f_t6=>kit_is)
  (case x_MapError=>k_exc)
  (case b1=>k_is)
  (case b2=>k_is)
  (case b3=>k_is)
  (case lk_NoText=>k_is)
  (case i1_NoText=>k_is)
  (case i2_NoText=>k_is)
  (case i3_NoText=>k_is)
  (case i4_NoText=>k_is)
  (case i5_NoText=>k_is)
  (case i6_NoText=>k_is)
  (case i7_NoText=>k_is)
  (case li_NoText=>k_is)
  (case ci_NoText=>k_is)
  (case ki_NoText=>k_is)
  (case lk_NoMap=>k_is)
  (case i1_NoMap=>k_is)
  (case i2_NoMap=>k_is)
  (case i3_NoMap=>k_is)
  (case i4_NoMap=>k_is)
  (case i5_NoMap=>k_is)
  (case i6_NoMap=>k_is)
  (case i7_NoMap=>k_is)
  (case li_NoMap=>k_is)
  (case ci_NoMap=>k_is)
  (case ki_NoMap=>k_is)
  (case g_FIGURES=>k_is)
  (case g_MOST_FIGURES=>k_is)
